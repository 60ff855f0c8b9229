import PyProof.Rows.All
import OpenK.KLine
import OpenK.KQuick
import OpenK.KMake
import OpenK.KDescr
import OpenK.KMore
import OpenK.KCls
import OpenK.KGet
import OpenK.KCell
import OpenK.KCall
import OpenK.KWalk
import OpenK.KFacts
import KE.KLam
import KE.KNest
import KE.KNestM
import KE.KItem
import KE.KFromBytes
import KE.KIsAll
import KE.KMinBuiltin
import KE.KxBytes
import KE.KTops
import KE.KTabLook
import Wide.FinOn
import Wide.BytesRules
import Wide.ObjOpen
import Wide.Head
import Wide.Well
import PyProof.EqAt
import PyProof.EqKinds
import PyProof.TupleCall
import PyProof.MinMaxWalk
import PyProof.WalkInts
import PyProof.NeKinds
import PyProof.SliceStr2
import PyProof.StrBlockI
import PyProof.MaxThree
import PyProof.ZipIter
import PyProof.Draws
import PyProof.EnumMake
import PyProof.ListMulRoad
import PyProof.Rows.StrRev
import PyProof.DictItems
import PyProof.ListRange
import PyProof.AutoIntG2
import PyProof.FactsAll.int_6
import KE.KMinKey
import PyProof.Rows.TupDisplay
import PyProof.Rows.CatchBare
import KE.KTryMore
import PyProof.RulesAs
import PyProof.StrOps
import KE.KDictList
import PyProof.Rows.SortShell
import KE.KDictLaws
import KE.KDictSum
import KE.IntBitsLaws
import KE.KIntText
import PyProof.CallStr
import PyProof.StrBlockL
import PyProof.StrLawsChain
import PyProof.StrLawsTight
import PyProof.Rows.StrItems
import PySem.Challenge.RW_leasttolls_k35_closed_sets_too_great
set_option bootstrap.genMatcherCode false
set_option genSizeOf false
set_option tactic.hygienic false
set_option genInjectivity false
set_option genCtorIdx false
set_option compiler.extract_closed false
set_option Elab.async false
set_option linter.all false
set_option maxRecDepth 100000
set_option maxHeartbeats 4000000
open PySem.W renaming Frag->ac,openSeen->be,openGood->bf,tabIn->bB,nsIn->bC,CodeHd->bG,openEnds->bI,keepIn->bJ,findIn->bU,mg_of->bV,kla_fn->cx,emptyDict->cB,kitOne->cG,exmOne->cL,instObj->cN,fnOf->cR,recOk->cT,fnX->cV,xlAt->c9,envX->dE,OpenLaw->dF,makesIn->dI,plainGet->eA,callWith_K->eR,hasDictIn->fe,codeIn->fj,tabObj->ft,plainGet_of->fW,callWith_K0->fX,lookIn->gf,methodObj->gy,plainOver->gA,isFn->ia,cellsFrom_some->ib,takerIn->io,methodCall_KW->iC,mg_none_of->kg,handedIn->kR,codeHdIn->kY,TabsAt->lN,noTabs->lO,LeftO->lS,WalkO->lT
open Bool renaming and_eq_true->ae,false_ne_true->br,false_eq_true->bz,or_eq_true->b7,true_and->dh,not_true->eI,not_eq_true'->fv,and_true->fI,eq_iff_iff->fU,and_eq_true_iff->iJ,or_eq_false_iff->i4,noConfusion->k7,or_false->lW,false_or->lX
open PySem renaming Shared->af,wpAny_bind->ai,Program->aF,wpAny_pure->aG,mem_of_lookup->aK,mainGlobals->aU,Around->aV,cellsFrom->aW,sizeLine->a7,starEach->a9,importedModules->bp,Arguments->bD,wpAny_mono->bF,FuncData->bK,bootBuiltins->cf,wpAny_Call_Name_kw->cr,NameKind->cu,wpAny_newObj_type->cC,wpAny_truthy_bool->cM,backTo->cQ,treeTable->cW,assignEach->cY,wpAny_passesOwn->c8,keywordEach->da,wpAny_call_entry->dk,Paired->dm,wpAny_seqItems->dr,rawInt->du,wpAny_callSpecial?_slot->dw,codeAmong->dz,sysModules->dD,wpAny_specialOf->dG,wpAny_execs_nil->dH,pushCells_keeps->dJ,compareOp->dP,behindInMarks->dQ,wpAny_holding->dR,wpAny_callSpecialIfBoundUnlessNone?_slot->dS,foldedSetIterable->dY,argBest->eB,binaryOp->eJ,attributeBase->eK,bindArgs->eM,IsTupleKey->eQ,wpAny_field->eT,sliceBounds->eV,wpAny_pyIter_list->eZ,codeAny_mono->fg,backToKw->fh,Keyword->fi,wpAny_tryCatch->fm,swapsWith->fA,pushCells->fC,codeAny->fF,relabel->fG,callSpecialIfBoundUnlessNone?->fJ,sizeLine_eq->fK,letOwnedTupleGo->fO,storeName->f7,newFunctionEnv->gj,holding->gz,InCallC->gB,isTrue->gN,IsPart->gP,wpAny_comprehension_free->gQ,plainId_quiet->gR,ExceptHandler->gU,wpAny_forIn_list->gX,builtinsNs->g9,assign->hJ,wpAny_pyNext_range_end->hV,wpAny_pyIter_rangeiter->hZ,name_of_addr->ic,getItem->ie,codeAny_compStart_list->il,codeAny_builtin->ip,wpAny_updateSeq->iq,isSubtype_tuple_tuple->iz,wpAny_storeName_local->iA,wpAny_isTrue_Compare1->iB,codeAny_call_function->iD,wpAny_storeName_cell->iP,wpAny_loadName_local->iQ,IsRangeIter->iR,wpAny_letGo->iX,strIterType->iZ,methodCallForm->i6,PassesOwn->i7,getMethod->i8,callerA->i9,seqItems?->jJ,TriplesOk->jK,valueAt->jL,wpAny_loadName_cell->jQ,wpAny_standAt->jX,swappedStores->jY,annotationsOf->jZ,wpAny_rule->j3,wpAny_pyIter_tuple->j4,wpAny_pyIter_range->j7,wpAny_call->j8,eqIsQuiet_byValue->km,Within->ko,standAt->kq,wpAny_assign_Name->ku,wpAny_sequenceKey->kA,wpAny_typeOf->kB,seqIndex_neg->kC,slot_list_getitem->kD,notedBy->kE,beq_builtin_none->kM,eqIsQuiet->kN,wpAny_isInstance->kO,wpAny_execs_cons->kP,pyNext->kQ,Result->kS,noteFrame->kW,wpAny_Dict_empty->kZ,wpAny_Try_except->k9,seqIndex_of->lf,BindsTo->lz,call->lC,reduceHash->lD,wpAny_Name->lE,Operator->lF,typeIs_str->lH,PlainAttrs->lI,defaultsOf->lK,qualnameIn->lL,quietNames->lM,KeyKind->lV,setFlight->l9,pyIter->mr,typeOf->my
open List renaming getElem?_eq_some_iff->ag,mem_cons_of_mem->ah,range->am,mem_map->ao,mem_cons_self->ar,getElem?_eq_getElem->au,length_map->aw,getElem?_append_right->ay,replicate->aA,mem_cons->aB,getElem?_set_ne->aC,getElem?_append_left->aD,mem_of_getElem?->aE,all_eq_true->aI,size_toArray->aJ,getElem?_map->aL,length_append->aM,mem_singleton->aO,length_cons->aP,mem_append_right->aQ,map_cons->aR,map_append->aS,append_nil->aY,mem_append->aZ,lookup_cons->bh,mem_append_left->bj,append_assoc->bo,filterMap_cons->bu,mem_map_of_mem->bv,length_set->bw,getElem?_set_self->bA,mem_range->bE,map->bL,getElem?_range->bQ,length_take->bR,getElem?_eq_none->bZ,getD_eq_getElem?_getD->cw,map_map->cz,length_singleton->cD,range_succ_eq_map->cF,drop_eq_getElem_cons->cI,set_append_right->cJ,mem_filterMap->cK,nodup_cons->cO,take_of_length_le->cS,contains_iff_mem->c6,getElem?_take_of_lt->db,map_congr_left->dj,cons_append->dq,not_mem_nil->dA,lookup->dB,find?_cons->dL,range_succ->dM,all_cons->dN,getElem?_toArray->dW,mem_iff_getElem->d6,drop_zero->d7,of_mem_zip->eP,length_eq_zero_iff->eW,map_nil->fk,drop_eq_nil_of_le->fx,length_drop->fB,mem_of_mem_take->fM,getElem?_of_mem->fN,length_nil->fT,filterMap_map->gi,nodup_nil->gm,mem_or_eq_of_mem_set->gu,flatten_cons->gC,length_range->gG,ext_getElem?->gJ,length_filterMap_le->gS,any_cons->gT,getElem?_replicate->gY,take_length->g7,nil_append->ir,foldl_cons->iu,take_append_drop->iH,length->iT,forIn_nil->iW,filterMap->iY,pairwise_append->i3,replicate_succ->jS,length_pos_iff->jU,nodup_append->kF,drop_sublist->kG,any_eq_true->kX,mem_filter->lp,forIn_cons->lr,set_append->lw,all_append->ly,take_zero->lP,map_take->l7,all_map->mq,all_nil->mB,set_set->mG
open Nat renaming le_refl->aj,le_trans->aq,lt_of_lt_of_le->az,ne_of_lt->aH,zero_add->bN,add_sub_cancel_left->bO,lt_irrefl->bP,zero_le->cq,not_lt_zero->cH,add_assoc->cU,lt_succ_self->dv,le_succ->dC,le_of_lt->d8,ne_of_gt->ed,lt_trans->fq,le_of_succ_le->gD,lt_succ_of_lt->gE,lt_trichotomy->gI,lt_or_ge->kH,sub_self->kI,add_comm->kJ,sub_zero->kK,le_of_not_lt->kU,not_lt->lJ,mul_le_mul->lQ,le_of_eq->mw,add_zero->mF
open PySem.Heap renaming get?_push_of_some->ak,lt_size->aN,get?_push_size->aX,size_push->cj,get?_update_other->cy,get?_update_self->dU,SameBut->d9,ExtBut->lh
open Option.some renaming inj->av,injEq->kL
open False renaming elim->bn
open Option renaming map_eq_some_iff->bq,map_some->bS,isSome_iff_exists->ci,isSome->eN,isSome_some->gk,isSome_map->gH,isSome_none->ka,getD_none->kT,bind_some->lc
open Ne renaming symm->bH
open PyProof.Rows renaming slot_tuple_getitem->bM,callWith_type1->dX,kindOf->eF,envOfC->fQ,AllBare->fY,subscriptTail_builtinR->ig,entry_tuple_getitem->jR,Constant_none->jW,args_tuple_getitem->j9,SortSt->k8,IntsAre->lA,tail_any->lG,pendingOf->mn
open PySem.W.OpenRow renaming toRowW->bT
open PySem.Builtin.Str renaming strSliceIndices->bW
open PySem.Str renaming ofString->bX
open PySem.Builtin.Range renaming rangeSize->b8,small->jT,rangeFitsLong->lB
open PySem.W.RowW renaming records->b9
open PySem.Builtin.Tuple renaming tupleHashOf->cb,tupleExact->dg,tupleItemsOf->d5
open PySem.Builtin.SmallTypes renaming nextOf->cA
open Int renaming le_refl->cE,toNat_natCast->dZ,le_trans->fu,zero_add->fy,emod_lt_of_pos->kh,natCast_nonneg->ki,le_antisymm->lu,emod_nonneg->lx,le_total->mD
open PySem.F renaming plain_min_loop->cX,slot_tuple_iterator_next->cZ,slot_NoneType_hash->d4,slot_tuple_hash->eY,args_tuple_iterator_next_1->fS,entry_tuple_iterator_next->f6,slot_dict_getitem->gr,entry_min_loop->gZ,plainAttrs_list->g6,slot_list_append->iE,excBase_ValueError->i0,slot_tuple_eq->ln
open PySem.Builtin.Slice renaming slicePlaces->c7,sliceAdjust->eD,sliceApplied->gh,slicePartIndex->lq,sliceFields->lR
open Array renaming length_toList->di,toList_append->eG,forIn_toList->f8,getElem?_eq_getElem->gq,getElem?_mapIdx->iG,getElem?_toList->iI,toList->kr
open PySem.SeqAt.EqAt renaming same->eO,of_refs->f9,none_tuple->iw,tuple_none->iy,int_tuple->iK,str_tuple->iL,tuple_int->iM,tuple_str->iO,none_int->jM,none_str->jN,int_none->jO,str_none->jP,int_str->j0,str_int->j2
open Classical renaming propDecidable->eX
open PySem.Builtin renaming bitNot->fw,bitOr->gO
open PySem.Paired renaming length->fD,mono->mM,snoc->mU
open PySem.Around renaming under_plainId->fL,frames_deeper->iU,under->kx
open PySem.Txt renaming slice->fR
open PySem.Builtin.Builtins renaming bindParams->fZ
open PySem.Calls renaming Name_function_global->ga,callWith_builtin->ik,evalArgs_plain->iV
open PySem.W.OpenLaw renaming wellSaid->gM
open Prod renaming ext->gW
open PySem.Obj renaming mapSeq->ii,data_mapFields->ke
open PySem.SeqAt renaming EqAt->im,RcNeAt->mz,RcAt->mZ
open PySem.Heap.SameBut renaming update->jV
open PySem.SeqAt.RcAt renaming tuples->kj
open PySem.Code renaming isFrame->kz,frames->mQ
open PySem.PassesOwn renaming never->lv
open PySem.Value renaming isStrOf->lU,isInt->mK
open PySem.CmpOf renaming ints_lt->lY
open Function renaming comp->lZ
open PyProof.Rows.IsTup renaming new->l8
open PySem.W.Looks renaming andThen->mH,here->mV,now->m7,ld->m8
open Prod.mk renaming inj->mJ
open PySem.Walks renaming range->mO,list->mY
open PySem.IsRange renaming new->mP
open PySem.Heap.Ns renaming new->mR
open PySem.Heap.IsSliceOf renaming new->mW
abbrev yA:=List (PySem.Addr×PySem.Obj)
abbrev yB:=PySem.Value->PySem.Shared->Prop
abbrev yC:=List (PySem.Str×PySem.Addr)
abbrev yD:=PySem.Str->Option PySem.Value
abbrev yE:=List (Option Nat)
abbrev yF:=Array (Option PySem.Value)
abbrev yG:=List (PySem.Addr×PySem.Addr)
abbrev yH:=List PySem.Value
abbrev yI:=List PySem.Str
abbrev yJ:=Option PySem.Addr
abbrev yK:=Array PySem.Value
abbrev yL:=List PySem.Expr
abbrev yM:=List PySem.Stmt
def Zq0 (_:True:=by first|exact .inl rfl|exact .inr rfl|assumption):=trivial
def Zq1 (_:True:=by decide):=trivial
def Zq2 (_:True:=by first|exact aK7 _ (by decide) (by decide)|rfl):=trivial
def Zq3 (_:True:=by intro _;rfl):=trivial
def Zq4 (_:True:=by rfl):=trivial
def Zq5 (_:True:=by first|exact Or.inl rfl|exact Or.inr (Or.inl rfl)|exact Or.inr (Or.inr rfl)):=trivial
def Zq6 (_:True:=by first|exact .inl rfl|exact .inr rfl):=trivial
def Zq7 (_:True:=by nofun):=trivial
def Zq8 (_:True:=by decide +kernel):=trivial
open Option renaming some->al,none->aT
open Bool renaming true->bY,false->ce
abbrev dO:=@of_decide_eq_true
abbrev ef:=@if_pos
abbrev gc:=@if_neg
abbrev ij:=@decide_eq_true
abbrev iF:=@decide_eq_false
abbrev iN:=@eq_of_beq
abbrev iS:=@absurd
abbrev li:=@decide_eq_true_eq
namespace Internal
noncomputable section
def wl{P:Prop}(h:∀ G:Prop,(P->G)->G):P:=h P λ x=>x
namespace L2
open PySem PySem.Spec PyProof.Rows
def head_of {l:dF}{q:aF}{loose:yI}{H:PySem.W.Hook}{N:Nat}{d:DefRec}{h:List (Str×Expr)}
  (left:lS l.row.prog q loose (λ s=>c9 q [] s&&cT (b9 (bT l.row)) s) H.obs H.val N)
  (z:PySem.W.defOf q l.row.name=al (d,h)) (J:l.row.prog.theDef l.row.name=al (d.params,d.body,d.scope)) (hk:PySem.W.kwWritten? d.params.kwonlyargs d.params.kw_defaults=al h) (B:(!l.row.writes||l.row.records.isEmpty)=bY)
  (k1:l.row.wellSaid=bY) (ok:(PySem.W.chainsOk q&&PySem.W.opensWell l.row.prog&&(PySem.W.frees l.row.toRowW&&l.row.within.isEmpty))=bY) (hb:l.row.prog.bare) (hw:l.row.toRowW.promised)
  (call:lT q loose (PySem.W.XL q []) H.says l.row.toRowW d h λ f vs=>lC f vs):l.row.Holds :=
 PySem.W.holds_open left H.of H.keeps (λ s e=>PySem.W.xl_of s (iJ.mp e).1) PySem.W.XL.keeps z J hk (λ s e=>PySem.W.recFacts_of (iJ.mp e).2) B k1 ok hb hw call
def bh1 {loose:yI}{α:Type}{J}{B:World->α}
  (h0:(bI cW p w N).map (λ s=>((be q loose (bp p.main.body) h bY s).1,(be q loose (bp p.main.body) h bY s).2.1,(be q loose (bp p.main.body) h bY s).2.2.1))=al ((bf q loose).1,(bf q loose).2.1,(bf q loose).2.2.1))
  (Uu:(bI cW p w N).map (λ s=>(be q loose (bp p.main.body) h bY s).2.2.2)=al (bf q loose).2.2.2)
  (Z:(bI cW p w N).map J=al (B w)):(bI cW p w N).map (λ s=>((be q loose (bp p.main.body) h bY s),J s))=al ((bf q loose),B w):=by
 obtain⟨s,a,b⟩:=bq.mp h0;obtain⟨s1,a1,b1⟩:=bq.mp Uu;obtain⟨s',z,Y⟩:=bq.mp Z;rw[a]at z a1;cases z;cases a1;obtain⟨c1,c2⟩:=mJ b;obtain⟨c2,c3⟩:=mJ c2;rw[a];exact congrArg al (gW (gW c1 (gW c2 (gW c3 b1))) Y)
theorem left_rows {loose:yI}{z:World->α} row 
  (a0:∀ w:World,(bI cW p (w.withFollow row ce) N).map (λ s=>((be q loose (bp p.main.body) h bY s).1,(be q loose (bp p.main.body) h bY s).2.1,(be q loose (bp p.main.body) h bY s).2.2.1))=al ((bf q loose).1,(bf q loose).2.1,(bf q loose).2.2.1))
  (a1:∀ w:World,(bI cW p (w.withFollow row ce) N).map (λ s=>(be q loose (bp p.main.body) h bY s).2.2.2)=al (bf q loose).2.2.2)
  (J:∀ w:World,(bI cW p (w.withFollow row bY) N).map (λ s=>((be q loose (bp p.main.body) h bY s).1,(be q loose (bp p.main.body) h bY s).2.1,(be q loose (bp p.main.body) h bY s).2.2.1))=al ((bf q loose).1,(bf q loose).2.1,(bf q loose).2.2.1))
  (b1:∀ w:World,(bI cW p (w.withFollow row bY) N).map (λ s=>(be q loose (bp p.main.body) h bY s).2.2.2)=al (bf q loose).2.2.2)
  (a2:∀ w:World,(bI cW p (w.withFollow row ce) N).map B=al (z (w.withFollow row ce)))
  (b2:∀ w:World,(bI cW p (w.withFollow row bY) N).map B=al (z (w.withFollow row bY))):lS p q loose h B z N:=λ w=>by
 have e:=PySem.World.withFollow_self w row;cases hb:w.params.followText row<;>rw[hb]at e
 .have:=bh1 (a0 w) (a1 w) (a2 w)
  rwa [e]at this
 .have:=bh1 (J w) (b1 w) (b2 w)
  rwa [e]at this
end L2
end
noncomputable section
namespace My
open PySem L2
noncomputable def nmS:Stmt->Bool
 | .Assign [.Name x _] _ _=>decide (x=("__name__"))
 | _=>ce
def vq:aF:={ PySem.Challenge.pw_leasttolls_k35_closed_sets_too_great with main:={ (PySem.Challenge.pw_leasttolls_k35_closed_sets_too_great).main with body:=(PySem.Challenge.pw_leasttolls_k35_closed_sets_too_great).main.body.filter λ s=>!nmS s } }
set_option maxRecDepth 100000 in
set_option maxHeartbeats 0 in
theorem left0:∀ w:World,(bI cW PySem.Challenge.rw_leasttolls_k35_closed_sets_too_great.row.prog (w.withFollow "special-get-raises" ce) 6300).map (λ s=>((be vq ["ClosedSet"] (bp PySem.Challenge.rw_leasttolls_k35_closed_sets_too_great.row.prog.main.body) (λ s=>c9 vq [] s&&cT (b9 (bT PySem.Challenge.rw_leasttolls_k35_closed_sets_too_great.row)) s) bY s).1,(be vq ["ClosedSet"] (bp PySem.Challenge.rw_leasttolls_k35_closed_sets_too_great.row.prog.main.body) (λ s=>c9 vq [] s&&cT (b9 (bT PySem.Challenge.rw_leasttolls_k35_closed_sets_too_great.row)) s) bY s).2.1,(be vq ["ClosedSet"] (bp PySem.Challenge.rw_leasttolls_k35_closed_sets_too_great.row.prog.main.body) (λ s=>c9 vq [] s&&cT (b9 (bT PySem.Challenge.rw_leasttolls_k35_closed_sets_too_great.row)) s) bY s).2.2.1))=al ((bf vq ["ClosedSet"]).1,(bf vq ["ClosedSet"]).2.1,(bf vq ["ClosedSet"]).2.2.1):=λ w=>by kernel_rfl
set_option maxRecDepth 100000 in
set_option maxHeartbeats 0 in
theorem left1:∀ w:World,(bI cW PySem.Challenge.rw_leasttolls_k35_closed_sets_too_great.row.prog (w.withFollow "special-get-raises" ce) 6300).map (λ s=>(be vq ["ClosedSet"] (bp PySem.Challenge.rw_leasttolls_k35_closed_sets_too_great.row.prog.main.body) (λ s=>c9 vq [] s&&cT (b9 (bT PySem.Challenge.rw_leasttolls_k35_closed_sets_too_great.row)) s) bY s).2.2.2)=al (bf vq ["ClosedSet"]).2.2.2:=λ w=>by kernel_rfl
set_option maxRecDepth 100000 in
set_option maxHeartbeats 0 in
theorem left3:∀ w:World,(bI cW PySem.Challenge.rw_leasttolls_k35_closed_sets_too_great.row.prog (w.withFollow "special-get-raises" bY) 6300).map (λ s=>((be vq ["ClosedSet"] (bp PySem.Challenge.rw_leasttolls_k35_closed_sets_too_great.row.prog.main.body) (λ s=>c9 vq [] s&&cT (b9 (bT PySem.Challenge.rw_leasttolls_k35_closed_sets_too_great.row)) s) bY s).1,(be vq ["ClosedSet"] (bp PySem.Challenge.rw_leasttolls_k35_closed_sets_too_great.row.prog.main.body) (λ s=>c9 vq [] s&&cT (b9 (bT PySem.Challenge.rw_leasttolls_k35_closed_sets_too_great.row)) s) bY s).2.1,(be vq ["ClosedSet"] (bp PySem.Challenge.rw_leasttolls_k35_closed_sets_too_great.row.prog.main.body) (λ s=>c9 vq [] s&&cT (b9 (bT PySem.Challenge.rw_leasttolls_k35_closed_sets_too_great.row)) s) bY s).2.2.1))=al ((bf vq ["ClosedSet"]).1,(bf vq ["ClosedSet"]).2.1,(bf vq ["ClosedSet"]).2.2.1):=λ w=>by kernel_rfl
set_option maxRecDepth 100000 in
set_option maxHeartbeats 0 in
theorem left4:∀ w:World,(bI cW PySem.Challenge.rw_leasttolls_k35_closed_sets_too_great.row.prog (w.withFollow "special-get-raises" bY) 6300).map (λ s=>(be vq ["ClosedSet"] (bp PySem.Challenge.rw_leasttolls_k35_closed_sets_too_great.row.prog.main.body) (λ s=>c9 vq [] s&&cT (b9 (bT PySem.Challenge.rw_leasttolls_k35_closed_sets_too_great.row)) s) bY s).2.2.2)=al (bf vq ["ClosedSet"]).2.2.2:=λ w=>by kernel_rfl
inductive IsL:dF->Prop|mk:IsL PySem.Challenge.rw_leasttolls_k35_closed_sets_too_great
def cc4 (h:IsL l):PySem.Challenge.rw_leasttolls_k35_closed_sets_too_great=l:=by cases h;rfl
noncomputable def lwp:{ l:dF // IsL l }:=by
 refine⟨?p,?h⟩
 case h =>
  have e:PySem.Challenge.rw_leasttolls_k35_closed_sets_too_great=?p:=by
   conv=>lhs;reduce
  exact e▸IsL.mk
def ws1:gM lwp.1=true:=by k_qdec
def ws:gM PySem.Challenge.rw_leasttolls_k35_closed_sets_too_great=true:=by
 rw[cc4 lwp.2];exact ws1
end My
end
section
open PySem PySem.W PyProof.Rows
set_option hygiene false in
local macro_rules | `(tactic| o_head $H) => `(tactic| (refine L2.head_of (q := My.vq) (loose := ["ClosedSet"]) (H := $H) (N := 6300) (L2.left_rows "special-get-raises" My.left0 My.left1 My.left3 My.left4 ?my2 ?my5) (by rfl) (by rfl) (by rfl) rfl (by assumption) (by decide +kernel) ⟨rfl, rfl, rfl, rfl, rfl, by decide +kernel⟩ ?_ ?_; (case my2 => exact myl2); (case my5 => exact myl5)))
set_option maxRecDepth 100000 in
set_option maxHeartbeats 0 in
noncomputable def My.GT0:(L2:Prop) ×' (L5:Prop) ×' { G:Prop // L2->L5->G->PySem.Challenge.rw_leasttolls_k35_closed_sets_too_great.Holds }:=by
 refine⟨?L2,?L5,?G,?h⟩
 case h =>
  intro myl2 myl5 g
  w_on;refine holds_law My.ws λ said=>?_;k_head;(focus w_witness2)
  exact g
set_option maxRecDepth 100000 in
set_option maxHeartbeats 0 in
theorem My.left2:My.GT0.1:=λ w=>by kernel_rfl
set_option maxRecDepth 100000 in
set_option maxHeartbeats 0 in
theorem My.left5:My.GT0.2.1:=λ w=>by kernel_rfl
end
noncomputable section
namespace L2
open PySem PySem.Spec PyProof.Rows
abbrev Key:=Sum Int Str
noncomputable def aF6:Key->Value->Bool
 | .inl k,v=>mK k v
 | .inr x,v=>lU x v
noncomputable def cp8 (w:World):Key->Int
 | .inl k=>hashInt k
 | .inr x=>hashStr w x
def zo:∀ {k} {v},aF6 k v=bY->(∃ i t,k=Sum.inl i/\v=Value.int i t)\/(∃ x t,k=Sum.inr x/\v=Value.str x t)
 | .inl i,v,h=>by
  obtain⟨t,e⟩:=Value.isInt_shape h;exact .inl ⟨i,t,rfl,e⟩
 | .inr x,v,h=>by
  obtain⟨t,e⟩:=Value.isStrOf_shape h;exact .inr ⟨x,t,rfl,e⟩
def aW3  i  t :aF6 (.inl i) (.int i t)=true:=by simp[aF6,mK]
def aX0  x  t :aF6 (.inr x) (.str x t)=true:=by simp[aF6,lU]
def ce6  a b :decide ((Sum.inl a:Key)=Sum.inl b)=(a==b):=by
 by_cases e:a=b
 .subst e;simp
 .have h:¬(Sum.inl a:Key)=Sum.inl b:=λ q=>e (Sum.inl.inj q);rw[iF h];exact(beq_eq_false_iff_ne.mpr e).symm
def ca5  a b :decide ((Sum.inr a:Key)=Sum.inr b)=decide (a=b):=by
 by_cases e:a=b
 .subst e;simp
 .have h:¬(Sum.inr a:Key)=Sum.inr b:=λ q=>e (Sum.inr.inj q);rw[iF h,iF e]
def bV8  a  b :decide ((Sum.inl a:Key)=Sum.inr b)=false:=iF (λ q=>nomatch q)
def bS2  a  b :decide ((Sum.inr a:Key)=Sum.inl b)=false:=iF (λ q=>nomatch q)
def zT  prog  w :lV prog w Key where
 is:=aF6
 hash:=cp8 w
 inj:=λ v a b ha hb=>by
  rcases zo ha with⟨i,t,rfl,rfl⟩|⟨x,t,rfl,rfl⟩
  .rcases zo hb with⟨j,u,rfl,e⟩|⟨y,u,rfl,e⟩
   .injection e with e1 _;rw[e1]
   .exact nomatch e
  .rcases zo hb with⟨j,u,rfl,e⟩|⟨y,u,rfl,e⟩
   .exact nomatch e
   .injection e with e1 _;rw[e1]
 byValue:=λ k v h=>by
  rcases zo h with⟨i,t,rfl,rfl⟩|⟨x,t,rfl,rfl⟩<;>rfl
 pyHash:=λ hv h=>by
  rcases zo hv with⟨i,t,rfl,rfl⟩|⟨x,t,rfl,rfl⟩
  .exact wpAny_pyHash_int h
  .exact wpAny_pyHash_str h
 eqBool:=λ hu hv h=>by
  rcases zo hu with⟨i,t,rfl,rfl⟩|⟨x,t,rfl,rfl⟩
  .rcases zo hv with⟨j,u,rfl,rfl⟩|⟨y,u,rfl,rfl⟩
   .rw[ce6]at h;exact wpAny_eqBool_int h
   .rw[bV8]at h;exact j0 i t y u _ _ _ _ h
  .rcases zo hv with⟨j,u,rfl,rfl⟩|⟨y,u,rfl,rfl⟩
   .rw[bS2]at h;exact j2 x t j u _ _ _ _ h
   .rw[ca5]at h;exact wpAny_eqBool_str h
 «strs»:=λ k x t v h=>by
  rcases zo h with⟨i,u,rfl,e⟩|⟨y,u,rfl,e⟩
  .exact nomatch e
  .injection e with e1 _;subst e1;cases v<;>rfl
def aH2  prog  w  i  t :(zT prog w).is (.inl i) (.int i t)=true:=aW3 i t
def aI8  prog  w  x  t :(zT prog w).is (.inr x) (.str x t)=true:=aX0 x t
abbrev FK:=Option Key
def fIs:FK->Value->Bool
 | none,v=>match v with|.none=>bY|_=>ce
 | some k,v=>aF6 k v
def fH (w:World):FK->Int
 | none=>0xFCA86420
 | some k=>cp8 w k
def zY (h:fIs aT v=bY):v=.none:=by
 cases v with
 | none=>rfl
 | _=>exact nomatch h
def aZ7 {E:yB}(h:Q 0xFCA86420 { s with toks:=s.toks+1 }):wpAny (model P w) A (PySem.pyHash .none) Q E s:=by
 have hT:s.TypeIs .none "NoneType":=rfl;unfold PySem.pyHash pyHashByItsType;refine ai (wpAny_cRoomFor_byValue rfl ?_);refine ai (dG hT d4.lookup ?_)
 skip
 rw[gc (by rw[kM];exact br)];refine ai (dG hT d4.lookup ?_)
 skip
 refine ai (dS hT d4 (dk d4 hT F.entry_NoneType_hash
   (wpAny_ret_mkInt ?_) (F.args_NoneType_hash_1 _)))
 show wpAny _ _ (if _ then _ else _) Q E _;rw[ef (by decide)];exact aG h
def jf  prog  w :lV prog w FK where
 is:=fIs
 hash:=fH w
 inj:=λ v a b ha hb=>by
  cases a with
  | none =>
   cases zY ha;cases b with
   | none=>rfl
   | some k=>rcases zo hb with⟨_,_,_,e⟩|⟨_,_,_,e⟩<;>exact nomatch e
  | some k =>
   cases b with
   | none=>cases zY hb;rcases zo ha with⟨_,_,_,e⟩|⟨_,_,_,e⟩<;>exact nomatch e
   | some j=>exact congrArg al ((zT prog w).inj v k j ha hb)
 byValue:=λ k v h=>by
  cases k with
  | none=>cases zY h;rfl
  | some k=>exact(zT prog w).byValue k v h
 pyHash:=λ {A E s k v Q} hv h=>by
  cases k with
  | none=>cases zY hv;exact aZ7 h
  | some k=>exact(zT prog w).pyHash hv h
 eqBool:=λ {A E s a b u v Q} hu hv h=>by
  cases a with
  | none =>
   cases zY hu;cases b with
   | none=>cases zY hv;exact eO _ prog w E Q h
   | some k =>
    rcases zo hv with⟨i,t,rfl,rfl⟩|⟨x,t,rfl,rfl⟩
    .exact jM i t _ _ _ _ h
    .exact jN x t _ _ _ _ h
  | some k =>
   cases b with
   | none =>
    cases zY hv;rcases zo hu with⟨i,t,rfl,rfl⟩|⟨x,t,rfl,rfl⟩
    .exact jO i t _ _ _ _ h
    .exact jP x t _ _ _ _ h
   | some j =>
    refine(zT prog w).eqBool hu hv ?_
    simp_all
 «strs»:=λ k x t v h=>by
  cases k with
  | none=>exact nomatch zY h
  | some k=>exact(zT prog w).strs k x t v h
abbrev NI:=Sum FK (List FK)
section
variable (P:aF) (w:World)
def NIs (h:Heap):NI->Value->Prop
 | .inl f,v=>fIs f v=bY
 | .inr l,v=>∃ b,v=.ref b/\eQ (jf P w) h l b
def bx2 (h:Heap)(ks:List NI)(a:Addr):Prop:=∃ o its n,h.get? a=al o/\o.cls=.type "tuple"/\o.data=.seq its n/\dm (NIs P w h) ks its.toList
def aI0:NI->Int
 | .inl f=>fH w f
 | .inr l=>tupleKeyHash (jf P w) l
noncomputable def aV5:NI->Nat
 | .inl f=>1
 | .inr l=>l.length+1
def jw:List NI->Nat
 | []=>0
 | k::ks=>aV5 k+jw ks
end
section
variable {P:aF} {w:World} {h h':Heap}
theorem NIs.inj (hx:NIs P w h x v)(hy:NIs P w h y v):x=y:=by
 cases x with
 | inl f =>
  cases y with
  | inl g=>exact congrArg Sum.inl ((jf P w).inj v f g hx hy)
  | inr l =>
   obtain⟨b,rfl,_⟩:=hy;exact iS ((jf P w).byValue f _ hx) (by nofun)
 | inr l =>
  obtain⟨b,rfl,hb⟩:=hx;cases y with
  | inl g=>exact iS ((jf P w).byValue g _ hy) (by nofun)
  | inr m =>
   obtain⟨c,e,hc⟩:=hy;cases e;exact congrArg Sum.inr (hb.inj hc)
theorem NIs.all_inj:∀ {x y} {vs:yH},dm (NIs P w h) x vs->dm (NIs P w h) y vs->x=y
 | _,_,_,.nil,.nil=>rfl
 | _,_,_,.cons a p,.cons b q=>by rw[a.inj b,NIs.all_inj p q]
def bx2.inj (hx:bx2 P w h x a)(hy:bx2 P w h y a):x=y:=by
 obtain⟨o,i,n,e,_,d,p⟩:=hx;obtain⟨J,Uu,B,e',_,d',z⟩:=hy;rw[e]at e';cases e';rw[d]at d';cases d';exact NIs.all_inj p z
def NIs.keep (k:∀ b l,eQ (jf P w) h l b->eQ (jf P w) h' l b)(hx:NIs P w h x v):NIs P w h' x v:=by
 cases x with
 | inl f=>exact hx
 | inr l=>obtain⟨b,e,p⟩:=hx;exact⟨b,e,k _ _ p⟩
def bM9 {E:yB}(hu:A.units+1<cLine)(hk:bx2 P w s.heap k a)
  (h:Q (lD (cb (k.map (aI0 P w)))) { s with toks:=s.toks+(jw k+1) }):wpAny (model P w) A (PySem.pyHash (.ref a)) Q E s:=by
 obtain⟨o,its,n,e,c,d,p⟩:=hk;have hT:s.TypeIs (.ref a) "tuple":=⟨o,e,c⟩
 unfold PySem.pyHash pyHashByItsType;refine ai (wpAny_cRoomFor (by lia) ?_);refine ai (dG hT eY.lookup ?_)
 skip
 rw[gc (by rw[kM];nofun)];refine ai (dG hT eY.lookup ?_)
 skip
 refine ai (dS hT eY (dk eY hT F.entry_tuple_hash ?_ (F.args_tuple_hash_1 _)));show wpAny _ _ (d5 (.ref a) >>= _) _ _ s;refine ai (wpAny_tupleItemsOf e d (ai ?_));rw[<-f8];refine gX _
  (λ rest (b) s'=>∃ q r,k=q++r/\dm (NIs P w s.heap) r rest/\b.toList=q.map (aI0 P w)/\s'={ s with toks:=s.toks+jw q }) _ ?_ ?_ _ _ ⟨[],k,rfl,p,rfl,rfl⟩
 .rintro x rest b s' ⟨q,r,rfl,pr,hb,rfl⟩
  cases pr with
  | @cons u _ r' _ h1 t =>
   have z:∀ q:List NI,jw (q++[u])=jw q+aV5 u:=λ q=>by
    induction q with
    | nil=>simp[jw]
    | cons c q ih=>rw[dq,jw,jw,ih];lia
   refine ai ?_;cases u with
   | inl f =>
    refine(jf P w).pyHash h1 ?_
    first
     | exact aG ⟨q++[.inl f],r',by simp,t,by simp[];rfl,by rw[z];simp[cU]⟩
     | exact ai (aG (aG ⟨q++[.inl f],r',by simp,t,by simp[hb];rfl,by rw[z];simp[aV5,cU]⟩))
   | inr l =>
    obtain⟨J,rfl,B⟩:=h1;refine wpAny_pyHash_tuple (show A.units+1<cLine from hu) B ?_
    first
     | exact aG ⟨q++[.inr l],r',by simp,t,by simp[hb];rfl,by rw[z];simp[aV5,cU]⟩
     | exact ai (aG (aG ⟨q++[.inr l],r',by simp,t,by simp[hb];rfl,by rw[z];simp[aV5,cU]⟩))
 .rintro b s' ⟨q,r,rfl,pr,hb,rfl⟩
  cases pr;rw[aY]at h;show wpAny _ _ (retInt (cb b.toList)) _ _ _;rw[hb];refine wpAny_ret_mkInt ?_;show wpAny _ _ (if(decide (-(2:Int)^63<=cb (q.map (aI0 P w)))&&decide (cb (q.map (aI0 P w))<2^63))=bY then _ else _) Q E _;unfold lD at h;by_cases hr:(decide (-(2:Int)^63<=cb (q.map (aI0 P w)))&&decide (cb (q.map (aI0 P w))<2^63))=bY
  .rw[ef hr]at h ⊢;exact aG (by simpa [cU]using h)
  .rw[gc hr]at h ⊢;exact ai (j3 (aG (by simpa [cU]using h)))
def aP3 (x:eQ (jf P w) h l b):∃ its,h.IsTuple b its:=let⟨o,its,n,e,c,d,_⟩:=x;⟨its,o,e,c,n,d⟩
theorem ItemsAre.cg :∀ {l} {vs:yH},ItemsAre (jf P w) l vs->ItemsAre (jf z B) l vs
 | _,_,.nil=>.nil
 | _,_,.cons h t=>.cons (h) (ItemsAre.cg t)
theorem eQ.cg :eQ (jf P w) h l b->eQ (jf z B) h l b:=λ⟨o,i,n,e,c,d,p⟩=>⟨o,i,n,e,c,d,ItemsAre.cg p⟩
theorem NIs.cg (hx:NIs P w h x v):NIs z B h x v:=by
 cases x with
 | inl f=>exact hx
 | inr l=>obtain⟨b,e,p⟩:=hx;exact⟨b,e,eQ.cg p⟩
def co6 (hu:A.units<cLine)(hx:NIs P w s.heap x u)(hy:NIs P w s.heap y v){E:yB}(h:Q (decide (x=y)) s):wpAny (model P w) A (PySem.eqBool u v) Q E s:=by
 cases x with
 | inl f =>
  cases y with
  | inl g =>
   refine(jf P w).eqBool hx hy ?_
   simp_all
  | inr l =>
   obtain⟨b,rfl,hb⟩:=hy;obtain⟨its,ht⟩:=aP3 hb;cases f with
   | none=>cases zY hx;exact iw ht hu _ _ _ _ h
   | some k =>
    rcases zo hx with⟨i,t,rfl,rfl⟩|⟨z,t,rfl,rfl⟩
    .exact iK i t ht hu _ _ _ _ h
    .exact iL z t ht hu _ _ _ _ h
 | inr l =>
  obtain⟨b,rfl,hb⟩:=hx;cases y with
  | inl f =>
   obtain⟨its,ht⟩:=aP3 hb;cases f with
   | none=>cases zY hy;exact iy ht hu _ _ _ _ h
   | some k =>
    rcases zo hy with⟨i,t,rfl,rfl⟩|⟨z,t,rfl,rfl⟩
    .exact iM i t ht hu _ _ _ _ h
    .exact iO z t ht hu _ _ _ _ h
  | inr m =>
   obtain⟨c,rfl,hc⟩:=hy;refine wpAny_eqBool_tuple hu hb hc ?_
   simp_all
theorem aZ3:∀(x y:List NI),((am (min x.length y.length)).all (λ j=>decide (x[j]?=y[j]?))&&x.length==y.length)=decide (x=y)
 | [],[]=>rfl
 | [],_::_=>by simp
 | _::_,[]=>by simp
 | a::x,b::y=>by
  have h:=aZ3 x y;have z:min (a::x).length (b::y).length=min x.length y.length+1:=by simp_all
  rw[z,cF,dN,mq];by_cases e:a=b
  .subst e;have:decide (a::x=a::y)=decide (x=y):=by simp
   rw[this,<-h];simp[Function.comp_def]
  .have:decide ((a::x)[0]?=(b::y)[0]?)=false:=by simp[e]
   rw[this];simp[e]
theorem bI9 :∀ {B} {z},dm F B z->∀ j  (h:j<z.length),∃ a,B[j]?=al a/\F a z[j]
 | _,_,.nil,j,h=>iS h (cH _)
 | _,_,.cons r t,0,h=>⟨_,rfl,r⟩
 | _,_,.cons r t,j+1,h=>bI9 t j (Nat.lt_of_succ_lt_succ h)
def cl8 {E:yB}(hu:A.units+1<cLine)(hx:bx2 P w s.heap x a)(hy:bx2 P w s.heap y b)(h:Q (decide (x=y)) s) :
  wpAny (model P w) A (PySem.eqBool (.ref a) (.ref b)) Q E s:=by
 by_cases hab:a=b
 .subst hab;cases hx.inj hy;rw[ij rfl]at h;exact eO _ _ _ _ _ h
 .obtain⟨o,i,n,e,c,d,p⟩:=hx;obtain⟨J,i',n',e',Uu,d',z⟩:=hy;have l1:x.length=i.size:=fD p;have Y:y.length=i'.size:=fD z;have key:=kj (A:=A) (e:=λ j=>decide (x[j]?=y[j]?)) ⟨o,e,c,n,d⟩ ⟨J,e',Uu,n',d'⟩ (by lia) λ j B h2 prog w' E' Q' hq=>by
   obtain⟨u,Z,q2⟩:=bI9 p j (by simp_all);obtain⟨v,r1,r2⟩:=bI9 z j (by simp_all);refine co6 (hu) (NIs.cg (by simpa using q2)) (NIs.cg (by simpa using r2)) ?_
   simp_all
  rw[<-l1,<-Y,aZ3]at key;exact f9 hab key P w E Q h
def aR2 {E:yB}(hx:NIs P w s.heap x v)(z:Q bY s):wpAny (model P w) A (kN 7 v) Q E s:=by
 cases x with
 | inl f=>rw[km _ ((jf P w).byValue f _ hx)];exact aG z
 | inr l =>
  obtain⟨b,rfl,o,its,n,e,c,d,p⟩:=hx;have hT:s.TypeIs (.ref b) "tuple":=⟨o,e,c⟩
  unfold kN;refine ai (dG hT ln.lookup ?_)
  skip
  refine ai (kO hT iz ?_);simp only[if_false];refine ai (dr e d (ai ?_))
  skip
  rw[<-f8];refine gX _ (λ rest r s'=>r.1=aT/\s'=s/\∀ v∈rest,carriedByValue v=bY) _ ?_ ?_ _ _ ⟨rfl,rfl,p.byValue⟩
  .rintro v rest r s' ⟨hr,rfl,h⟩
   rw[km _ (h v ar)];refine ai (aG ?_);simp only[eI,if_false];exact aG ⟨rfl,rfl,λ u q=>h u (ah _ q)⟩
  .rintro⟨r1,B⟩ s' ⟨hr,rfl,_⟩
   simp only at hr;subst hr;exact aG z
def bv3 {E:yB}(hk:bx2 P w s.heap k a)(z:Q bY s):wpAny (model P w) A (kN 8 (.ref a)) Q E s:=by
 obtain⟨o,its,n,e,c,d,p⟩:=hk;have hT:s.TypeIs (.ref a) "tuple":=⟨o,e,c⟩
 unfold kN;refine ai (dG hT ln.lookup ?_)
 skip
 refine ai (kO hT iz ?_);simp only[if_false];refine ai (dr e d (ai ?_))
 skip
 rw[<-f8];refine gX _ (λ rest r s'=>r.1=aT/\s'=s/\∃ ks,dm (NIs P w s.heap) ks rest) _ ?_ ?_ _ _ ⟨rfl,rfl,k,p⟩
 .rintro v rest r s' ⟨hr,rfl,ks,h⟩
  cases h with
  | cons h1 t =>
   refine ai (aR2 h1 ?_);simp only[eI,if_false];exact aG ⟨rfl,rfl,_,t⟩
 .rintro⟨r1,B⟩ s' ⟨hr,rfl,_⟩
  simp only at hr;subst hr;exact aG z
end
def aA7  P  w :HeapKind P w (List NI) where
 is:=bx2 P w
 hash:=λ k=>lD (cb (k.map (aI0 P w)))
 draws:=λ k=>jw k+1
 room:=λ A=>A.units+1<cLine
 inj:=λ hx hy=>hx.inj hy
 keeps:=λ {h h' k a d o es ep} x ho hd hs=>by
  obtain⟨o',i,n,e,c,q,p⟩:=x;have ne:a≠d:=by
   rintro rfl
   rw[e]at ho;cases ho;rw[hd]at q;cases q
  exact⟨o',i,n,(hs.2 a ne).trans e,c,q,mM (λ x v z=>NIs.keep (λ b l t=>t.keeps ho hd hs) z) p⟩
 pyHash:=λ hu hk h=>bM9 hu hk h
 eqBool:=λ hu hx hy h=>cl8 hu hx hy h
 quiet:=λ hk h=>bv3 hk h
set_option genCtorIdx true in
set_option genInjectivity true in
inductive V where
 | N|T (b:Bool)|int (i:Int)|str (x:Str)|byt (b:Array UInt8)|flt (b:UInt64)|ref (a:Addr)|ty (n:String)
 deriving DecidableEq
noncomputable def RelV:V->Value->Prop
 | .N,u=>u=Value.none
 | .T b,u=>u=Value.bool b
 | .int i,u=>∃ t,u=Value.int i t
 | .str x,u=>∃ t,u=Value.str x t
 | .byt b,u=>∃ t,u=Value.bytes b t
 | .flt b,u=>∃ t,u=Value.float b t
 | .ref a,u=>u=Value.ref a
 | .ty n,u=>u=Value.type n
abbrev Vals:List V->List Value->Prop:=dm RelV
theorem Vals.length {us:yH}(r:Vals h us):h.length=us.length:=fD r
theorem Vals.get:∀ {h} {us:yH} {i:Nat} {x},Vals h us->h[i]?=al x->∃ u,us[i]?=al u/\RelV x u
 | _,_,_,_,.nil,e=>by simp at e
 | _,_,0,_,.cons r _,e=>by simp at e;subst e;exact⟨_,rfl,r⟩
 | _,_,i+1,x,.cons _ t,e=>by
  obtain⟨u,z,B⟩:=Vals.get t (by simpa using e);exact⟨u,by simpa using z,B⟩
theorem Vals.set (r:RelV x u):∀ {h} {us:yH}  i ,Vals h us->Vals (h.set i x) (us.set i u)
 | _,_,_,.nil=>.nil
 | _,_,0,.cons _ t=>.cons r t
 | _,_,i+1,.cons q t=>.cons q (Vals.set r i t)
theorem Vals.append:∀ {h ys} {us ws:yH},Vals h us->Vals ys ws->Vals (h++ys) (us++ws)
 | _,_,_,_,.nil,s=>s
 | _,_,_,_,.cons r t,s=>.cons r (Vals.append t s)
theorem Vals.take:∀ {h} {us:yH}  n ,Vals h us->Vals (h.take n) (us.take n)
 | _,_,0,_=>.nil
 | _,_,_+1,.nil=>.nil
 | _,_,n+1,.cons r t=>.cons r (Vals.take n t)
theorem Vals.drop:∀ {h} {us:yH}  n ,Vals h us->Vals (h.drop n) (us.drop n)
 | _,_,0,r=>r
 | _,_,_+1,.nil=>.nil
 | _,_,n+1,.cons _ t=>Vals.drop n t
def az9:Option V->Option Value->Prop
 | some v,al u=>RelV v u
 | none,aT=>True
 | _,_=>False
def KV :List (κ×V)->List (κ×Value)->Prop:=dm λ(p) (q)=>p.1=q.1/\RelV p.2 q.2
noncomputable def kV:Key->V
 | .inl i=>.int i
 | .inr x=>.str x
inductive HO where
 | J (xs:List V)
 | tp (xs:List V)
 | dK (kvs:List (Key×V))|dT (kvs:List (List NI×V))
 | set (S:Int->Bool) (n:Nat)
 | ins (Cc dx:Addr) (fs:List (Str×V))
 | own (x:Addr)
 | xd (fs:List (Str×V))
 | met (f x:Addr)
 | rng (lo hi:Int)
 | frz (o:Obj) (u:HO)
 | tbl (ps:yK)
 | ext (C:Heap->Prop)
noncomputable abbrev HO.ctorIdx (x:HO):Nat:=HO.casesOn x (λ _=>0) (λ _=>1) (λ _=>2) (λ _=>3) (λ _ _=>4) (λ _ _ _=>5) (λ _=>6) (λ _=>7) (λ _ _=>8) (λ _ _=>9) (λ _ _=>10) (λ _=>11) (λ _=>12)
abbrev Hp:=Addr->Option HO
def fV:FK->V
 | none=>.N
 | some k=>kV k
def NAt (H:Hp):NI->V->Prop
 | .inl f,v=>v=fV f
 | .inr l,v=>∃ c,v=.ref c/\H c=al (.tp (l.map fV))
def NK (H:Hp)(k:List NI)(b:Addr):Prop:=∃ xs,H b=al (.tp xs)/\dm (NAt H) k xs
def NAt.mono (ht:∀ b z,H b=al (.tp z)->H' b=al (.tp z))(h:NAt H k v):NAt H' k v:=by
 cases k with
 | inl f=>exact h
 | inr l=>obtain⟨c,e,q⟩:=h;exact⟨c,e,ht _ _ q⟩
theorem NK.mono (ht:∀ b B,H b=al (.tp B)->H' b=al (.tp B))(h:NK H k b):NK H' k b:=let⟨B,e,p⟩:=h;⟨B,ht _ _ e,mM (λ _ _ z=>z.mono ht) p⟩
noncomputable def upd (H:Hp)(a:Addr)(o:HO):Hp:=λ b=>if b=a then al o else H b
def zg :upd H a o a=al o:=by unfold upd;rw[ef rfl]
def zb (h:b≠a):upd H a o b=H b:=by unfold upd;rw[gc h]
def cl4 {H:Hp}(h:H a=al o)(h':H b=al u)(d:o≠u):a≠b:=by
 intro e;subst e;rw[h]at h';exact d (av h')
def zw {H:Hp}(h:H a=al o)(h':H b=aT):a≠b:=by
 lia
section
variable (P:aF) (w:World)
def ae4 (H:Hp)(h:Heap)(a:Addr):HO->Prop
 | .J xs=>xs.length<=a7/\∃(its:yH) (n:Nat),Vals xs its/\h.get? a=al { cls:=.type "list",data:=.seq its.toArray n }
 | .tp xs=>xs.length<=a7/\∃ its,Vals xs its/\IsTup h a its.toArray
 | .dK kvs=>kvs.length<=a7/\(a==dD)=ce/\∃ vs,KV kvs vs/\h.DictOf (zT P w) a vs
 | .dT kvs=>kvs.length<=a7/\(a==dD)=ce/\∃ xs,
   dm (λ(p) (q)=>p.1=q.1/\NK H p.1 q.2.1/\RelV p.2 q.2.2) kvs xs /\
   ∃ o es ep,h.get? a=al o/\o.ExactDict/\o.data=.dict es ep/\es.toList=xs.map (entryOfKey (aA7 P w))/\(xs.map (·.1)).Nodup
 | .set S n=>h.SetOf (intKind P w) a S n
 | .ins Cc dx fs=>H dx=al (.own a)/\fs.length<=1000/\dx≠a/\h.get? a=al (cN Cc dx) /\
   ∃ mA,h.Ns1 dx mA/\(∀ f,az9 (fs.lookup f) (mA f))/\ko mA (fs.map (·.1))
 | .own _=>∃ o,h.get? a=al o
 | .xd fs=>∃ mA,h.Ns1 a mA/\∀ f,az9 (fs.lookup f) (mA f)
 | .rng lo hi=>∃ t u v,h.get? a=al { cls:=.type "range",data:=.fields #[.int lo t,.int hi u,.int 1 v] }
 | .frz o u=>h.get? a=al o/\ae4 H h a u
 | .tbl ps=>h.get? a=al { cls:=.none,data:=.fields ps }
 | .met f x=>h.get? a=al (gy (.ref f) (.ref x))
 | .ext C=>C h/\(∃ o,h.get? a=al o)/\∀ h1 h2:Heap,C h1->(∀ o,h1.get? a=al o->h2.get? a=al o)->C h2
def HOk (H:Hp)(h:Heap):Prop:=∀ a o,H a=al o->ae4 P w H h a o
end
section
variable {P:aF} {w:World} {H H':Hp} {h h':Heap} {a:Addr} {o:HO}
theorem ae4.lt (x:ae4 P w H h a o):a<h.objs.size:=by
 cases o with
 | J xs=>obtain⟨_,_,_,_,e⟩:=x;exact aN e
 | tp xs=>obtain⟨_,_,_,p⟩:=x;exact p.lt
 | dK kvs=>obtain⟨_,_,_,_,o,_,_,e,_⟩:=x;exact aN e
 | dT kvs=>obtain⟨_,_,_,_,o,_,_,e,_⟩:=x;exact aN e
 | set S n=>obtain⟨o,_,_,_,e,_⟩:=x;exact aN e
 | ins Cc dx fs=>obtain⟨_,_,_,e,_⟩:=x;exact aN e
 | own y=>obtain⟨_,e⟩:=x;exact aN e
 | xd fs=>obtain⟨_,⟨_,_,_,e,_⟩,_⟩:=x;exact aN e
 | rng lo hi=>obtain⟨_,_,_,e⟩:=x;exact aN e
 | frz ob u=>obtain⟨e,_⟩:=x;exact aN e
 | tbl ps=>exact aN (x)
 | met f y=>exact aN (x)
 | ext C=>obtain⟨_,⟨_,e⟩,_⟩:=x;exact aN e
theorem dm.mapP :∀ {h} {z},dm F h z->(∀ a b,F a b->G a b)->dm G h z
 | _,_,.nil,_=>.nil
 | _,_,.cons r t,f=>.cons (f _ _ r) (dm.mapP t f)
def ae4.stay (x:ae4 P w H h a o)(k:∀ b u,(b=a\/H b=al (.own a))->h.get? b=al u->h'.get? b=al u)
  (ho:∀ b,H b=al (.own a)->H' b=al (.own a)) (ht:∀ b B,H b=al (.tp B)->H' b=al (.tp B)):ae4 P w H' h' a o:=by
 induction o with
 | J B=>obtain⟨z,its,n,r,e⟩:=x;exact⟨z,its,n,r,k _ _ (.inl rfl) e⟩
 | tp B=>obtain⟨z,its,r,ob,e,c⟩:=x;exact⟨z,its,r,ob,k _ _ (.inl rfl) e,c⟩
 | dK kvs=>obtain⟨z,y,vs,r,ob,es,ep,e,c⟩:=x;exact⟨z,y,vs,r,ob,es,ep,k _ _ (.inl rfl) e,c⟩
 | dT kvs =>
  obtain⟨z,y,B,r,ob,es,ep,e,c⟩:=x;exact⟨z,y,B,dm.mapP r λ p q z=>⟨z.1,z.2.1.mono ht,z.2.2⟩,ob,es,ep,k _ _ (.inl rfl) e,c⟩
 | set S n=>obtain⟨ob,es,ep,t,e,c⟩:=x;exact⟨ob,es,ep,t,k _ _ (.inl rfl) e,c⟩
 | ins Cc dx fs =>
  obtain⟨d,z,ne,e,J,⟨od,es,ep,e2,c⟩,r⟩:=x;exact⟨ho _ d,z,ne,k _ _ (.inl rfl) e,J,⟨od,es,ep,k _ _ (.inr d) e2,c⟩,r⟩
 | own y=>obtain⟨ob,e⟩:=x;exact⟨ob,k _ _ (.inl rfl) e⟩
 | xd fs=>obtain⟨J,⟨od,es,ep,e,c⟩,r⟩:=x;exact⟨J,⟨od,es,ep,k _ _ (.inl rfl) e,c⟩,r⟩
 | rng lo hi=>obtain⟨t,u,v,e⟩:=x;exact⟨t,u,v,k _ _ (.inl rfl) e⟩
 | frz ob u ih=>obtain⟨e,q⟩:=x;exact⟨k _ _ (.inl rfl) e,ih q⟩
 | tbl ps =>
  have e:=x
  skip
  exact k a _ (.inl rfl) e
 | met f y =>
  have e:=x
  skip
  exact k a _ (.inl rfl) e
 | ext C=>obtain⟨p,⟨o,e⟩,st⟩:=x;exact⟨st _ _ p λ o q=>k _ _ (.inl rfl) q,⟨o,k _ _ (.inl rfl) e⟩,st⟩
theorem HOk.lt (x:HOk P w H h)(e:H a=al o):a<h.objs.size:=(x a o e).lt
def HOk.fresh (x:HOk P w H h)(e:h.objs.size<=a):H a=none:=by
 cases q:H a with
 | none=>rfl
 | some u=>exact iS (az (x.lt q) e) (bP _)
def HOk.kept (x:HOk P w H h)(k:∀ b u,h.get? b=al u->h'.get? b=al u):HOk P w H h':=λ a o e =>
 (x a o e).stay (λ b u _ q=>k b u q) (λ _ q=>q) λ _ _ q=>q
def HOk.laid (x:HOk P w H h)(k:∀ b u,h.get? b=al u->h'.get? b=al u)(z:h.objs.size<=a)(new:ae4 P w (upd H a o) h' a o):HOk P w (upd H a o) h':=λ b u e=>by
 have hn:=x.fresh z;by_cases hb:b=a
 .subst hb;rw[zg]at e;simp_all
 .rw[zb hb]at e;exact(x b u e).stay (λ c v _ q=>k c v q) (λ c q=>by rw[zb (zw q hn)];exact q) λ c B q=>by rw[zb (zw q hn)];exact q
end
def Rd (H:Hp)(a:Addr)(u:HO):Prop:=H a=al u\/∃ o,H a=al (.frz o u)
def Rd.ok (r:Rd H a u)(x:HOk P w H h):ae4 P w H h a u:=by
 rcases r with r|⟨o,r⟩
 .exact x a u r
 .obtain⟨_,q⟩:=x a _ r;exact q
noncomputable def Mut:Option HO->Prop
 | some (.J _)=>True
 | some (.dK _)=>True
 | some (.dT _)=>True
 | some (.set _ _)=>True
 | some (.ins _ _ _)=>True
 | some (.ext _)=>True
 | _=>False
section
variable {P:aF} {w:World} {H:Hp} {h h':Heap} {x e:Addr} {o':HO}
def HOk.write (ok:HOk P w H h)(mu:Mut (H x))(Z:e=x\/H e=al (.own x))(k:∀ b u,b≠e->h.get? b=al u->h'.get? b=al u)(Y:∃ u,h'.get? e=al u)
  (new:ae4 P w (upd H x o') h' x o'):HOk P w (upd H x o') h':=λ b u q=>by
 have B:∀ c y,H c=al (.own y)->c≠x:=λ c y r z=>by subst z;rw[r]at mu;exact mu
 have J:∀ c Uu,H c=al (.tp Uu)->c≠x:=λ c Uu r z=>by subst z;rw[r]at mu;exact mu
 by_cases hb:b=x
 .subst hb;rw[zg]at q;cases q;exact new
 .rw[zb hb]at q;by_cases hbe:b=e
  .have q':H b=al (.own x):=by
    rcases Z with z|z
    .exact iS (hbe.trans z) hb
    .rw[hbe];exact z
   rw[q]at q';cases q';obtain⟨v,hv⟩:=Y;exact⟨v,by rw[hbe];exact hv⟩
  .refine(ok b u q).stay (λ c v hc r=>k c v ?_ r) (λ c r=>by rw[zb (B c b r)];exact r) λ c Uu r=>by rw[zb (J c Uu r)];exact r
   rcases hc with rfl|hc
   .exact hbe
   .rintro rfl
    rcases Z with z|z
    .exact B c b hc z
    .rw[hc]at z;cases z;exact hb rfl
end
structure Un (fs ex:List Addr)(H H':Hp)(h h':Heap):Prop where
 keep:∀ b o,h.get? b=al o->H b=aT->b ∉ fs->b ∉ ex->h'.get? b=al o
 slot:∀ b o,h.get? b=al o->H b=aT->b∈fs->b ∉ ex->∃ sl,h'.get? b=al { o with slots:=sl }
 free:∀ b o,h.get? b=al o->H b=aT->b ∉ ex->H' b=aT
 there:∀ b o,h.get? b=al o->b ∉ ex->∃ o',h'.get? b=al o'
 tups:∀ b xs,H b=al (.tp xs)->H' b=al (.tp xs)
 frzs:∀ b o u,H b=al (.frz o u)->H' b=al (.frz o u)
 tbls:∀ b ps,H b=al (.tbl ps)->∃ more,H' b=al (.tbl (ps++more))
section
variable {fs fs' ex ex':List Addr} {H H1 H2:Hp} {h h1 h2 h':Heap} {a x e:Addr} {o:HO}
def Un.any (u:Un fs ex H H1 h h1)(q:h.get? b=al ob)(n:H b=aT)(hx:b ∉ ex):∃ sl,h1.get? b=al { ob with slots:=sl }:=by
 by_cases hb:b∈fs
 .exact u.slot b ob q n hb hx
 .exact⟨ob.slots,u.keep b ob q n hb hx⟩
def Un.kept (k:∀ b u,h.get? b=al u->h'.get? b=al u):Un fs ex H H h h' :=
 ⟨λ b ob q _ _ _=>k b ob q,λ b ob q _ _ _=>⟨ob.slots,k b ob q⟩,λ _ _ _ n _=>n,λ b ob q _=>⟨ob,k b ob q⟩,λ _ _ q=>q,λ _ _ _ q=>q,λ _ ps q=>⟨#[],by simp_all⟩⟩
def Un.refl:Un fs ex H H h h:=Un.kept λ _ _ q=>q
def Un.laid (k:∀ b u,h.get? b=al u->h'.get? b=al u)(z:h.objs.size<=a)(hn:H a=aT):Un fs ex H (upd H a o) h h' where
 keep:=λ b u q _ _ _=>k b u q
 slot:=λ b u q _ _ _=>⟨u.slots,k b u q⟩
 free:=λ b u q n _=>by rw[zb (aH (az (aN q) z))];exact n
 there:=λ b u q _=>⟨u,k b u q⟩
 tups:=λ b B q=>by rw[zb (zw q hn)];exact q
 frzs:=λ b u B q=>by rw[zb (zw q hn)];exact q
 tbls:=λ b ps q=>⟨#[],by rw[zb (zw q hn),q];simp⟩
def Un.write (mu:Mut (H x))(Uu:e=x\/H e=al (.own x))(k:∀ b u,b≠e->h.get? b=al u->h'.get? b=al u)(B:∃ u,h'.get? e=al u):Un fs ex H (upd H x o) h h':=by
 have hx:∀ b,H b=aT->b≠x:=λ b n z=>by subst z;rw[n]at mu;exact mu
 have hb:∀ b,H b=aT->b≠e:=λ b n z=>by
  lia
 have J:∀ b u,H b=al u->¬ Mut (al u)->b≠x:=λ b u q nm z=>by lia
 refine⟨λ b u q n _ _=>k b u (hb b n) q,λ b u q n _ _=>⟨u.slots,k b u (hb b n) q⟩,λ b u q n _=>by rw[zb (hx b n)];exact n,λ b u q _=>?_,
  λ b Y q=>by rw[zb (J b _ q λ z=>z)];exact q,λ b u Y q=>by rw[zb (J b _ q λ z=>z)];exact q,λ b ps q=>⟨#[],by rw[zb (J b _ q λ z=>z),q];simp⟩⟩
 grind
end
noncomputable def trk (h:Heap)(H:Hp):List Addr:=(am h.objs.size).filter λ a=>(H a).isSome
def bk8 (h:Heap)(H:Hp):Heap:=PySem.W.hideAll h (trk h H)
def bd5  h  H :(bk8 h H).objs.size=h.objs.size:=PySem.W.hideAll_size _ _
def am7 (e:h.get? b=al o)(n:H b=aT):(bk8 h H).get? b=al o :=
 PySem.W.hideAll_get _ e λ z=>by
  have q:=(lp.mp z).2
  simp_all
def bP5 (e:(bk8 h H).get? b=al o):h.get? b=al o/\H b=none:=by
 have e':=PySem.W.of_hideAll (trk h H) e;refine⟨e',?_⟩;cases q:H b with
 | none=>rfl
 | some x =>
  have B:b∈trk h H:=lp.mpr ⟨bE.mpr (aN e'),by simp[q]⟩;have z:(bk8 h H).get? b=none:=PySem.W.hideAll_none (trk h H) B;lia
noncomputable def bL0 (g h:Heap)(L:Addr):List (Addr×Obj):=(am h.objs.size).filterMap λ a=>if a=L\/(g.get? a).isSome=bY then aT else(h.get? a).map λ o=>(a,o)
def rest (g h:Heap)(L d:Addr):List (Addr×Obj):=(bL0 g h L).filter λ p=>decide (p.1≠d)
structure Mod (K:ac)(mg:yD)(base:Heap):Prop where
 kin:K.In base
 glob:base.Ns aU mg
 blt:∃ mb,base.Ns g9 mb/\∀ x:Str,x ≠ "__name__"->mb x=cf x
 nolimit:base.NoLimit
structure Cx where
 prog:aF
 w:World
 K:ac
 mg:Str->Option Value
 base:Heap
 A:aV
 N:List Str
 s₀:af
 H₀:Hp
 env:Env
 outer:List Env
 stack:List Env
 ex:List Addr
 fn:Str->Bool
 calm:Bool
 pn:List (Addr×Obj)
 xe:Value->af->Prop
noncomputable def frs (l:List Env):List Addr:=l.filterMap (·.frame)
abbrev Cx.fs (X:Cx):List Addr:=frs X.outer
def Vis (sc:Scope)(x:Str):Prop:=sc.names.lookup x=al .local\/sc.names.lookup x=al .cell\/sc.names.lookup x=al .free
def Loc (sc:Scope)(x:Str):Prop:=sc.names.lookup x=al .local\/sc.names.lookup x=al .cell
def Look (env:Env)(h:Heap)(m:yD)(x:Str)(u:Value):Prop :=
 (env.kindOf x=al .local/\m x=al u)\/((env.kindOf x=al .cell\/env.kindOf x=al .free)/\∃ c,env.cells.lookup x=al c/\h.IsCell c (al u))
structure Cx.Ok (X:Cx):Prop where
 mod:Mod X.K X.mg X.base
 kind:X.env.scope.kind=.function
 glob:X.env.globals=aU
 blt:X.env.builtins=g9
 above:X.s₀.heap.objs.size<=X.env.locals
 inj:∀ x y c,X.env.cells.lookup x=al c->X.env.cells.lookup y=al c->x=y
 has:∀ x,(X.env.kindOf x=al .cell\/X.env.kindOf x=al .free)->∃ c,X.env.cells.lookup x=al c
 cab:∀ x c,X.fn x=bY->X.env.cells.lookup x=al c->X.s₀.heap.objs.size<=c
 hd:X.calm=bY->X.A.handled=aT
 frames:X.A.frames=al X.stack
 stk:X.stack=X.outer\/(X.stack=X.env::X.outer/\X.env.frame=al X.env.locals)
 exf:∀ b∈X.ex,b≠X.env.locals/\∀ x c,X.env.cells.lookup x=al c->c≠b
 bs:∀ b o,X.base.get? b=al o->X.s₀.heap.get? b=al o/\X.H₀ b=aT
 bsz:X.base.objs.size<=X.s₀.heap.objs.size
 noex:∀ b o,X.base.get? b=al o->b ∉ X.ex
 exfs:∀ b∈X.ex,b ∉ X.fs
 funs:X.s₀.heap.FunFrames X.base X.outer
 frf:∀ b∈X.fs,X.H₀ b=aT
structure Inv (X:Cx)(pins:yA)(W:List (Option V))(H:Hp)(s:af):Prop where
 ok:X.Ok
 os:s.os=X.s₀.os
 bare:fY s.gens
 base:Un X.fs X.ex X.H₀ H X.s₀.heap s.heap
 loc:∃ m,s.heap.Ns X.env.locals m/\∀(i:Nat) (x:Str) (v:V),X.N[i]?=al x->W[i]?=al (al v)->Vis X.env.scope x->∃ u,RelV v u/\Look X.env s.heap m x u
 cell:∀ x c,X.env.cells.lookup x=al c->∃ v,s.heap.IsCell c v
 free:H X.env.locals=aT
 freeC:∀ x c,X.env.cells.lookup x=al c->H c=aT
 pin:∀ p∈X.pn++pins,s.heap.get? p.1=al p.2/\H p.1=aT/\p.1≠X.env.locals/\p.1 ∉ X.fs/\∀ v,p.2.data≠.cell v
 hok:HOk X.prog X.w H s.heap
 len:W.length=X.N.length
section
variable {X:Cx} {pins:yA} {W:List (Option V)} {H H':Hp} {s:af} {h':Heap}
def Cx.Ok.nofr (ok:X.Ok)(e:X.base.get? b=al o):b ∉ X.fs:=λ hb=>by
 have:=(ok.funs.mem hb).1;lia
theorem Inv.bs (I:Inv X pins W H s):∀ b o,X.base.get? b=al o->s.heap.get? b=al o/\H b=none:=λ b o e =>
 ⟨I.base.keep b o (I.ok.bs b o e).1 (I.ok.bs b o e).2 (I.ok.nofr e) (I.ok.noex b o e),I.base.free b o (I.ok.bs b o e).1 (I.ok.bs b o e).2 (I.ok.noex b o e)⟩
def Inv.bk (I:Inv X pins W H s):∀ b o,X.base.get? b=al o->s.heap.get? b=al o:=λ b o e=>(I.bs b o e).1
theorem Inv.mod (I:Inv X pins W H s):Mod X.K X.mg X.base:=I.ok.mod
def Inv.kIn (I:Inv X pins W H s):X.K.In s.heap:=I.ok.mod.kin.keeps I.bk
theorem Inv.nolimit (I:Inv X pins W H s):s.heap.NoLimit:=I.ok.mod.nolimit.keeps I.bk
theorem Inv.lt (I:Inv X pins W H s):X.env.locals<s.heap.objs.size:=let⟨_,hn,_⟩:=I.loc;hn.lt
def Inv.sz (I:Inv X pins W H s):X.s₀.heap.objs.size<=s.heap.objs.size:=aq I.ok.above (d8 I.lt)
def Inv.nofs (I:Inv X pins W H s){a:Addr}(h:s.heap.objs.size<=a):a ∉ X.fs:=λ hb=>by
 obtain⟨_,o,ho,_⟩:=I.ok.funs.mem hb;exact iS (az (aN ho) (aq I.sz h)) (bP _)
def Inv.cne (I:Inv X pins W H s):∀ x c,X.env.cells.lookup x=al c->c≠X.env.locals:=λ x c e z=>by
 obtain⟨v,o,ho,hd⟩:=I.cell x c e;obtain⟨m,⟨J,es,ep,h,B,_⟩,_⟩:=I.loc;lia
theorem Inv.funs (I:Inv X pins W H s):s.heap.FunFrames X.base X.outer:=by
 have all:∀ l ,(∀ b∈frs l,b∈X.fs)->X.s₀.heap.FunFrames X.base l->s.heap.FunFrames X.base l:=by
  intro l
  induction l with
  | nil=>intro _ _;trivial
  | cons env r ih =>
   intro hs J;obtain⟨hk,⟨L,o,B,hn,ho,hd⟩,hr⟩:=J;have h:=hs L (by unfold frs;rw[bu,B];exact ar);obtain⟨sl,e⟩:=I.base.slot L o ho (I.ok.frf L h) h λ z=>I.ok.exfs L z h;exact⟨hk,⟨L,_,B,hn,e,hd⟩,ih (λ b hb=>hs b (by unfold frs;rw[bu,B];exact ah _ hb)) hr⟩
 exact all X.outer (λ _ hb=>hb) I.ok.funs
theorem Inv.stack (I:Inv X pins W H s):s.heap.FunFrames X.base X.stack:=by
 rcases I.ok.stk with e|⟨e,h⟩
 .rw[e];exact I.funs
 .rw[e];obtain⟨m,hn,_⟩:=I.loc;refine .cons (by rw[I.ok.kind];decide) h hn ?_ I.funs;exact Heap.get?_none_of_le (aq I.ok.bsz I.ok.above)
def Inv.stkSub (I:Inv X pins W H s):∀ b∈frs X.stack,b∈X.env.locals::X.fs:=λ b hb=>by
 rcases I.ok.stk with e|⟨e,h⟩
 .rw[e]at hb;exact ah _ hb
 .rw[e]at hb;unfold frs at hb;rw[bu,h]at hb;exact hb
def Inv.stkFree (I:Inv X pins W H s):∀ b∈frs X.stack,H b=none:=λ b hb=>by
 rcases aB.mp (I.stkSub b hb)with e|hb
 .rw[e];exact I.free
 .obtain⟨_,o,ho,_⟩:=I.ok.funs.mem hb;exact I.base.free b o ho (I.ok.frf b hb) λ z=>I.ok.exfs b z hb
def Inv.step {ch:List Addr}(I:Inv X pins W H s)
  (J:∀ b∈ch,(b∈X.ex\/X.s₀.heap.objs.size<=b)/\b≠X.env.locals/\(∀ x c,X.env.cells.lookup x=al c->c≠b)/\∀ p∈X.pn++pins,p.1≠b)
  (keep:∀ b o,b≠X.env.locals->b ∉ X.fs->b ∉ ch->s.heap.get? b=al o->H b=aT->h'.get? b=al o)
  (slot:∀ b o,b≠X.env.locals->b∈X.fs->b ∉ ch->s.heap.get? b=al o->H b=aT->∃ sl,h'.get? b=al { o with slots:=sl }) (free:∀ b o,b ∉ ch->s.heap.get? b=al o->H b=aT->H' b=aT)
  (there:∀ b o,b ∉ ch->s.heap.get? b=al o->∃ Z,h'.get? b=al Z)
  (tups:∀ b Y,H b=al (.tp Y)->H' b=al (.tp Y)) (frzs:∀ b o u,H b=al (.frz o u)->H' b=al (.frz o u)) (tbls:∀ b ps,H b=al (.tbl ps)->∃ more,H' b=al (.tbl (ps++more)))
  (ns:∀ m,s.heap.Ns X.env.locals m->h'.Ns X.env.locals m) (hok:HOk X.prog X.w H' h') (hg:fY g') :
  Inv X pins W H' { s with heap:=h',gens:=g',drawn:=d',toks:=t' }:=by
 have a0:∀ b o,X.s₀.heap.get? b=al o->b≠X.env.locals:=λ b o e=>aH (az (aN e) I.ok.above);have Uu:∀ b o,X.s₀.heap.get? b=al o->b ∉ X.ex->b ∉ ch:=λ b o e hx hb=>by
  rcases(J b hb).1 with z|z
  .exact hx z
  .exact iS (az (aN e) z) (bP _)
 have h:∀ x c,X.env.cells.lookup x=al c->∀ v,s.heap.IsCell c v->h'.IsCell c v:=λ x c e v ⟨o,ho,hd⟩=>by
  have B:c ∉ ch:=λ z=>(J c z).2.2.1 x c e rfl;by_cases hc:c∈X.fs
  .obtain⟨sl,q⟩:=slot c o (I.cne x c e) hc B ho (I.freeC x c e);exact⟨_,q,hd⟩
  .exact⟨o,keep c o (I.cne x c e) hc B ho (I.freeC x c e),hd⟩
 refine⟨I.ok,I.os,hg,⟨λ b o e n hb hx=>?_,λ b o e n hb hx=>?_,λ b o e n hx=>?_,λ b o e hx=>?_,λ b Y e=>tups b Y (I.base.tups b Y e),λ b o Y e=>frzs b o Y (I.base.frzs b o Y e),λ b ps e=>?_⟩,?_,λ x c e=>?_,?_,λ x c e=>?_,λ p hp=>?_,hok,I.len⟩
 .exact keep b o (a0 b o e) hb (Uu b o e hx) (I.base.keep b o e n hb hx) (I.base.free b o e n hx)
 .obtain⟨sl,e1⟩:=I.base.slot b o e n hb hx;obtain⟨a1,e2⟩:=slot b _ (a0 b o e) hb (Uu b o e hx) e1 (I.base.free b o e n hx);exact⟨a1,e2⟩
 .obtain⟨Z,e1⟩:=I.base.there b o e hx;exact free b Z (Uu b o e hx) e1 (I.base.free b o e n hx)
 .obtain⟨Z,e1⟩:=I.base.there b o e hx;exact there b Z (Uu b o e hx) e1
 .obtain⟨m1,e1⟩:=I.base.tbls b ps e;obtain⟨m2,e2⟩:=tbls b _ e1;exact⟨m1++m2,by rw[e2,Array.append_assoc]⟩
 .obtain⟨m,hn,hl⟩:=I.loc;refine⟨m,ns m hn,λ i x v e1 e2 e3=>?_⟩;obtain⟨u,r,l⟩:=hl i x v e1 e2 e3;refine⟨u,r,?_⟩;rcases l with l|⟨k,c,e,z⟩
  .exact .inl l
  .exact .inr ⟨k,c,e,h x c e _ z⟩
 .obtain⟨v,z⟩:=I.cell x c e;exact⟨v,h x c e v z⟩
 .obtain⟨m,⟨o,_,_,ho,_⟩,_⟩:=I.loc;exact free _ o (λ z=>(J _ z).2.1 rfl) ho I.free
 .obtain⟨v,o,ho,hd⟩:=I.cell x c e;exact free c o (λ z=>(J c z).2.2.1 x c e rfl) ho (I.freeC x c e)
 .obtain⟨e,n,ne,nf,d⟩:=I.pin p hp;have B:p.1 ∉ ch:=λ z=>(J p.1 z).2.2.2 p hp rfl;exact⟨keep p.1 p.2 ne nf B e n,free p.1 p.2 B e n,ne,nf,d⟩
def Inv.un (I:Inv X pins W H s)(u:Un X.fs [] H H' s.heap h')(hok:HOk X.prog X.w H' h'):Inv X pins W H' { s with heap:=h',toks:=t' }:=by
 obtain⟨m,⟨o,es,ep,ho,r⟩,_⟩:=id I.loc;obtain⟨sl,Uu⟩:=u.any ho I.free (by simp);exact I.step (ch:=[]) (λ _ z=>nomatch z) (λ b o _ hb _ e n=>u.keep b o e n hb (by simp)) (λ b o _ hb _ e n=>u.slot b o e n hb (by simp)) (λ b o _ e n=>u.free b o e n (by simp)) (λ b o _ e=>u.there b o e (by simp)) u.tups u.frzs u.tbls (λ m' Y=>by
  obtain⟨o',J,B,h,Z⟩:=Y;rw[ho]at h;cases h;exact⟨_,J,B,Uu,Z⟩) hok I.bare
def Inv.call (I:Inv X pins W H s)(u:Un (frs X.stack) ch H H' s.heap h')(hok:HOk X.prog X.w H' h')(hg:fY g')
  (h:∀ b∈ch,(b∈X.ex\/X.s₀.heap.objs.size<=b)/\b≠X.env.locals/\(∀ x c,X.env.cells.lookup x=al c->c≠b)/\∀ p∈X.pn++pins,p.1≠b) :
  Inv X pins W H' { s with heap:=h',gens:=g',drawn:=d',toks:=t' }:=by
 obtain⟨m,⟨o,es,ep,ho,r⟩,_⟩:=id I.loc;obtain⟨sl,J⟩:=u.any ho I.free λ z=>(h _ z).2.1 rfl;exact I.step h (λ b o J hb hc e n=>u.keep b o e n (λ z=>(aB.mp (I.stkSub b z)).elim J hb) hc) (λ b o _ _ hc e n=>u.any e n hc) (λ b o hc e n=>u.free b o e n hc) (λ b o hc e=>u.there b o e hc) u.tups u.frzs u.tbls (λ m' Z=>by
  obtain⟨o',Y,Uu,B,r'⟩:=Z;rw[ho]at B;cases B;exact⟨_,Y,Uu,J,r'⟩) hok hg
def Inv.turned (I:Inv X pins W H s)(k:∀ b o,b≠it->s.heap.get? b=al o->h'.get? b=al o)(hn:H it=aT)(B:it≠X.env.locals)
  (Uu:it∈X.ex\/X.s₀.heap.objs.size<=it) (Y:∀ x c,X.env.cells.lookup x=al c->c≠it) (h3:∀ p∈X.pn++pins,p.1≠it):Inv X pins W H { s with heap:=h',toks:=t' }:=by
 have h:∀ b u,H b=al u->b≠it:=λ b u e z=>by lia
 refine I.step (ch:=[it]) (λ b hb=>?_) (λ b o _ _ hc e _=>k b o (λ z=>hc (by simp[z])) e) (λ b o _ _ hc e _=>⟨o.slots,k b o (λ z=>hc (by simp[z])) e⟩) (λ _ _ _ _ n=>n)
  (λ b o hc e=>⟨o,k b o (λ z=>hc (by simp[z])) e⟩) (λ _ _ e=>e) (λ _ _ _ e=>e) (λ b ps e=>⟨#[],by simp_all⟩) (λ m J=>?_) (λ b u e=>?_) I.bare
 .have e:=by simpa using hb
  subst e;exact⟨Uu,B,Y,h3⟩
 .obtain⟨o,es,ep,ho,r⟩:=J;exact⟨o,es,ep,k _ o (bH B) ho,r⟩
 .refine(I.hok b u e).stay (λ c v hc q=>k c v ?_ q) (λ _ q=>q) λ _ _ q=>q;rcases hc with z|z
  .rw[z];exact h b u e
  .exact h c _ z
def Inv.tok (I:Inv X pins W H s) t :Inv X pins W H { s with toks:=t }:=I.un Un.refl I.hok
theorem Inv.kept (I:Inv X pins W H s)(k:∀ b u,s.heap.get? b=al u->h'.get? b=al u):Inv X pins W H { s with heap:=h',toks:=t' }:=I.un (Un.kept k) (I.hok.kept k)
theorem Inv.laid {a:Addr}(I:Inv X pins W H s)(k:∀ b u,s.heap.get? b=al u->h'.get? b=al u)(h:s.heap.objs.size<=a)(new:ae4 X.prog X.w (upd H a o) h' a o) :
  Inv X pins W (upd H a o) { s with heap:=h',toks:=t' }:=I.un (Un.laid k h (I.hok.fresh h)) (I.hok.laid k h new)
theorem Inv.write (I:Inv X pins W H s)(mu:Mut (H x))(z:e=x\/H e=al (.own x))(k:∀ b u,b≠e->s.heap.get? b=al u->h'.get? b=al u)(h:∃ u,h'.get? e=al u)
  (new:ae4 X.prog X.w (upd H x o) h' x o):Inv X pins W (upd H x o) { s with heap:=h',toks:=t' }:=I.un (Un.write mu z k h) (I.hok.write mu z k h new)
def Inv.pins_of (I:Inv X pins W H s)(h:∀ p∈B,s.heap.get? p.1=al p.2/\H p.1=aT/\p.1≠X.env.locals/\p.1 ∉ X.fs/\∀ v,p.2.data≠.cell v):Inv X B W H s :=
 ⟨I.ok,I.os,I.bare,I.base,I.loc,I.cell,I.free,I.freeC,λ p J=>(aZ.mp J).elim (λ z=>I.pin p (bj _ z)) (h p),I.hok,I.len⟩
def aP8 {N:yI}(hN:N.Nodup){ j:Nat}(a:N[i]?=al x)(b:N[j]?=al x):i=j:=by
 obtain⟨h,e1⟩:=ag.mp a;obtain⟨z,e2⟩:=ag.mp b;exact(List.getElem_inj hN).mp (e1.trans e2.symm)
def aD4 {E:yB}(I:Inv X pins W H s)(hN:X.N.Nodup)(Z:X.N[i]?=al x)(hx:Loc X.env.scope x)(r:RelV v u)
  (h:∀ s',Inv X pins (W.set i (al v)) H s'->(∃ a,d9 a s.heap s'.heap/\(a=X.env.locals\/X.env.cells.lookup x=al a))->Q () s') (hf:autoParam (X.fn x=bY\/X.env.scope.names.lookup x=al .local) Zq0._auto_1):wpAny M A (f7 X.env x u) Q E s:=by
 obtain⟨m,hn,hl⟩:=id I.loc;have Y:(X.env.scope.kind==.class||(X.env.scope.kind==.module&&X.env.locals != X.env.globals))=false:=by rw[I.ok.kind];rfl
 have a2:i < W.length:=by rw[I.len];exact(ag.mp Z).1
 have cne:=I.cne;have B:∀ {a} {h'},(∃ o,s.heap.get? a=al o/\H a=aT)->d9 a s.heap h'->HOk X.prog X.w H h':=λ {a h'} ha hs b ob e=>by
  obtain⟨_,_,J⟩:=ha;refine(I.hok b ob e).stay (λ c w' hc q=>(hs.2 c ?_).trans q) (λ _ q=>q) λ _ _ q=>q;lia
 rcases hx with hk|hk
 .refine iA hk hn (λ h' a4 hs=>?_) Y;obtain⟨oL,_,_,a5,_⟩:=id hn;refine h _ ⟨I.ok,I.os,I.bare,⟨λ b o e n hb hx=>?_,λ b o e n hb hx=>?_,I.base.free,λ b o e hx=>?_,I.base.tups,I.base.frzs,I.base.tbls⟩,⟨_,a4,λ j y v' e1 e2 e3=>?_⟩,λ y c e=>?_,I.free,I.freeC,λ p hp=>?_,B ⟨oL,a5,I.free⟩ hs,by simpa using I.len⟩ ⟨_,hs,.inl rfl⟩
  .exact(hs.2 b (aH (az (aN e) I.ok.above))).trans (I.base.keep b o e n hb hx)
  .obtain⟨sl,e1⟩:=I.base.slot b o e n hb hx;exact⟨sl,(hs.2 b (aH (az (aN e) I.ok.above))).trans e1⟩
  .obtain⟨o',e1⟩:=I.base.there b o e hx;exact⟨o',(hs.2 b (aH (az (aN e) I.ok.above))).trans e1⟩
  .by_cases hj:j=i
   .subst hj;rw[Z]at e1;cases e1;rw[bA a2]at e2;cases e2;exact⟨u,r,.inl ⟨hk,by simp⟩⟩
   .rw[aC (bH hj)]at e2;obtain⟨u',r',q⟩:=hl j y v' e1 e2 e3;refine⟨u',r',?_⟩;rcases q with⟨k,e⟩|⟨k,c,e,z⟩
    .refine .inl ⟨k,?_⟩;have:y≠x:=λ e=>hj (aP8 hN e1 (e▸Z));simp[this,e]
    .exact .inr ⟨k,c,e,z.sameBut hs (cne y c e)⟩
  .obtain⟨w',z⟩:=I.cell y c e;exact⟨w',z.sameBut hs (cne y c e)⟩
  .obtain⟨e,n,ne,nf,d⟩:=I.pin p hp;exact⟨(hs.2 p.1 ne).trans e,n,ne,nf,d⟩
 .have Uu:X.fn x=true:=by
   lia
  obtain⟨c,hc⟩:=I.ok.has x (.inl hk);obtain⟨w',z⟩:=I.cell x c hc;refine iP I.ok.kind hk hc z (λ h' a1 hs=>?_);obtain⟨oc,a0,a3⟩:=id z;refine h { s with heap:=h' } ⟨I.ok,I.os,I.bare,⟨λ b o e n hb hx=>?_,λ b o e n hb hx=>?_,I.base.free,λ b o e hx=>?_,I.base.tups,I.base.frzs,I.base.tbls⟩,⟨m,hn.sameBut hs (bH (cne x c hc)),λ j y v' e1 e2 e3=>?_⟩,λ y c' e=>?_,I.free,I.freeC,λ p hp=>?_,B ⟨oc,a0,I.freeC x c hc⟩ hs,by simpa using I.len⟩ ⟨c,hs,.inr hc⟩
  .exact(hs.2 b (aH (az (aN e) (I.ok.cab x c Uu hc)))).trans (I.base.keep b o e n hb hx)
  .obtain⟨sl,e1⟩:=I.base.slot b o e n hb hx;exact⟨sl,(hs.2 b (aH (az (aN e) (I.ok.cab x c Uu hc)))).trans e1⟩
  .obtain⟨o',e1⟩:=I.base.there b o e hx;exact⟨o',(hs.2 b (aH (az (aN e) (I.ok.cab x c Uu hc)))).trans e1⟩
  .by_cases hj:j=i
   .subst hj;rw[Z]at e1;cases e1;rw[bA a2]at e2;cases e2;exact⟨u,r,.inr ⟨.inl hk,c,hc,a1⟩⟩
   .rw[aC (bH hj)]at e2;obtain⟨u',r',q⟩:=hl j y v' e1 e2 e3;refine⟨u',r',?_⟩;rcases q with q|⟨k,c',e,z'⟩
    .exact .inl q
    .refine .inr ⟨k,c',e,z'.sameBut hs ?_⟩
     rintro rfl
     exact hj (aP8 hN e1 (I.ok.inj _ _ _ e hc▸Z))
  .by_cases hcc:c'=c
   .subst hcc;exact⟨_,a1⟩
   .obtain⟨w2,z2⟩:=I.cell y c' e;exact⟨w2,z2.sameBut hs hcc⟩
  .obtain⟨e,n,ne,nf,d⟩:=I.pin p hp;refine⟨(hs.2 p.1 ?_).trans e,n,ne,nf,d⟩
   grind
def am9 {E:yB}(I:Inv X pins W H s)(hN:X.N.Nodup)(z:X.N[i]?=al x)(hx:Loc X.env.scope x)(r:RelV v u)
  (h:∀ s',Inv X pins (W.set i (al v)) H s'->Q () s') (J:autoParam (X.fn x=bY\/X.env.scope.names.lookup x=al .local) Zq0._auto_1):wpAny M A (f7 X.env x u) Q E s :=
 aD4 I hN z hx r (λ s' B _=>h s' B) J
def Inv.call' (I:Inv X pins W H s)(ho:s'.os=s.os)(u:Un (frs X.stack) ch H H' s.heap s'.heap)(hok:HOk X.prog X.w H' s'.heap)(B:fY s'.gens)
  (h:∀ b∈ch,(b∈X.ex\/X.s₀.heap.objs.size<=b)/\b≠X.env.locals/\(∀ x c,X.env.cells.lookup x=al c->c≠b)/\∀ p∈X.pn++pins,p.1≠b):Inv X pins W H' s':=by
 obtain⟨h',g',d',t',z⟩:=s';have e:=ho;subst e;exact I.call u hok B h
end
abbrev XK:=Value->Option Addr->Hp->Prop
abbrev St:=List (Option V)
abbrev VK:=V->Hp->Prop
abbrev TE:=St->Hp->VK->Prop
abbrev TT:=St->Hp->(Bool->Hp->Prop)->Prop
abbrev TA:=St->Hp->(List V->Hp->Prop)->Prop
structure Ends where
 nx:St->Hp->Prop
 rt:VK
 bk:St->Hp->Prop:=λ _ _=>False
 ct:St->Hp->Prop:=λ _ _=>False
abbrev TS:=Ends->St->Hp->Prop
def EP (X:Cx)(pins:yA)(W:St)(Q:VK)(u:Value)(s':af):Prop:=∃ v H',Inv X pins W H' s'/\RelV v u/\Q v H'
def TP (X:Cx)(pins:yA)(W:St)(Q:Bool->Hp->Prop)(b:Bool)(s':af):Prop:=∃ H',Inv X pins W H' s'/\Q b H'
def AP (X:Cx)(pins:yA)(W:St)(Q:List V->Hp->Prop)(us:yH)(s':af):Prop:=∃ vs H',Inv X pins W H' s'/\Vals vs us/\Q vs H'
def SP (X:Cx)(pins:yA)(D:Ends)(f:Flow)(s':af):Prop :=
 match f with
 | .next=>∃ W' H',Inv X pins W' H' s'/\D.nx W' H'
 | .brk=>∃ W' H',Inv X pins W' H' s'/\D.bk W' H'
 | .cont=>∃ W' H',Inv X pins W' H' s'/\D.ct W' H'
 | .ret u=>∃ v W' H',Inv X pins W' H' s'/\RelV v u/\D.rt v H'
def PE (X:Cx)(e:Expr)(t:TE):Prop :=
 ∀ pins   s  (W:St)  H   Q ,Inv X pins W H s->t W H Q->wpAny (model X.prog X.w) X.A (eval e X.env) (EP X pins W Q) X.xe s
def PT (X:Cx)(e:Expr)(t:TT):Prop :=
 ∀ pins   s  (W:St)  H   Q ,Inv X pins W H s->t W H Q->wpAny (model X.prog X.w) X.A (gN e X.env (eval e X.env)) (TP X pins W Q) X.xe s
def PW (X:Cx)(e:Expr)(t:TT):Prop :=
 ∀ whole   pins   s  (W:St)  H   Q ,Inv X pins W H s->t W H Q->wpAny (model X.prog X.w) X.A (gN e X.env whole) (TP X pins W Q) X.xe s
def PW.pt (h:PW X e t):PT X e t:=h _
def PA (X:Cx)(es:yL)(t:TA):Prop :=
 ∀ pos   pins   s  (W:St)  H   Q ,Inv X pins W H s->t W H Q->wpAny (model X.prog X.w) X.A (spliced (cQ pos (a9 es X.env))) (AP X pins W Q) X.xe s
def PS (X:Cx)(st:Stmt)(t:TS):Prop :=
 ∀ pins   s  (W:St)  H   D ,Inv X pins W H s->t D W H->wpAny (model X.prog X.w) X.A (exec st X.env) (SP X pins D) X.xe s
def PSs (X:Cx)(st:yM)(t:TS):Prop :=
 ∀ pins   s  (W:St)  H   D ,Inv X pins W H s->t D W H->wpAny (model X.prog X.w) X.A (execs st X.env) (SP X pins D) X.xe s
def thn {M}{A}{E:yB}{s}(h:wpAny M A t Q E s)(B:∀ a s,Q a s->z a s):wpAny M A t z E s:=bF h B λ _ _ x=>x
section
variable {X:Cx}
def bin (ha:PE X a J)(hb:PE X b tb){W:St}{R:V->V->Hp->Prop}(I:Inv X z W H s)(h:J W H λ x B=>tb W B λ y H2=>R x y H2)
  {f:Value->Value->Sem α}
  (hf:∀ v u s2 x y H2,Inv X z W H2 s2->RelV x v->RelV y u->R x y H2->wpAny (model X.prog X.w) X.A (f v u) Q X.xe s2) :
  wpAny (model X.prog X.w) X.A (eval a X.env) (λ v Uu=>wpAny (model X.prog X.w) X.A (eval b X.env) (λ u s₂=>wpAny (model X.prog X.w) X.A (f v u) Q X.xe s₂) X.xe Uu) X.xe s:=by
 refine thn (ha z s W H _ I h) λ v s1 ⟨x,B,I1,r1,Y⟩=>?_;refine thn (hb z s1 W B _ I1 Y) λ u s2 ⟨y,H2,I2,Z,q2⟩=>?_;exact hf v u s2 x y H2 I2 r1 Z q2
def bx0 (i:Nat):TE:=λ W H Q=>∃ v,W[i]?=al (al v)/\Q v H
def tC (v:V):TE:=λ _ H Q=>Q v H
def bi0 {pos}(hN:X.N[i]?=al x)(hv:Vis X.env.scope x)(hd:autoParam ((x==("__debug__":Str))=ce) Zq1._auto_1)(B:autoParam ((x==("__classdict__":Str))=ce) Zq1._auto_1):PE X (.Name x pos) (bx0 i):=by
 intro z s W H Q I h;obtain⟨v,e,h⟩:=h;obtain⟨m,hn,Uu⟩:=I.loc;obtain⟨u,r,l⟩:=Uu i x v hN e hv;have fin:EP X z W Q u s:=⟨v,H,I,r,h⟩
 rcases l with⟨hk,J⟩|⟨hk,c,hc,hcell⟩
 .exact lE (iQ I.ok.kind hk hn J fin) hd
 .rcases hk with hk|hk
  .exact lE (jQ I.ok.kind hk hc hcell fin) hd
  .exact lE (wpAny_loadName_free I.ok.kind hk hc hcell fin B) hd
def bx5 :PE X (.Constant (.int i) j pos) (tC (.int i)):=λ _ _ _ H _ I h=>wpAny_Constant_int ⟨.int i,H,I.tok _,⟨_,rfl⟩,h⟩
def cb2 :PE X (.Constant (.bool b) j pos) (tC (.T b)):=λ _ _ _ H _ I h=>Constant_bool ⟨.T b,H,I,rfl,h⟩
def bA3 :PE X (.Constant .none j pos) (tC .N):=λ _ _ _ H _ I h=>jW ⟨.N,H,I,rfl,h⟩
def by6 :PE X (.Constant (.str x) j pos) (tC (.str x)):=λ _ _ _ H _ I h=>Calls.Constant_str ⟨.str x,H,I.tok _,⟨_,rfl⟩,h⟩
def Gl (X:Cx)(x:Str):Prop:=X.env.kindOf x=al .globalImplicit
def aj6 {E:yB}{W:St}{Q:yB}(I:Inv X z W H s)(B:Gl X x)(J:X.mg x=al u)(h:Q u s)
  (hd:autoParam ((x==("__debug__":Str))=ce) Zq1._auto_1):wpAny (model X.prog X.w) X.A (eval (.Name x pos) X.env) Q E s :=
 ga I.ok.kind B (Calls.loadGlobal_global (by rw[I.ok.glob];exact I.mod.glob.keeps I.bk) J h) hd
def aF1 {E:yB}{W:St}{pos}{Q:yB}(I:Inv X z W H s)(J:Gl X x)(Y:X.mg x=aT)(hv:cf x=al u)(h:Q u s)
  (hn:autoParam (x ≠ "__name__") Zq1._auto_1) (hd:autoParam ((x==("__debug__":Str))=ce) Zq1._auto_1):wpAny (model X.prog X.w) X.A (eval (.Name x pos) X.env) Q E s:=by
 obtain⟨mb,B,Uu⟩:=I.mod.blt;exact ga I.ok.kind J (Calls.loadGlobal_builtin (by rw[I.ok.glob];exact I.mod.glob.keeps I.bk) Y (by rw[I.ok.blt];exact B.keeps I.bk) ((Uu x hn).trans hv) h) hd
def aH0 (z:Gl X x)(B:X.mg x=al u)(r:RelV v u)(hd:autoParam ((x==("__debug__":Str))=ce) Zq1._auto_1):PE X (.Name x pos) (tC v) :=
 λ _ _ _ H _ I h=>aj6 I z B ⟨v,H,I,r,h⟩ hd
variable {a b:Expr} {ta tb:TE} {pos:Pos}
def PC (X:Cx)(op:CmpOp)(a b:Expr)(t:TE):Prop :=
 ∀ pins   s  (W:St)  H   Q ,Inv X pins W H s->t W H Q ->
  wpAny (model X.prog X.w) X.A (eval a X.env) (λ v s₁=>wpAny (model X.prog X.w) X.A (eval b X.env) (λ u s₂=>wpAny (model X.prog X.w) X.A (dP op v u) (EP X pins W Q) X.xe s₂) X.xe s₁) X.xe s
def aK7  b (h:op≠.In)(z:op≠.NotIn):dQ op b=false:=by
 have e1:(op==CmpOp.In)=false:=by lia
 have e2:(op==CmpOp.NotIn)=false:=by lia
 cases b<;>simp[dQ,e1,e2]
def cp7 (ta:TE):TE:=λ W H Q=>ta W H λ x H1=>Q (.T (decide (x=.N))) H1
def cg0 (ta:TE):TE:=λ W H Q=>ta W H λ x H1=>Q (.T (!decide (x=.N))) H1
def RelV.none_iff (r:RelV x v):(v==Value.none)=decide (x=.N):=by
 cases x with
 | N=>cases r;rfl
 | T _=>cases r;rfl
 | int _=>obtain⟨t,rfl⟩:=r;rfl
 | str _=>obtain⟨t,rfl⟩:=r;rfl
 | byt _=>obtain⟨t,rfl⟩:=r;rfl
 | flt _=>obtain⟨t,rfl⟩:=r;rfl
 | ref _=>cases r;rfl
 | ty _=>cases r;rfl
def bw2 (ha:PE X a ta):PC X .Is a (.Constant .none j pos') (cp7 ta):=by
 intro z s W H Q I h;refine thn (ha z s W H _ I h) λ v s1 ⟨x,B,J,r1,Uu⟩=>?_;exact jW (is_none_gen ⟨.T _,B,J,by rw[r1.none_iff];rfl,Uu⟩)
def bb0 (ha:PE X a ta):PC X .IsNot a (.Constant .none j pos') (cg0 ta):=by
 intro z s W H Q I h;refine thn (ha z s W H _ I h) λ v s1 ⟨x,B,J,r1,Uu⟩=>?_;exact jW (isnot_none_gen ⟨.T _,B,J,by rw[r1.none_iff];rfl,Uu⟩)
def tB (t:TE):TT:=λ W H Q=>t W H λ x H1=>∃ c,x=.T c/\Q c H1
def by0 (h:PC X op a b t)(B:autoParam (dQ op b=ce) Zq2._auto_1):PE X (.Compare a [op] [b] pos) t:=λ z s W H Q I hw=>wpAny_Compare1 (h z s W H Q I hw) B
def bx1 (h:PC X op a b t)(B:autoParam (dQ op b=ce) Zq2._auto_1):PT X (.Compare a [op] [b] pos) (tB t):=by
 intro z s W H Q I hw;refine iB (thn (h z s W H _ I hw) λ v s1 B=>thn B λ u s2 Z=>thn Z λ c s3 ⟨x,J,Uu,r1,Y⟩=>?_) B;obtain⟨d,rfl,q⟩:=Y;cases r1;exact cM ⟨J,Uu,q⟩
def bZ8 (h:PE X e t)(Y:autoParam (∀ z,gN e X.env z=(do let v <- z;kq e.pos;gz [v] (truthy v))) Zq3._auto_1):PT X e (tB t):=by
 intro B s W H Q I hw;refine isTrue_plain (thn (h B s W H _ I hw) λ v s1 ⟨x,J,Uu,r1,Z⟩=>?_) (Y _);obtain⟨d,rfl,q⟩:=Z;cases r1;exact cM ⟨J,Uu,q⟩
variable {tA tB':TT} {rest:yL}
def cr2 (t u:TT):TT:=λ W H Q=>t W H λ c H1=>if c=bY then u W H1 Q else Q ce H1
def tOr (t u:TT):TT:=λ W H Q=>t W H λ c H1=>if c=bY then Q bY H1 else u W H1 Q
def cr6 (t:TT):TT:=λ W H Q=>t W H λ c H1=>Q (!c) H1
def bO7 (ha:PT X a tA):PW X (.BoolOp .And [a] pos) tA:=by
 intro B z s W H Q I h;refine isTrue_and (thn (ha z s W H Q I h) λ c s1 e=>?_);cases c with
 | true=>exact isTrue_and_nil e
 | false=>exact e
def cc2 (ha:PT X a tA):PW X (.BoolOp .Or [a] pos) tA:=by
 intro B z s W H Q I h;refine isTrue_or (thn (ha z s W H Q I h) λ c s1 e=>?_);cases c with
 | false=>exact isTrue_or_nil e
 | true=>exact e
def bz8 (ha:PT X a tA)(hb:PW X (.BoolOp .And (b::rest) pos) tB'):PW X (.BoolOp .And (a::b::rest) pos) (cr2 tA tB'):=by
 intro Y z s W H Q I h;refine isTrue_and (thn (ha z s W H _ I h) λ c s1 ⟨B,J,Uu⟩=>?_);cases c with
 | true=>exact hb Y z s1 W B Q J Uu
 | false=>exact⟨B,J,Uu⟩
def bS0 (ha:PT X a tA)(hb:PW X (.BoolOp .Or (b::rest) pos) tB'):PW X (.BoolOp .Or (a::b::rest) pos) (tOr tA tB'):=by
 intro Y z s W H Q I h;refine isTrue_or (thn (ha z s W H _ I h) λ c s1 ⟨B,J,Uu⟩=>?_);cases c with
 | true=>exact⟨B,J,Uu⟩
 | false=>exact hb Y z s1 W B Q J Uu
def bS4 (ha:PT X a tA):PT X (.UnaryOp .Not a pos) (cr6 tA):=by
 intro z s W H Q I h;exact isTrue_not (ha z s W H (λ c B=>Q (!c) B) I h)
def bT7 (ta tb:TE):TE:=λ W H Q=>ta W H λ x H1=>∃ c,x=.T c/\if c=bY then tb W H1 Q else Q (.T ce) H1
def cs5 (ta tb:TE):TE:=λ W H Q=>ta W H λ x H1=>∃ c,x=.T c/\if c=bY then Q (.T bY) H1 else tb W H1 Q
def cd3 (ta:TE):TE:=λ W H Q=>ta W H λ x H1=>∃ c,x=.T c/\Q (.T (!c)) H1
def bw4 (h:PE X a t):PE X (.BoolOp op [a] pos) t:=λ z s W H Q I hw=>BoolOp_one (h z s W H Q I hw)
def bw9 (ha:PE X a ta)(hb:PE X (.BoolOp .And (b::rest) pos) tb):PE X (.BoolOp .And (a::b::rest) pos) (bT7 ta tb):=by
 intro z s W H Q I h;refine BoolOp_and (thn (ha z s W H _ I h) λ v s1 ⟨x,J,Uu,r1,B⟩=>?_);obtain⟨c,rfl,B⟩:=B;cases r1;refine cM ?_;cases c with
 | true=>exact hb z s1 W J Q Uu B
 | false=>exact⟨.T ce,J,Uu,rfl,B⟩
def bW1 (ha:PE X a ta)(hb:PE X (.BoolOp .Or (b::rest) pos) tb):PE X (.BoolOp .Or (a::b::rest) pos) (cs5 ta tb):=by
 intro z s W H Q I h;refine BoolOp_or (thn (ha z s W H _ I h) λ v s1 ⟨x,J,Uu,r1,B⟩=>?_);obtain⟨c,rfl,B⟩:=B;cases r1;refine cM ?_;cases c with
 | false=>exact hb z s1 W J Q Uu B
 | true=>exact⟨.T bY,J,Uu,rfl,B⟩
def bV4 (ha:PE X a ta):PE X (.UnaryOp .Not a pos) (cd3 ta):=by
 intro z s W H Q I h;refine UnaryOp_ (thn (ha z s W H _ I h) λ v s1 ⟨x,J,Uu,r1,B⟩=>?_);obtain⟨c,rfl,B⟩:=B;cases r1;exact not_of (cM ⟨.T (!c),J,Uu,rfl,B⟩)
def tIf (t:TT)(ta tb:TE):TE:=λ W H Q=>t W H λ c H1=>if c=bY then ta W H1 Q else tb W H1 Q
def bp2 (hc:PT X c tA)(ha:PE X a ta)(hb:PE X b tb):PE X (.IfExp c a b pos) (tIf tA ta tb):=by
 intro z s W H Q I h;refine wpAny_IfExp (thn (hc z s W H _ I h) λ d s1 ⟨B,J,Uu⟩=>?_);cases d with
 | true=>exact ha z s1 W B Q J Uu
 | false=>exact hb z s1 W B Q J Uu
end
def SqL (K:ac)(H:Hp)(a:Addr)(xs:List V):Prop :=
 Rd H a (.J xs) \/
  ∃(o:Obj) (its:yK) (n:Nat),K.lookup a=al o/\o.cls=.type "list"/\o.dict=aT/\o.data=.seq its n/\its.size<=a7/\Vals xs its.toList
def SqT (K:ac)(H:Hp)(a:Addr)(xs:List V):Prop :=
 Rd H a (.tp xs) \/
  ∃(o:Obj) (its:yK) (n:Nat),K.lookup a=al o/\o.cls=.type "tuple"/\o.data=.seq its n/\its.size<=a7/\Vals xs its.toList
noncomputable def ct0:Value->Option V
 | .none=>al .N
 | .bool b=>al (.T b)
 | .int i _=>al (.int i)
 | .str x _=>al (.str x)
 | .bytes b _=>al (.byt b)
 | .float b _=>al (.flt b)
 | .ref a=>al (.ref a)
 | .type n=>al (.ty n)
 | _=>aT
def RelV.abs (r:RelV x u):ct0 u=al x:=by
 cases x with
 | N=>cases r;rfl
 | T _=>cases r;rfl
 | int _=>obtain⟨t,rfl⟩:=r;rfl
 | str _=>obtain⟨t,rfl⟩:=r;rfl
 | byt _=>obtain⟨t,rfl⟩:=r;rfl
 | flt _=>obtain⟨t,rfl⟩:=r;rfl
 | ref _=>cases r;rfl
 | ty _=>cases r;rfl
def RelV.inj (r:RelV x u)(q:RelV y u):x=y:=av (r.abs.symm.trans q.abs)
theorem Vals.inj:∀ {h ys} {us:yH},Vals h us->Vals ys us->h=ys
 | _,_,_,.nil,.nil=>rfl
 | _,_,_,.cons r t,.cons r' t'=>by rw[r.inj r',Vals.inj t t']
section
variable {X:Cx} {pins:yA} {W:St} {H:Hp} {s:af} {a:Addr} {xs ys:List V}
def SqL.of {K}(h:H a=al (.J xs)):SqL K H a xs:=.inl (.inl h)
def SqT.of {K}(h:H a=al (.tp xs)):SqT K H a xs:=.inl (.inl h)
def Inv.list (I:Inv X pins W H s)(h:SqL X.K H a xs):∃ its,Vals xs its/\PlainL s.heap a its.toArray/\xs.length<=a7:=by
 rcases h with h|⟨o,its,n,hk,hc,hd,hs,hz,r⟩
 .obtain⟨z,its,n,r,e⟩:=h.ok I.hok;exact⟨its,r,⟨_,n,e,rfl,rfl,rfl⟩,z⟩
 .refine⟨its.toList,r,⟨o,n,I.kIn a o hk,hc,hd,by simp_all⟩,?_⟩;have e:=r.length
  simp_all
def Inv.tuple (I:Inv X pins W H s)(h:SqT X.K H a xs):∃ its,Vals xs its/\IsTup s.heap a its.toArray/\xs.length<=a7:=by
 rcases h with h|⟨o,its,n,hk,hc,hs,hz,r⟩
 .obtain⟨z,its,r,p⟩:=h.ok I.hok
  grind
 .refine⟨its.toList,r,⟨o,I.kIn a o hk,hc,n,by simp_all⟩,?_⟩;have e:=r.length
  simp_all
def Inv.list_inj (I:Inv X pins W H s)(h:SqL X.K H a xs)(h':SqL X.K H a ys):xs=ys:=by
 obtain⟨its,r,⟨o,n,e,_,_,d⟩,_⟩:=I.list h;obtain⟨its',z,⟨J,B,e',_,_,d'⟩,_⟩:=I.list h';rw[e]at e';cases e';rw[d]at d';injection d' with d1 _;have:=by simpa using congrArg kr d1
 subst this;exact r.inj z
def Inv.tuple_inj (I:Inv X pins W H s)(h:SqT X.K H a xs)(h':SqT X.K H a ys):xs=ys:=by
 obtain⟨its,r,⟨o,e,_,n,d⟩,_⟩:=I.tuple h;obtain⟨its',z,⟨J,e',_,B,d'⟩,_⟩:=I.tuple h';rw[e]at e';cases e';rw[d]at d';injection d' with d1 _;have:=by simpa using congrArg kr d1
 subst this;exact r.inj z
end
noncomputable abbrev Cx.wish (X:Cx)(E:yB):Cx:={ X with xe:=E }
noncomputable abbrev Cx.nox (X:Cx):Cx:=X.wish λ _ _=>False
theorem Cx.Ok.wish {X:Cx}(ok:X.Ok)(E:yB):(X.wish E).Ok :=
 ⟨ok.mod,ok.kind,ok.glob,ok.blt,ok.above,ok.inj,ok.has,ok.cab,ok.hd,ok.frames,ok.stk,ok.exf,ok.bs,ok.bsz,ok.noex,ok.exfs,ok.funs,ok.frf⟩
def Cx.Ok.unwish {X:Cx}(ok:(X.wish E).Ok):X.Ok :=
 ⟨ok.mod,ok.kind,ok.glob,ok.blt,ok.above,ok.inj,ok.has,ok.cab,ok.hd,ok.frames,ok.stk,ok.exf,ok.bs,ok.bsz,ok.noex,ok.exfs,ok.funs,ok.frf⟩
section
variable {X:Cx} {pins:yA} {W:St} {H:Hp} {s:af} {E:yB}
theorem Inv.wish (I:Inv X pins W H s) E :Inv (X.wish E) pins W H s:=⟨I.ok.wish E,I.os,I.bare,I.base,I.loc,I.cell,I.free,I.freeC,I.pin,I.hok,I.len⟩
theorem Inv.unwish (I:Inv (X.wish E) pins W H s):Inv X pins W H s:=⟨I.ok.unwish,I.os,I.bare,I.base,I.loc,I.cell,I.free,I.freeC,I.pin,I.hok,I.len⟩
theorem SP.unwish (h:SP (X.wish E) pins D f s'):SP X pins D f s':=by
 cases f with
 | next=>obtain⟨W',H',I,q⟩:=h;exact⟨W',H',I.unwish,q⟩
 | brk=>obtain⟨W',H',I,q⟩:=h;exact⟨W',H',I.unwish,q⟩
 | cont=>obtain⟨W',H',I,q⟩:=h;exact⟨W',H',I.unwish,q⟩
 | ret u=>obtain⟨v,W',H',I,r,q⟩:=h;exact⟨v,W',H',I.unwish,r,q⟩
theorem PE.nox (h:PE X.nox e t):PE X e t:=λ B s W H Q I hw =>
 bF (h B s W H Q (I.wish _) hw) (λ _ _ ⟨v,H',J,r,q⟩=>⟨v,H',J.unwish,r,q⟩) λ _ _ z=>bn z
theorem PT.nox (h:PT X.nox e t):PT X e t:=λ B s W H Q I hw =>
 bF (h B s W H Q (I.wish _) hw) (λ _ _ ⟨H',J,q⟩=>⟨H',J.unwish,q⟩) λ _ _ z=>bn z
theorem PSs.nox {st}(h:PSs X.nox st t):PSs X st t:=λ B s W H D I hw =>
 bF (h B s W H D (I.wish _) hw) (λ _ _ q=>q.unwish) λ _ _ z=>bn z
end
section
variable {X:Cx} {st:Stmt} {rest:yM} {t u:TS} {e:Expr} {te:TE} {pos:Pos}
def bY1:TS:=λ D W H=>D.nx W H
noncomputable def cl2 (t u:TS):TS:=λ D W H=>t { D with nx:=u D } W H
def ax0:PSs X [] bY1:=λ _ _ W H _ I h=>dH ⟨W,H,I,h⟩
set_option tactic.hygienic true in
def zA (B:PS X st t)(Uu:PSs X rest u):PSs X (st::rest) (cl2 t u):=by
 intro z s W H D I h;refine kP (thn (B z s W H { D with nx:=u D } I h) λ f s1 q=>?_);cases f with
 | next =>
  obtain⟨W',H',J,q⟩:=q;exact Uu z s1 W' H' D J q
 | ret v=>exact q
 | brk=>exact q
 | cont=>exact q
def aJ2 (B:PS X st t):PSs X [st] t:=by
 intro z s W H D I h;refine kP (thn (B z s W H D I h) λ f s1 q=>?_);cases f with
 | next=>exact dH q
 | ret v=>exact q
 | brk=>exact q
 | cont=>exact q
def Inv.quiet {W:St}(I:Inv X h W H s):interactive X.env=false:=by simp[interactive,I.ok.kind]
def bY3 (te:TE):TS:=λ D W H=>te W H λ _ H1=>D.nx W H1
def aI9 (Uu:PE X e te)(hs:autoParam (fA e aT pos.line X.env=pure ce) Zq4._auto_1):PS X (.Expr e pos) (bY3 te):=by
 intro z s W H D I h;exact wpAny_Expr_any (thn (Uu z s W H _ I h) λ v s1 ⟨x,B,J,r1,Y⟩=>⟨W,B,J,Y⟩) I.quiet hs
def cr1 (te:TE):TS:=λ D W H=>te W H D.rt
def an9 (Uu:PE X e te):PS X (.Return (al e) pos) (cr1 te):=by
 intro z s W H D I h;exact wpAny_Return_some (thn (Uu z s W H _ I h) λ v s1 ⟨x,B,J,r1,Y⟩=>⟨x,W,B,J,r1,Y⟩)
def cc9:TS:=λ D _ H=>D.rt .N H
def bH7:PS X (.Return aT pos) cc9:=λ _ _ W H _ I h=>wpAny_Return_none ⟨.N,W,H,I,rfl,h⟩
def cs6 (c:TT)(t u:TS):TS:=λ D W H=>c W H λ b H1=>if b=bY then t D W H1 else u D W H1
def bT0 (hc:PT X c Y)(ha:PSs X a t)(hb:PSs X b u):PS X (.If c a b pos) (cs6 Y t u):=by
 intro z s W H D I h;refine wpAny_If (thn (hc z s W H _ I h) λ d s1 ⟨B,J,Uu⟩=>?_);cases d with
 | true=>exact ha z s1 W B D J Uu
 | false=>exact hb z s1 W B D J Uu
def bw7:TS:=λ _ _ _=>False
def bp8:PS X st bw7:=λ _ _ _ _ _ _ h=>h.elim
def qt :PSs X z bw7:=λ _ _ _ _ _ _ h=>h.elim
end
abbrev TG:=V->St->Hp->(St->Hp->Prop)->Prop
abbrev TGs:=List V->St->Hp->(St->Hp->Prop)->Prop
def PG (X:Cx)(target:Expr)(t:TG):Prop :=
 ∀ pins   s  (W:St)  H   v   u   Q ,Inv X pins W H s->RelV v u->t v W H Q ->
  wpAny (model X.prog X.w) X.A (hJ target X.env u) (λ _ s'=>∃ W' H',Inv X pins W' H' s'/\Q W' H') X.xe s
def PGs (X:Cx)(ts:yL)(t:TGs):Prop :=
 ∀ pins   s  (W:St)  H   vs  (us:yH)  Q ,Inv X pins W H s->Vals vs us->t vs W H Q ->
  wpAny (model X.prog X.w) X.A (assignInOrder ((cY ts X.env).map (·.2)) us) (λ _ s'=>∃ W' H',Inv X pins W' H' s'/\Q W' H') X.xe s
abbrev cg9:=V->V->V->Hp->(Hp->Prop)->Prop
def cn1 (X:Cx)(t:cg9):Prop :=
 ∀ pins   s  (W:St)  H   o i v   ov iv u   Q ,Inv X pins W H s->RelV o ov->RelV i iv->RelV v u->t o i v H Q ->
  wpAny (model X.prog X.w) X.A (setItem ov iv u) (λ _ s'=>∃ H',Inv X pins W H' s'/\Q H') X.xe s
abbrev TIp:=V->V->Hp->VK->Prop
def PIp (X:Cx)(op:lF)(t:TIp):Prop :=
 ∀ pins   s  (W:St)  H   x y   v u   Q ,Inv X pins W H s->RelV x v->RelV y u->t x y H Q ->
  wpAny (model X.prog X.w) X.A (inplaceOp op v u) (EP X pins W Q) X.xe s
section
variable {X:Cx} {pos:Pos}
def aC2 (i:Nat):TG:=λ v W H Q=>Q (W.set i (al v)) H
def aZ5 (hN:X.N.Nodup)(B:X.N[i]?=al x)(hx:Loc X.env.scope x)(Uu:autoParam (X.fn x=bY\/X.env.scope.names.lookup x=al .local) Zq0._auto_1):PG X (.Name x pos) (aC2 i):=by
 intro z s W H v u Q I r h;exact ku (am9 I hN B hx r (λ s' J=>⟨_,H,J,h⟩) Uu)
def cp1:TGs:=λ vs W H Q=>vs=[]/\Q W H
def cb5 (t:TG)(u:TGs):TGs:=λ vs W H Q=>∃ v r,vs=v::r/\t v W H λ W' H'=>u r W' H' Q
def bI0:PGs X [] cp1:=by
 intro z s W H vs us Q I r h;obtain⟨e,h⟩:=h;subst e;cases r;exact assignInOrder_nil ⟨W,H,I,h⟩
def bq6 (B:PG X e t)(Z:PGs X es u)
  (hs:autoParam ((cY (e::es) X.env).map (·.2)=hJ e X.env::(cY es X.env).map (·.2)) Zq4._auto_1):PGs X (e::es) (cb5 t u):=by
 intro z s W H vs us Q I r h;obtain⟨v,vr,e1,h⟩:=h;subst e1;cases r with
 | cons r rr =>
  rw[hs];refine assignInOrder_cons (thn (B z s W H _ _ _ I r h) λ _ s1 ⟨W1,Uu,Y,J⟩=>?_);exact Z z s1 W1 Uu _ _ Q Y rr J
def ck7 (K:ac)(n:Nat)(t:TGs):TG:=λ v W H Q=>∃ a xs,v=.ref a/\SqT K H a xs/\xs.length=n/\t xs W H Q
def ca4 {k}(hc:X.calm=bY)(h:PGs X es t)
  (hn:autoParam ((cY es X.env).length=n) Zq4._auto_1) (B:autoParam ((cY es X.env).findIdx? (·.1)=aT) Zq4._auto_1):PG X (.Tuple es k pos) (ck7 X.K n t):=by
 intro z s W H v u Q I r hw;refine wl λ _ ua=>?_;obtain⟨a,Z,e1,hq,Uu,hw⟩:=hw;subst e1;cases r;obtain⟨its,J,ht,hz⟩:=I.tuple hq;refine ua ?_;refine assign_Tuple_tuple (I.ok.hd hc) ht (by simp[hn,<-Uu,J.length]) B λ h' hx=>?_;have Y:=I.kept (t':=s.toks) λ b o e=>hx b o (aH (aN e)) e;exact h z _ W H Z _ Q Y (by simp_all) hw
def cr0 (to ti:TE)(t:cg9):TG:=λ v W H Q=>to W H λ o H1=>ti W H1 λ i H2=>t o i v H2 λ H3=>Q W H3
def bV1 (ho:PE X o J)(Y:PE X i Uu)(hs:cn1 X t)
  (ha:autoParam (∀ v,hJ (.Subscript o i pos) X.env v=(do
   let ov <- gz [v] (eval o X.env)
   let B <- gz [v,ov] (eval i X.env)
   kq pos
   gz [v,ov,B] (setItem ov B v)
   release [v,ov,B] [])) Zq3._auto_1):PG X (.Subscript o i pos) (cr0 J Uu t):=by
 intro z s W H v u Q I r h;rw[ha];refine ai (dR (thn (ho z s W H _ I h) λ ov s1 ⟨x,H1,I1,r1,Z⟩=>?_));refine ai (dR (thn (Y z s1 W H1 _ I1 Z) λ B s2 ⟨y,H2,I2,r2,q2⟩=>?_));refine ai (jX (ai (dR (thn (hs z s2 W H2 x y v ov B u _ I2 r1 r2 r q2) λ _ s3 ⟨H3,I3,q3⟩=>?_))));exact wpAny_release ⟨W,H3,I3,q3⟩
def bq2 (te:TE)(g:TG):TS:=λ D W H=>te W H λ x H1=>g x W H1 D.nx
def by4 (Z:PE X e B)(hg:PG X tg g)(hs:autoParam (swapsWithSole [tg] e pos.line X.env=pure ce) Zq4._auto_1)(hw:autoParam (jY [tg] e X.env=pure aT) Zq4._auto_1)
  (J:autoParam ((cY [tg] X.env).map (·.2)=[hJ tg X.env]) Zq4._auto_1):PS X (.Assign [tg] e pos) (bq2 B g):=by
 intro z s W H D I h;refine wpAny_Assign_stores (thn (Z z s W H _ I h) λ v s1 ⟨x,Uu,Y,r1,q1⟩=>?_) hs hw;rw[J];exact thn (hg z s1 W Uu x v _ Y r1 q1) λ _ s2 q=>q
def bw3 (hN:X.N.Nodup)(Uu:X.N[i]?=al x)(hx:Loc X.env.scope x)(Z:PE X e J)(hs:autoParam (fA e (al (.Name x z)) pos.line X.env=pure ce) Zq4._auto_1)(hf:autoParam (X.fn x=bY\/X.env.scope.names.lookup x=al .local) Zq0._auto_1) :
  PS X (.Assign [.Name x z] e pos) (bq2 J (aC2 i)):=by
 intro B s W H D I h;refine wpAny_Assign_Name (thn (Z B s W H _ I h) λ v s1 ⟨y,H1,I1,r1,Y⟩=>?_) hs;exact am9 I1 hN Uu hx r1 (λ s2 I2=>⟨_,H1,I2,Y⟩) hf
def cq0 (i:Nat)(te:TE)(ti:TIp):TS:=λ D W H=>∃ x,W[i]?=al (al x)/\te W H λ y H1=>ti x y H1 λ z H2=>D.nx (W.set i (al z)) H2
def bU9 (hN:X.N.Nodup)(Y:X.N[i]?=al x)(hx:Loc X.env.scope x)(he:PE X e Uu)(ho:PIp X op Z)(hf:autoParam (X.fn x=bY\/X.env.scope.names.lookup x=al .local) Zq0._auto_1) :
  PS X (.AugAssign (.Name x J) op e pos) (cq0 i Uu Z):=by
 intro B s W H D I h;obtain⟨v,e1,h⟩:=h;obtain⟨m,hn,hl⟩:=I.loc;have vis:Vis X.env.scope x:=by rcases hx with k|k;exact .inl k;exact .inr (.inl k)
 obtain⟨u,r,l⟩:=hl i x v Y e1 vis;refine wpAny_AugAssign_Name ?_;have go:wpAny (model X.prog X.w) X.A (eval e X.env) (λ w s₂=>wpAny (model X.prog X.w) X.A (inplaceOp op u w) (λ r s₃=>wpAny (model X.prog X.w) X.A (f7 X.env x r) (λ _=>SP X B D .next) X.xe s₃) X.xe s₂) X.xe s:=by
  refine thn (he B s W H _ I h) λ w s1 ⟨y,H1,I1,r1,q1⟩=>?_;refine thn (ho B s1 W H1 v y u w _ I1 r r1 q1) λ z s2 ⟨zv,H2,I2,r2,q2⟩=>?_;exact am9 I2 hN Y hx r2 (λ s3 I3=>⟨_,H2,I3,q2⟩) hf
 rcases l with⟨hk,hm⟩|⟨hk,c,hc,hcell⟩
 .exact iQ I.ok.kind hk hn hm go
 .rcases hk with hk|hk
  .exact jQ I.ok.kind hk hc hcell go
  .rcases hx with k|k
   .have:X.env.scope.names.lookup x=al .free:=hk
    simp_all
   .have:X.env.scope.names.lookup x=al .free:=hk
    simp_all
def ipI (f:Int->Int->Int):TIp:=λ x y H Q=>∃ i j,x=.int i/\y=.int j/\Q (.int (f i j)) H
def bT9:PIp X .Add (ipI λ i j=>i+j):=by
 intro z s W H x y v u Q I r1 B h;obtain⟨i,j,e1,e2,q⟩:=h;subst e1;subst e2;obtain⟨t,rfl⟩:=r1;obtain⟨t',rfl⟩:=B;exact iadd_int ⟨.int _,H,I.tok _,⟨_,rfl⟩,q⟩
end
section
variable {X:Cx} {pos:Pos}
def bh5 (c:TT)(tb:TS):TS:=λ D W H=>∃ Ww:Nat->St->Hp->Prop,(∃ m,Ww m W H)/\∀ m W H,Ww m W H ->
 c W H λ b H1=>if b=bY then ∃ N,(∀ W' H',N W' H'->∃ m',m'<m/\Ww m' W' H')/\tb { D with nx:=N,ct:=N,bk:=D.nx } W H1 else D.nx W H1
set_option tactic.hygienic true in
def aM8 (hp:i7 (model X.prog X.w) X.A X.env X.xe)(hc:PT X c tc)(hb:PSs X body tb):PS X (.While c body [] pos) (bh5 tc tb):=by
 intro z s W H D I h;obtain⟨Ww,⟨m0,w0⟩,turn⟩:=h;refine wpAny_While (codeAny_whileLoop (λ n s'=>∃ W' H',Inv X z W' H' s'/\Ww n W' H') ?_ m0 ⟨W,H,I,w0⟩)
 rintro n s1 ⟨W1,H1,I1,w1⟩
 refine c8 hp (thn (hc z s1 W1 H1 _ I1 (turn n W1 H1 w1)) λ b s2 ⟨H2,I2,q2⟩=>?_);cases b with
 | true =>
  obtain⟨N,hN,q2⟩:=q2;rw[ef rfl];refine c8 hp (thn (hb z s2 W1 H2 _ I2 q2) λ f s3 q3=>?_);cases f with
  | next =>
   obtain⟨W3,B,Y,Uu⟩:=q3;obtain⟨m',J,Z⟩:=hN W3 B Uu;exact⟨m',J,W3,B,Y,Z⟩
  | cont =>
   obtain⟨W3,B,Y,Uu⟩:=q3;obtain⟨m',J,Z⟩:=hN W3 B Uu;exact⟨m',J,W3,B,Y,Z⟩
  | brk=>exact q3
  | ret v=>exact q3
 | false =>
  rw[gc br];exact dH ⟨W1,H2,I2,q2⟩
end
structure It where
 go:Nat->Hp->Prop
 yld:Nat->Hp->V->Hp->Prop
 stop:Nat->Hp->Prop
def FpOk (X:Cx)(pins:yA)(H:Hp)(b:Addr):Prop :=
 H b=aT/\b≠X.env.locals/\b ∉ X.fs/\(b∈X.ex\/X.s₀.heap.objs.size<=b)/\(∀ x c,X.env.cells.lookup x=al c->c≠b)/\∀ p∈X.pn++pins,p.1≠b
def Inv.fpOk {W:St}{b:Addr}(I:Inv X h W H s)(hb:s.heap.objs.size<=b)(hn:H' b=aT):FpOk X h H' b:=by
 refine⟨hn,ed (az I.lt hb),I.nofs hb,.inr (aq I.sz hb),λ x c e z=>?_,λ p B z=>?_⟩
 .obtain⟨v,q⟩:=I.cell x c e;exact iS (az q.lt (by rw[z];exact hb)) (bP _)
 .exact iS (az (aN (I.pin p B).1) (by rw[z];exact hb)) (bP _)
structure Turn (P:aF)(w:World)(K:ac)(tg:Expr)(J:It)(fp:List Addr)(it:Addr)(tn:Nat->Heap->Prop):Prop where
 mem:it∈fp
 obj:∀ i h,tn i h->∀ b∈fp,∃ o,h.get? b=al o/\∀ v,o.data≠.cell v
 keep:∀ i h h',tn i h->(∀ b∈fp,∀ o,h.get? b=al o->h'.get? b=al o)->tn i h'
 item:∀(X:Cx),X.prog=P->X.w=w->X.K=K->X.calm=bY->∀(i:Nat) (pins:yA) (s:af) (W:St) (H:Hp) (E:yB),Inv X pins W H s->(∀ b∈fp,FpOk X pins H b)->tn i s.heap->J.go i H ->
  wpAny (model P w) X.A (kQ (.ref it)) (λ r s1=>∃ u,r=al u /\
   wpAny (model P w) X.A (fO tg (.ref it) u) (λ _ s2=>∃ x H',Inv X pins W H' s2/\RelV x u/\J.yld i H x H'/\tn (i+1) s2.heap/\∀ b∈fp,H' b=aT) E s1) E s
 done:∀(X:Cx),X.prog=P->X.w=w->X.K=K->X.calm=bY->∀(i:Nat) (pins:yA) (s:af) (W:St) (H:Hp) (E:yB),Inv X pins W H s->(∀ b∈fp,FpOk X pins H b)->tn i s.heap->J.stop i H ->
  wpAny (model P w) X.A (kQ (.ref it)) (λ r s1=>r=aT/\Inv X pins W H s1) E s
 self:∀(A:aV) (i:Nat) (s:af) (Q:yB) (E:yB),tn i s.heap->Q (.ref it) s->wpAny (model P w) A (mr (.ref it)) Q E s
abbrev TI:=St->Hp->(It->Hp->Prop)->Prop
def PIE (X:Cx)(pins:yA)(W:St)(tg:Expr)(R:It->Hp->Prop)(itv:Value)(s2:af):Prop :=
 ∃(it:Addr) (fp:List Addr) (tn:Nat->Heap->Prop) (J:It) (H':Hp),itv=.ref it/\Inv X pins W H' s2/\Turn X.prog X.w X.K tg J fp it tn/\tn 0 s2.heap/\(∀ b∈fp,FpOk X pins H' b)/\R J H'
def PI (X:Cx)(tg iter:Expr)(wi:TI):Prop :=
 ∀ pins   s  (W:St)  H   R ,Inv X pins W H s->wi W H R ->
  wpAny (model X.prog X.w) X.A (eval iter X.env) (λ v s1=>wpAny (model X.prog X.w) X.A (mr v) (PIE X pins W tg R) X.xe s1) X.xe s
def bc0 (ho : s.heap.get? it = al o) (hc : o.cls = .type n) (hd : o.data = .fields vs)
    (hn : ["enumerate", "zip", "dict_itemiterator", "dict_reverseitemiterator", "odict_iterator", "itertools.zip_longest", "itertools.pairwise"].contains n = ce) (hQ : Q () s) : wpAny M A (fO tg (.ref it) u) Q E s := by
  unfold fO;cases tg <;> first
    | exact aG hQ
    | (cases u <;> first
        | exact aG hQ
        | (refine ai (wpAny_load ho ?_)
           rw[hc, hd];show wpAny M A (if(["enumerate", "zip", "dict_itemiterator", "dict_reverseitemiterator", "odict_iterator", "itertools.zip_longest", "itertools.pairwise"].contains n && vs[0]? == al (du _)) = bY then _ else _) Q E s;rw[gc (by lia)];exact aG hQ))
noncomputable def Itl (K:ac)(a:Addr):It :=
 ⟨λ i H=>∃ xs x,SqL K H a xs/\xs[i]?=al x,λ i H x H'=>H'=H/\∀ xs,SqL K H a xs->xs[i]?=al x,λ i H=>∃ xs,SqL K H a xs/\xs.length<=i⟩
noncomputable def Itt (K:ac)(a:Addr):It :=
 ⟨λ i H=>∃ xs x,SqT K H a xs/\xs[i]?=al x,λ i H x H'=>H'=H/\∀ xs,SqT K H a xs->xs[i]?=al x,λ i H=>∃ xs,SqT K H a xs/\xs.length<=i⟩
noncomputable def Itr (lo:Int)(n:Nat):It:=⟨λ i _=>i<n,λ i H x H'=>H'=H/\x=.int (lo+i),λ i _=>n<=i⟩
def bf8 {K} a it :Turn P w K tg (Itl K a) [it] it (λ i h=>h.IsListIter it a i) where
 mem:=by simp
 obj:=λ i h st b hb=>by
  have e:=by simpa using hb
  subst e;obtain⟨o,e,c,d⟩:=st;exact⟨o,e,λ v z=>by rw[d]at z;cases z⟩
 keep:=λ i h h' st k=>st.at λ o e=>k it (by simp) o e
 item:=by
  intro X hP hw hK hc i B s W H E I Uu st hg;subst hP hw hK;refine wl λ _ ua=>?_;obtain⟨xs,x,hq,hx⟩:=hg;obtain⟨its,rv,p,hz⟩:=I.list hq;obtain⟨u,hu,ru⟩:=rv.get hx;obtain⟨f0,f1,f2,f3,Z,Y⟩:=Uu it (by simp);refine ua ?_;refine wpAny_pyNext_list_item st p.isList (by simpa using hu) λ h' J sb=>?_;have I1:=I.turned (t':=s.toks) (λ b o hb e=>(sb.2 b hb).trans e) f0 f1 f3 Z Y;obtain⟨o,e,c,d⟩:=id J;exact⟨u,rfl,bc0 e c d (by decide) ⟨x,H,I1,ru,⟨rfl,λ ys hy=>by rw[I.list_inj hy hq];exact hx⟩,J,λ b hb=>(Uu b hb).1⟩⟩
 done:=by
  intro X hP hw hK hc i B s W H E I Uu st hg;subst hP hw hK;refine wl λ _ ua=>?_;obtain⟨xs,hq,hx⟩:=hg;obtain⟨its,rv,p,hz⟩:=I.list hq;obtain⟨f0,f1,f2,f3,Z,Y⟩:=Uu it (by simp);have hl:=rv.length;exact ua $ wpAny_pyNext_list_end (I.ok.hd hc) st p.isList (by simp;lia) λ h' eb=>⟨rfl,I.turned (λ b o hb e=>eb b o hb e) f0 f1 f3 Z Y⟩
 self:=λ _ _ _ _ _ st h=>wpAny_pyIter_listiter st h
def aS7 {K} a it :Turn P w K tg (Itt K a) [it] it (λ i h=>h.IsTupleIter it a i) where
 mem:=by simp
 obj:=λ i h st b hb=>by
  have e:=by simpa using hb
  subst e;obtain⟨o,e,c,d⟩:=st;exact⟨o,e,λ v z=>by rw[d]at z;cases z⟩
 keep:=λ i h h' st k=>st.at λ o e=>k it (by simp) o e
 item:=by
  intro X hP hw hK hc i B s W H E I Uu st hg;subst hP hw hK;refine wl λ _ ua=>?_;obtain⟨xs,x,hq,hx⟩:=hg;obtain⟨its,rv,p,hz⟩:=I.tuple hq;obtain⟨u,hu,ru⟩:=rv.get hx;obtain⟨f0,f1,f2,f3,Z,Y⟩:=Uu it (by simp);refine ua ?_;refine wpAny_pyNext_tuple_item st (p) (by simpa using hu) λ h' J sb=>?_;have I1:=I.turned (t':=s.toks) (λ b o hb e=>(sb.2 b hb).trans e) f0 f1 f3 Z Y;obtain⟨o,e,c,d⟩:=id J;exact⟨u,rfl,bc0 e c d (by decide) ⟨x,H,I1,ru,⟨rfl,λ ys hy=>by rw[I.tuple_inj hy hq];exact hx⟩,J,λ b hb=>(Uu b hb).1⟩⟩
 done:=by
  intro X hP hw hK hc i B s W H E I Uu st hg;subst hP hw hK;refine wl λ _ ua=>?_;obtain⟨xs,hq,hx⟩:=hg;obtain⟨its,rv,p,hz⟩:=I.tuple hq;obtain⟨f0,f1,f2,f3,Z,Y⟩:=Uu it (by simp);have hl:=rv.length;exact ua $ wpAny_pyNext_tuple_end (I.ok.hd hc) st (p) (by simp;omega) λ h' eb=>⟨rfl,I.turned (λ b o hb e=>eb b o hb e) f0 f1 f3 Z Y⟩
 self:=λ _ _ _ _ _ st h=>wpAny_pyIter_tupleiter st h
def aT3 {K} it  Uu  n :Turn P w K tg (Itr Uu n) [it] it (λ i h=>iR h it (Uu+(i)*1) ((n) - (i)) 1) where
 mem:=by simp
 obj:=λ i h st b hb=>by
  simp_all
 keep:=λ i h h' st k=>k it (by simp) _ st
 item:=by
  intro X hP hw hK hc i B s W H E I Y st hg;subst hP hw hK;obtain⟨f0,f1,f2,f3,f4,Z⟩:=Y it (by simp);have Ww:=mO (prog:=X.prog) (w:=X.w) (I.ok.hd hc) it Uu 1 n;refine Ww.item i s _ _ hg st λ v h' tk hv J kk=>?_;obtain⟨t,rfl⟩:=hv;have I1:Inv X B W H { s with heap:=h',toks:=tk }:=I.turned (λ b o hb e=>kk b o (by simp_all) e) f0 f1 f3 f4 Z;refine⟨_,rfl,bc0 J rfl rfl (by decide) ⟨.int (Uu+i),H,I1,⟨t,?_⟩,⟨rfl,rfl⟩,J,λ b hb=>(Y b hb).1⟩⟩;lia
 done:=by
  intro X hP hw hK hc i B s W H E I Y st hg;subst hP hw hK;obtain⟨f0,f1,f2,f3,f4,Z⟩:=Y it (by simp);exact hV (I.ok.hd hc) st (by have:n<=i:=hg;lia) λ h' eb=>⟨rfl,I.turned (λ b o hb e=>eb b o hb e) f0 f1 f3 f4 Z⟩
 self:=λ _ _ _ _ _ st h=>hZ st h
section
variable {X:Cx} {tg:Expr}
def bJ4 (K:ac)(tl:TE):TI:=λ W H R=>tl W H λ x H1=>∃ a,x=.ref a/\(∃ xs,SqL K H1 a xs)/\R (Itl K a) H1
def cl1 (K:ac)(tl:TE):TI:=λ W H R=>tl W H λ x H1=>∃ a,x=.ref a/\(∃ xs,SqT K H1 a xs)/\R (Itt K a) H1
def bH3 (Uu:PE X l tl):PI X tg l (bJ4 X.K tl):=by
 intro z s W H R I h;refine thn (Uu z s W H _ I h) λ v s1 ⟨x,Y,B,r1,J⟩=>?_;obtain⟨a,e,⟨xs,hq⟩,q⟩:=J;subst e;cases r1;obtain⟨its,Z,p,hz⟩:=B.list hq;refine eZ p.isList ?_;refine⟨s1.heap.objs.size,[s1.heap.objs.size],_,_,Y,rfl,B.kept λ b o e=>ak _ e,bf8 a _,⟨_,aX _ rfl,rfl,rfl⟩,λ b hb=>?_,q⟩;have e:=by simpa using hb
 subst e;exact B.fpOk (aj _) (B.hok.fresh (aj _))
def bR9 (Uu:PE X l tl):PI X tg l (cl1 X.K tl):=by
 intro z s W H R I h;refine thn (Uu z s W H _ I h) λ v s1 ⟨x,Y,B,r1,J⟩=>?_;obtain⟨a,e,⟨xs,hq⟩,q⟩:=J;subst e;cases r1;obtain⟨its,Z,p,hz⟩:=B.tuple hq;refine j4 (p) ?_;refine⟨s1.heap.objs.size,[s1.heap.objs.size],_,_,Y,rfl,B.kept λ b o e=>ak _ e,aS7 a _,⟨_,aX _ rfl,rfl,rfl⟩,λ b hb=>?_,q⟩;have e:=by simpa using hb
 subst e;exact B.fpOk (aj _) (B.hok.fresh (aj _))
def bt5 {W:St}{E:yB}(I:Inv X B W H s)(Y:-(2^62)<=h)(Z:h<2^62)(h3:-(2^62)<=z)(Uu:z<2^62)
  (q:R (Itr h (z - h).toNat) H):wpAny (model X.prog X.w) X.A (mr (.ref s.heap.objs.size)) (PIE X B W tg R) E { s with heap:=s.heap.push { cls:=.type "range",data:=.fields #[.int h t,.int z u,.int 1 v] },toks:=tk }:=by
 refine j7 (mP ..) (small_one Y Z h3 Uu) ?_;have J:Inv X B W H { s with heap:=s.heap.push { cls:=.type "range",data:=.fields #[.int h t,.int z u,.int 1 v] },toks:=tk }:=I.kept λ b o e=>ak _ e;refine⟨(s.heap.push { cls:=.type "range",data:=.fields #[.int h t,.int z u,.int 1 v] }).objs.size,[(s.heap.push { cls:=.type "range",data:=.fields #[.int h t,.int z u,.int 1 v] }).objs.size],_,_,H,rfl,
  J.kept (t':=tk) λ b o e=>ak _ e,aT3 _ h (z - h).toNat,?_,λ b hb=>?_,q⟩
 .have e1:h+((0:Nat):Int)*1=h:=by simp
  have e2:(((z - h).toNat:Nat):Int) - ((0:Nat):Int)=b8 h z 1:=by rw[rangeSize_one];lia
  show iR _ _ (h+((0:Nat):Int)*1) ((((z - h).toNat:Nat):Int) - ((0:Nat):Int)) 1;rw[e1,e2];exact aX _ rfl
 .have e:b=(s.heap.push { cls:=.type "range",data:=.fields #[.int h t,.int z u,.int 1 v] }).objs.size:=by simp_all
  subst e;exact J.fpOk (aj _) (J.hok.fresh (aj _))
def bX6 (ta:TA):TI:=λ W H R=>ta W H λ vs H1=>∃ j,vs=[.int j]/\-(2^62)<=j/\j<2^62/\R (Itr 0 j.toNat) H1
def bj2 (Y:Gl X "range")(Uu:X.mg "range"=aT)(ha:PA X [a] J)(hs:autoParam (a9 [a] X.env=[(ce,eval a X.env)]) Zq4._auto_1):PI X tg (.Call (.Name "range" p) [a] [] pos) (bX6 J):=by
 intro z s W H R I h;refine Call_ (aF1 I Y Uu boot_range (dX (thn (ha pos z s W H _ I h) λ us s1 ⟨vs,H1,Z,r1,B⟩=>?_) hs rfl));obtain⟨j,e,B,q2,q⟩:=B;subst e;cases r1 with
 | cons r rr =>
  cases rr;obtain⟨t,rfl⟩:=r;exact call_range_1 (bt5 Z (by lia) (by lia) B q2 (by simp_all))
def ck8 (wi:TI)(g:TG)(tb:TS):TS:=λ D W H=>wi W H λ J H1=>∃ Ww:Nat->Nat->St->Hp->Prop,(∃ m,Ww 0 m W H1)/\∀ i m W H,Ww i m W H ->
 (J.stop i H/\D.nx W H)\/(J.go i H/\∃ N,(∀ W' H',N W' H'->∃ m',m'<m/\Ww (i+1) m' W' H')/\∀ x H',J.yld i H x H'->g x W H' λ W2 H2=>tb { D with nx:=N,ct:=N,bk:=D.nx } W2 H2)
noncomputable def aB0 (fp:List Addr)(h:Heap):List (Addr×Obj):=fp.filterMap λ b=>(h.get? b).map λ o=>(b,o)
def jq (hb:b∈z)(e:h.get? b=al o):(b,o)∈aB0 z h:=cK.mpr ⟨b,hb,by rw[e];rfl⟩
def ba7 (B:p∈aB0 z h):p.1∈z/\h.get? p.1=al p.2:=by
 obtain⟨b,hb,e⟩:=cK.mp B;cases q:h.get? b with
 | none=>simp_all
 | some o =>
  rw[q]at e;have e':=av e;subst e';exact⟨hb,q⟩
def Inv.pinned {W:St}(I:Inv X h W H s)(hf:∀ b∈B,FpOk X h H b)(ho:∀ b∈B,∃ o,s.heap.get? b=al o/\∀ v,o.data≠.cell v):Inv X (h++aB0 B s.heap) W H s :=
 I.pins_of λ p J=>(aZ.mp J).elim (λ z=>I.pin p (aQ _ z)) λ z=>by
  refine wl λ _ ua=>?_;obtain⟨hb,e⟩:=ba7 z;obtain⟨Uu,Z,Y,_⟩:=hf p.1 hb;obtain⟨o,e',d⟩:=ho p.1 hb;rw[e]at e';cases e';exact ua ⟨e,Uu,Z,Y,d⟩
def Inv.unpinned {W:St}(I:Inv X (h++pl) W H s):Inv X h W H s:=I.pins_of λ p z=>I.pin p (aQ _ (bj _ z))
def bA9 (hp:i7 (model X.prog X.w) X.A X.env X.xe)(hc:X.calm=bY)(hi:PI X tg iter wi)(hg:PG X tg g)(hb:PSs X body tb)
  (hs:autoParam (∀ x,dY iter X.env x=pure x) Zq3._auto_1):PS X (.For tg iter body [] pos) (ck8 wi g tb):=by
 intro z s W H D I h;refine wpAny_For (thn (hi z s W H _ I h) λ v s1 h1=>thn h1 λ a6 s2 h2=>?_) hs;refine wl λ _ ua=>?_;obtain⟨it,fp,tn,J,H2,e,I2,T,a5,f2,Ww,⟨m0,w0⟩,turn⟩:=h2;subst e;have Y:∀ {H'},(∀ b∈fp,H' b=aT)->∀ b∈fp,FpOk X z H' b:=λ hn b hb=>⟨hn b hb,(f2 b hb).2⟩
 refine ua ?_;refine codeAny_forLoop_any (λ n s'=>∃ i W' H',Inv X z W' H' s'/\tn i s'.heap/\(∀ b∈fp,H' b=aT)/\Ww i n W' H') ?_ m0 ⟨0,W,H2,I2,a5,λ b hb=>(f2 b hb).1,w0⟩
 rintro n s3 ⟨i,W3,H3,I3,a2,a1,w3⟩
 rcases turn i n W3 H3 w3 with⟨stop,qn⟩|⟨go,N,hN,step⟩
 .refine c8 hp (thn (T.done X rfl rfl rfl hc i z s3 W3 H3 X.xe I3 (Y a1) a2 stop) λ r s4 ⟨hr,I4⟩=>?_);subst hr;exact dH ⟨W3,H3,I4,qn⟩
 .refine c8 hp (thn (T.item X rfl rfl rfl hc i z s3 W3 H3 X.xe I3 (Y a1) a2 go) λ r s4 ⟨u,hr,h4⟩=>?_);subst hr;refine c8 hp (thn h4 λ _ s5 ⟨x,H5,I5,r5,y5,a0,a3⟩=>?_);have a4:=I5.pinned (Y a3) (T.obj _ _ a0);refine c8 hp (thn (hg _ s5 W3 H5 x u _ a4 r5 (step x H5 y5)) λ _ s6 ⟨W6,H6,I6,q6⟩=>?_);refine c8 hp (thn (hb _ s6 W6 H6 _ I6 q6) λ f s7 Z=>?_);have again:∀ {W7} {B},Inv X (z++aB0 fp s5.heap) W7 B s7->N W7 B->∃ m,m<n/\∃ i W' H',Inv X z W' H' s7/\tn i s7.heap/\(∀ b∈fp,H' b=aT)/\Ww i m W' H':=λ {W7 B} Uu n7=>by
   obtain⟨m',hm,w7⟩:=hN W7 B n7;refine⟨m',hm,i+1,W7,B,Uu.unpinned,T.keep _ _ _ a0 λ b hb o e=>(Uu.pin (b,o) (aQ _ (aQ _ (jq hb e)))).1,λ b hb=>?_,w7⟩;obtain⟨o,e,d⟩:=T.obj _ _ a0 b hb;exact(Uu.pin (b,o) (aQ _ (aQ _ (jq hb e)))).2.1
  cases f with
  | next=>obtain⟨W7,B,Uu,n7⟩:=Z;exact again Uu n7
  | cont=>obtain⟨W7,B,Uu,n7⟩:=Z;exact again Uu n7
  | brk=>obtain⟨W7,B,Uu,Z⟩:=Z;exact⟨W7,B,Uu.unpinned,Z⟩
  | ret v=>refine wl λ _ ua=>?_;obtain⟨x7,W7,B,Uu,r7,Z⟩:=Z;exact ua ⟨x7,W7,B,Uu.unpinned,r7,Z⟩
end
abbrev R2:=V->V->Hp->VK->Prop
def OpR (X:Cx)(f:Value->Value->Sem Value)(r:R2):Prop :=
 ∀ pins   s  (W:St)  H   x y   v u   Q ,Inv X pins W H s->RelV x v->RelV y u->r x y H Q ->
  wpAny (model X.prog X.w) X.A (f v u) (EP X pins W Q) X.xe s
def ae5 (X:Cx)(f:Value)(r:List V->Hp->VK->Prop):Prop :=
 ∀ pins   s  (W:St)  H   xs  (us:yH)  Q ,Inv X pins W H s->Vals xs us->r xs H Q ->
  wpAny (model X.prog X.w) X.A (call f us) (EP X pins W Q) X.xe s
def tOp (r:R2)(ta tb:TE):TE:=λ W H Q=>ta W H λ x H1=>tb W H1 λ y H2=>r x y H2 Q
def rI (Cc:Int->Int->Prop)(g:Int->Int->V):R2:=λ x y H Q=>∃ i j,x=.int i/\y=.int j/\Cc i j/\Q (g i j) H
def rI0 (g:Int->Int->V):R2:=λ x y H Q=>∃ i j,x=.int i/\y=.int j/\Q (g i j) H
section
variable {X:Cx} {a b c:Expr} {ta tb tc:TE} {pos:Pos}
def co0 (ha:PE X a ta)(hb:PE X b tb){W:St}{R:V->V->Hp->Prop}(I:Inv X z W H s)
  (h:ta W H λ x B=>tb W B λ y H2=>R x y H2) {Q:yB} {f:Value->Value->Sem Value}
  (hf:∀ v u s2 x y H2,Inv X z W H2 s2->RelV x v->RelV y u->R x y H2->wpAny (model X.prog X.w) X.A (f v u) Q X.xe s2) :
  wpAny (model X.prog X.w) X.A (eval a X.env) (λ v J=>wpAny (model X.prog X.w) X.A (eval b X.env) (λ u Z=>wpAny (model X.prog X.w) X.A (f v u) Q X.xe Z) X.xe J) X.xe s:=by
 refine thn (ha z s W H _ I h) λ v s1 ⟨x,B,I1,r1,Uu⟩=>?_;refine thn (hb z s1 W B _ I1 Uu) λ u s2 ⟨y,H2,I2,Y,q2⟩=>?_;exact hf v u s2 x y H2 I2 r1 Y q2
def cm2 (ho:OpR X (eJ op) r)(ha:PE X a ta)(hb:PE X b tb):PE X (.BinOp a op b pos) (tOp r ta tb):=by
 intro z s W H Q I h;exact wpAny_BinOp (co0 ha hb I h λ v u s2 x y H2 I2 J B q=>ho z s2 W H2 x y v u Q I2 J B q)
def opI {g:Int->Int->Int}
  (rule:∀(i j:Int) (t u:Tok) (s:af) (Q:yB) (E:yB),Cc i j->Q (.int (g i j) s.toks) { s with toks:=s.toks+1 }->wpAny (model X.prog X.w) X.A (f (.int i t) (.int j u)) Q E s) :
  OpR X f (rI Cc λ i j=>.int (g i j)):=by
 intro z s W H x y v u Q I B J h;obtain⟨i,j,rfl,rfl,hc,q⟩:=h;obtain⟨t,rfl⟩:=B;obtain⟨t',rfl⟩:=J;exact rule i j t t' s _ _ hc ⟨.int (g i j),H,I.tok _,⟨_,rfl⟩,q⟩
def co1 {g:Int->Int->Int}
  (rule:∀(i j:Int) (t u:Tok) (s:af) (Q:yB) (E:yB),Q (.int (g i j) s.toks) { s with toks:=s.toks+1 }->wpAny (model X.prog X.w) X.A (f (.int i t) (.int j u)) Q E s) :
  OpR X f (rI0 λ i j=>.int (g i j)):=by
 intro z s W H x y v u Q I B J h;obtain⟨i,j,rfl,rfl,q⟩:=h;obtain⟨t,rfl⟩:=B;obtain⟨t',rfl⟩:=J;exact rule i j t t' s _ _ ⟨.int (g i j),H,I.tok _,⟨_,rfl⟩,q⟩
def cg7 {g:Int->Int->Bool}
  (rule:∀(i j:Int) (t u:Tok) (s:af) (Q:yB) (E:yB),Q (.bool (g i j)) s->wpAny (model X.prog X.w) X.A (f (.int i t) (.int j u)) Q E s) :
  OpR X f (rI0 λ i j=>.T (g i j)):=by
 intro z s W H x y v u Q I B J h;obtain⟨i,j,rfl,rfl,q⟩:=h;obtain⟨t,rfl⟩:=B;obtain⟨t',rfl⟩:=J;exact rule i j t t' s _ _ ⟨.T (g i j),H,I,rfl,q⟩
def cu4 (i j:Int):Prop:=0<=j/\j<=1000000/\i.natAbs<2^64
def ch1 (i j:Int):Prop:=(-(2^64)<i/\i<2^64)\/(-(2^64)<j/\j<2^64)
def ch1.ok (h:ch1 i j):IntMulOk i j:=by
 rcases h with⟨z,B⟩|⟨z,B⟩
 .exact .of_left (intBits_le_64 z B)
 .exact .of_right (intBits_le_64 z B)
def bX4:OpR X (eJ .Add) (rI0 λ i j=>.int (i+j)):=co1 λ _ _ _ _ _ _ _ q=>add_int q
def bX1:OpR X (eJ .Sub) (rI0 λ i j=>.int (i - j)):=co1 λ _ _ _ _ _ _ _ q=>sub_int q
def bY2:OpR X (eJ .Mod) (rI (λ _ j=>0<j) λ i j=>.int (i % j)):=opI λ i j _ _ _ _ _ hc q=>by
 have h:=hc;exact mod_int' (by lia) (by rw[Int.fmod_eq_emod_of_nonneg i (by lia)];exact q)
def cb0:OpR X (eJ .Pow) (rI cu4 λ i j=>.int (i^j.toNat)):=opI λ _ _ _ _ _ _ _ hc q=>pow_int_small hc.1 hc.2.1 hc.2.2 q
def cl9:OpR X (eJ .BitOr) (rI0 λ i j=>.int (gO i j)):=co1 λ _ _ _ _ _ _ _ q=>or_int q
end
section
variable {X:Cx} {a b c:Expr} {ta tb tc:TE} {pos:Pos}
def cm9:OpR X (dP .Lt) (rI0 λ i j=>.T (decide (i<j))):=cg7 λ _ _ _ _ _ _ _ q=>lt_int q
def ci5:OpR X (dP .LtE) (rI0 λ i j=>.T (decide (i<=j))):=cg7 λ _ _ _ _ _ _ _ q=>le_int q
def cj8:OpR X (dP .Gt) (rI0 λ i j=>.T (decide (j<i))):=cg7 λ _ _ _ _ _ _ _ q=>gt_int q
def ci9:OpR X (dP .GtE) (rI0 λ i j=>.T (decide (j<=i))):=cg7 λ _ _ _ _ _ _ _ q=>ge_int q
def bJ2 (ho:OpR X (dP op) r)(ha:PE X a ta)(hb:PE X b tb)(Uu:dQ op b=ce):PE X (.Compare a [op] [b] pos) (tOp r ta tb):=by
 intro z s W H Q I h;exact wpAny_Compare1 (co0 ha hb I h λ v u s2 x y H2 I2 J B q=>ho z s2 W H2 x y v u Q I2 J B q) Uu
def cg2 (t:TE):TT:=λ W H Q=>t W H λ x H'=>∃ k,x=.T k/\Q k H'
def bD9 (ho:OpR X (dP op) r)(ha:PE X a ta)(hb:PE X b tb)(J:dQ op b=ce):PT X (.Compare a [op] [b] pos) (cg2 (tOp r ta tb)):=by
 intro B s W H Q I h;refine iB (thn (ha B s W H _ I h) λ v s1 ⟨x,H1,I1,r1,Uu⟩=>thn (hb B s1 W H1 _ I1 Uu) λ u s2 ⟨y,H2,I2,Y,q2⟩ =>
  thn (ho B s2 W H2 x y v u _ I2 r1 Y q2) λ c s3 ⟨z,Z,I3,r3,k,e,q3⟩=>?_) J
 subst e;cases r3;exact cM ⟨Z,I3,q3⟩
def au7:(a7)<2^63:=by rw[fK];decide
def aS1:OpR X (eJ .Add) (λ x y H Q=>∃ i j,x=.str i/\y=.str j/\i.length+j.length<=a7/\Q (.str (i++j)) H):=by
 intro z s W H x y v u Q I J B h;obtain⟨i,j,rfl,rfl,hz,q⟩:=h;obtain⟨t,rfl⟩:=J;obtain⟨t',rfl⟩:=B;exact add_str (λ t' tk=>⟨.str (i++j),H,I.tok _,⟨_,rfl⟩,q⟩) hz
def ai1 {us:yH}(r:Vals [x] us):∃ u,us=[u]/\RelV x u:=by
 cases r with
 | cons r1 r2=>cases r2;exact⟨_,rfl,r1⟩
def cf7 {us:yH}(r:Vals [x,y] us):∃ u h,us=[u,h]/\RelV x u/\RelV y h:=by
 cases r with
 | cons r1 r2 =>
  cases r2 with
  | cons r3 r4=>cases r4;exact⟨_,_,rfl,r1,r3⟩
def bq7:ae5 X (.builtin "abs") (λ B H Q=>∃ i,B=[.int i]/\Q (.int (if i<0 then -i else i)) H):=by
 intro z s W H B us Q I r h;obtain⟨i,rfl,q⟩:=h;obtain⟨u,rfl,t,rfl⟩:=ai1 r;exact call_abs_int λ u tk=>⟨.int (if i<0 then -i else i),H,I.tok _,⟨_,rfl⟩,q⟩
def aW8 (hc:X.calm=bY):ae5 X (.builtin "max") (λ B H Q=>∃ i j,B=[.int i,.int j]/\Q (.int (if j > i then j else i)) H):=by
 intro z s W H B us Q I r h;obtain⟨i,j,rfl,q⟩:=h;obtain⟨u,J,rfl,⟨t,rfl⟩,⟨t',rfl⟩⟩:=cf7 r;refine max_two_ints (I.ok.hd hc) λ h' tk k=>⟨_,H,I.kept k,?_,q⟩
 by_cases hj:j > i
 .rw[ef hj,ef hj];exact⟨_,rfl⟩
 .rw[gc hj,gc hj];exact⟨_,rfl⟩
def bj4 (hc:X.calm=bY):ae5 X (.builtin "min") (λ B H Q=>∃ i j,B=[.int i,.int j]/\Q (.int (if j<i then j else i)) H):=by
 intro z s W H B us Q I r h;obtain⟨i,j,rfl,q⟩:=h;obtain⟨u,J,rfl,⟨t,rfl⟩,⟨t',rfl⟩⟩:=cf7 r;refine min_two_ints (I.ok.hd hc) λ h' tk k=>⟨_,H,I.kept k,?_,q⟩
 by_cases hj:j<i
 .rw[ef hj,ef hj];exact⟨_,rfl⟩
 .rw[gc hj,gc hj];exact⟨_,rfl⟩
def aW6:ae5 X (.type "int") (λ z H Q=>(∃ i,z=[.int i]/\Q (.int i) H)\/∃ k,z=[.T k]/\Q (.int (if k then 1 else 0)) H):=by
 intro B s W H z us Q I r h;rcases h with⟨i,rfl,q⟩|⟨k,rfl,q⟩
 .obtain⟨u,rfl,t,rfl⟩:=ai1 r;exact call_int_int ⟨.int i,H,I,⟨_,rfl⟩,q⟩
 .obtain⟨u,rfl,r1⟩:=ai1 r;cases r1;exact call_int_bool ⟨.int (if k then 1 else 0),H,I.tok _,⟨_,rfl⟩,q⟩
end
structure ObjM (h:Heap)(x dx Cc:Addr)(mA:yD):Prop where
 obj:h.get? x=al (cN Cc dx)
 ns:h.Ns1 dx mA
 ne:dx≠x
set_option tactic.hygienic true in
def bh3 {h:Heap}{Uu:yD}(n:h.Ns1 J Uu):∃ od,h.get? J=al od/\∀ name,gf name od=al (Uu name):=by
 obtain⟨o,es,ep,ho,hd,hk,_,Z⟩:=n;refine⟨o,ho,λ name=>?_⟩;have e:=Z name;unfold nsFind findBy at e;rw[<-Array.find?_toList]at e;unfold gf;rw[hd];dsimp only;split
 .simp_all
 .rename_i q;rw[q]at e;have a:es.toList.any (·.refKey)=false:=by
   rw[List.any_eq_false];intro y hy;obtain⟨z,t,B⟩:=hk y (Array.mem_toList_iff.mp hy);simp[DictEntry.refKey,B]
  simp_all
def ObjM.look (I:ObjM h x z Cc B):∃ od,PySem.W.InstAt h x (cN Cc z) Cc (al od)/\∀ name,gf name od=al (B name) :=
 let⟨od,ho,hl⟩:=bh3 I.ns
 ⟨od,⟨I.obj,rfl,rfl,ho⟩,hl⟩
section
variable {prog:aF} {w:World} {A:aV} {E:yB} {s:af} {K:ac} {x dx Cc f:Addr} {mA:yD} {name:Str} {v:Value}
def bP8 {Q:yB}(X:K.In s.heap)(I:ObjM s.heap x dx Cc mA)(Uu:eA K Cc name=bY)(hh:fe K Cc=bY)
  (ha:bU K (.ref Cc) name=al aT) (hv:mA name=al v) (B:kR v=bY) (h:Q v { s with toks:=s.toks+1 }) :
  wpAny (model prog w) A (getAttr (.ref x) name z) Q E s:=by
 obtain⟨od,J,Y⟩:=I.look;exact PySem.W.get_value X J (fW Uu).1 (PySem.W.findObj_own hh ha rfl (by rw[Y,hv])) B h
def bo4 (X:K.In s.heap)(I:ObjM s.heap x dx Cc mA)(z:eA K Cc name=bY)
  (B:bU K (.ref Cc) name=al (al (.ref f))) (ht:ia K (.ref f)=bY) (hv:mA name=aT) (h:Q (.ref f,[.ref x]) s) :
  wpAny (model prog w) A (i8 (.ref x) name pl) Q E s:=by
 obtain⟨od,J,Uu⟩:=I.look;exact PySem.W.method_fn X J (fW z).1 (fW z).2 B (beq_iff_eq.mp ht) (by show(gf name od).map (·.isSome)=al ce;simp_all) h
def bJ6 {ns:yI}(X:K.In s.heap)(I:ObjM s.heap x dx Cc mA)
  (hs:bU K (.ref Cc) "__setattr__"=al (al (.builtin "object.__setattr__"))) (hp:gA K Cc=bY) (ht:io K Cc name=al aT) (hh:fe K Cc=bY)
  (hw:ko mA ns) (hsz:ns.length<=a7)
  (h:∀ h',ObjM h' x dx Cc (λ y=>if y=name then al v else mA y)->d9 dx s.heap h'->Q () { s with heap:=h',toks:=s.toks+2 }) :
  wpAny (model prog w) A (setAttr (.ref x) name v) Q E s:=by
 obtain⟨od,J,hl⟩:=I.look;refine PySem.W.set_plain X J hs (PySem.W.osa_open X J hp ht λ b=>?_);obtain⟨cd,hc,Uu⟩:=PySem.W.any_some hh;have hx:=I.obj;refine ai (aG (ai (ai (wpAny_loadPart hx (ai (mV (PySem.W.looks_clsIn X hc) ?_))))));rw[Uu];refine aG (ai (aG (ai ?_)));refine wpAny_nsSet1 I.ns λ h' z B=>?_;obtain⟨oD,a1,a2,Z,Y,a0⟩:=z.count (PySem.Within.cons name v hw);refine ai (wpAny_lookBehind Z (by rw[Y];exact pastItsLine_dict (aq a0 (by simp_all))) ?_);exact aG (h _ ⟨(B.2 _ (bH I.ne)).trans I.obj,z,I.ne⟩ B)
def bp7 {vs:yH}(X:K.In s.heap)(Uu:dI K Cc=bY)
  (B:bU K (.ref Cc) "__init__"=al (al (.ref f))) (J:PySem.W.typeIn K (.ref f)=al (.type "function"))
  (h:fF (model prog w) (A.under (.builtin "type.__call__" ⟨.ref Cc::vs,z⟩)) (.call (.ref f) ⟨.ref (s.heap.objs.size+1)::vs,z⟩) (PySem.W.InitBack (s.heap.objs.size+1) R)
   { s with heap:=(s.heap.push cB).push (cN Cc s.heap.objs.size) }) :
  fF (model prog w) A (.call (.ref Cc) ⟨vs,z⟩) R s:=by
 obtain⟨hh,g,d,t,os⟩:=s;exact PySem.W.make_core (PySem.W.makes_of X Uu) (PySem.W.looks_findIn X B) (λ self=>PySem.W.bind_fn X self J) (.inl rfl) h
end
noncomputable def ar1 (f:Str)(v:V):List (Str×V)->List (Str×V)
 | []=>[(f,v)]
 | (g,x)::r=>if g=f then(g,v)::r else(g,x)::ar1 f v r
theorem ao3  f g  v :∀ fs:List (Str×V),(ar1 f v fs).lookup g=if g=f then al v else fs.lookup g
 | []=>by
  show dB g [(f,v)]=_
  grind
 | (k,x)::r=>by
  have z:=ao3 f g v r;rw[show ar1 f v ((k,x)::r)=(if k=f then(k,v)::r else(k,x)::ar1 f v r)from rfl]
  grind
theorem ar2  f  v :∀ fs:List (Str×V),f∈(ar1 f v fs).map (·.1)/\∀ g,g∈fs.map (·.1)->g∈(ar1 f v fs).map (·.1)
 | []=>⟨by simp[ar1],λ g h=>by grind⟩
 | (k,x)::r=>by
  obtain⟨B,z⟩:=ar2 f v r;rw[show ar1 f v ((k,x)::r)=(if k=f then(k,v)::r else(k,x)::ar1 f v r)from rfl]
  grind
theorem ap2  f  v :∀ fs:List (Str×V),(ar1 f v fs).length<=fs.length+1
 | []=>by simp[ar1]
 | (k,x)::r=>by
  have h:=ap2 f v r;rw[show ar1 f v ((k,x)::r)=(if k=f then(k,v)::r else(k,x)::ar1 f v r)from rfl]
  grind
def az9.some_of (r:az9 (al v) o):∃ u,o=al u/\RelV v u:=by
 cases o with
 | none=>exact(r).elim
 | some u=>exact⟨u,rfl,r⟩
def az9.none_of (r:az9 aT o):o=none:=by
 cases o with
 | none=>rfl
 | some u=>exact(r).elim
def bg4 (r:RelV v u):kR u=true:=by
 cases v with
 | N=>cases(r);rfl
 | T b=>cases(r);rfl
 | int i=>obtain⟨t,e⟩:=(r);cases e;rfl
 | str x=>obtain⟨t,e⟩:=(r);cases e;rfl
 | byt b=>obtain⟨t,e⟩:=(r);cases e;rfl
 | flt b=>obtain⟨t,e⟩:=(r);cases e;rfl
 | ref a=>cases(r);rfl
 | ty n=>cases(r);rfl
section
variable {P:aF} {w:World} {H H':Hp} {h h':Heap} {a Cc dx:Addr} {fs fs':List (Str×V)}
def aI4 (hok:HOk P w H h)(e:H a=al (.ins Cc dx fs)):∃ B,ObjM h a dx Cc B/\(∀ f,az9 (fs.lookup f) (B f))/\ko B (fs.map (·.1))/\fs.length<=1000/\H dx=al (.own a):=by
 obtain⟨d,z,ne,ob,B,n,r,q⟩:=(hok a _ e)
 exact⟨B,⟨ob,n,ne⟩,r,q,z,d⟩
end
structure Cls (K:ac)(Cc:Addr):Prop where
 pg:eA K Cc Str.empty=bY
 hd:fe K Cc=bY
 po:gA K Cc=bY
 sa:bU K (.ref Cc) "__setattr__"=al (al (.builtin "object.__setattr__"))
def Cls.get {K}(c:Cls K Cc) f :eA K Cc f=true:=c.pg
def NoAttr (K:ac)(Cc:Addr)(f:Str):Prop:=bU K (.ref Cc) f=al aT
def NoAttr.taker {K}(n:NoAttr K Cc f):io K Cc f=al none:=by
 unfold io;rw[n];rfl
structure Meth (K:ac)(Cc:Addr)(m:Str)(f:Addr):Prop where
 at_:bU K (.ref Cc) m=al (al (.ref f))
 fn:ia K (.ref f)=bY
 kp:bJ K (.ref f)=bY
section
variable {X:Cx} {pins:yA} {W:St} {H:Hp} {s:af} {a Cc dx:Addr} {fs:List (Str×V)} {f:Str} {v:V} {A:aV} {E:yB}
def aT5 {Q:yB}(I:Inv X pins W H s)(e:H a=al (.ins Cc dx fs))(c:Cls X.K Cc)(n:NoAttr X.K Cc f)(l:fs.lookup f=al v)
  (h:∀ u s',Inv X pins W H s'->RelV v u->Q u s'):wpAny (model X.prog X.w) A (getAttr (.ref a) f b) Q E s:=by
 obtain⟨B,O,r,_,_,_⟩:=aI4 I.hok e;obtain⟨u,hu,z⟩:=az9.some_of (v:=v) (o:=B f) (by rw[<-l];exact r f);exact bP8 I.kIn O (c.get f) c.hd n hu (bg4 z) (h u _ (I.tok _) z)
def au0 (I:Inv X pins W H s)(e:H a=al (.ins Cc dx fs))(c:Cls X.K Cc)(k:Meth X.K Cc m g)(l:fs.lookup m=aT)
  (h:Q (.ref g,[.ref a]) s):wpAny (model X.prog X.w) A (i8 (.ref a) m pl) Q E s:=by
 obtain⟨z,O,r,_,_,_⟩:=aI4 I.hok e;have hn:z m=none:=az9.none_of (by rw[<-l];exact r m);exact bo4 I.kIn O (c.get m) k.at_ k.fn hn h
def aT2 (I:Inv X pins W H s)(e:H a=al (.ins Cc dx fs))(c:Cls X.K Cc)(n:NoAttr X.K Cc f)(hl:fs.length<1000)(ry:RelV y u)
  (h:∀ s',Inv X pins W (upd H a (.ins Cc dx (ar1 f y fs))) s'->Q () s'):wpAny (model X.prog X.w) A (setAttr (.ref a) f u) Q E s:=by
 obtain⟨Uu,O,r,J,_,ho⟩:=aI4 I.hok e;have hz:(fs.map (·.1)).length<=a7:=by rw[aw,fK];lia
 refine bJ6 I.kIn O c.sa c.po n.taker c.hd J hz λ h' B Y=>h _ ?_;have hd:∃ o,h'.get? dx=al o:=let⟨o,_,_,e',_⟩:=B.ns;⟨o,e'⟩
 refine I.write (e:=dx) (by rw[e];exact True.intro) (.inr ho) (λ b q hb z=>(Y.2 b hb).trans z) hd ?_;refine⟨by rw[zb O.ne];exact ho,?_,O.ne,B.obj,_,B.ns,λ g=>?_,λ g Z=>?_⟩
 .have:=ap2 f y fs;lia
 .show az9 ((ar1 f y fs).lookup g) (if g=f then al u else Uu g);rw[ao3];by_cases q:g=f
  .rw[ef q,ef q];exact ry
  simp_all
 .by_cases q:g=f
  .rw[q];exact(ar2 f y fs).1
  .refine(ar2 f y fs).2 g (J g λ z=>Z ?_);lia
def Inv.made (I:Inv X pins W H s):Inv X pins W (upd (upd H s.heap.objs.size (.own (s.heap.objs.size+1))) (s.heap.objs.size+1) (.ins Cc s.heap.objs.size []))
  { s with heap:=(s.heap.push cB).push (cN Cc s.heap.objs.size) }:=by
 have e1:(s.heap.push cB).get? s.heap.objs.size=al cB:=aX s.heap rfl;have e2:=by
  have:=aX (s.heap.push cB) (o:=cN Cc s.heap.objs.size) rfl
  rwa [cj]at this
 have B:(s.heap.push cB).Ns s.heap.objs.size (λ _=>aT):=⟨cB,#[],_,e1,rfl,(λ e z=>iS z (by simp)),λ _=>rfl⟩
 have h:=I.laid (o:=.own (s.heap.objs.size+1)) (t':=s.toks) (λ b u q=>ak _ q) (aj _) ⟨_,e1⟩;refine h.laid (λ b u q=>ak _ q) (mw (cj _ _)) ?_;have ne:s.heap.objs.size≠s.heap.objs.size+1:=aH (dv _);refine⟨by rw[zb ne,zg],cq _,ne,e2,λ _=>aT,(Heap.Ns1.of_empty B).at λ o q=>ak _ q,λ _=>True.intro,λ y hy=>iS rfl hy⟩
def bH2 {Q:yB}(hb:eK e f env (eval e env)=eval e env)
  (h:wpAny (model prog w) A (eval e env) (λ o z=>wpAny (model prog w) A (getAttr o f bY) Q E z) E s):wpAny (model prog w) A (eval (.Attribute e f pos) env) Q E s :=
 Attribute_any_ h (by rw[arm_eval_Attribute,hb])
end
def ct9 (K:ac)(ta:TE)(f:Str):TE:=λ W H Q=>ta W H λ x H1=>∃ a Cc dx fs v,x=.ref a/\H1 a=al (.ins Cc dx fs)/\Cls K Cc/\NoAttr K Cc f/\fs.lookup f=al v/\Q v H1
def ct7 (K:ac)(ta tv:TE)(f:Str):TS:=λ D W H=>tv W H λ y H1=>ta W H1 λ x H2=>∃ a Cc dx fs,x=.ref a/\H2 a=al (.ins Cc dx fs)/\Cls K Cc/\NoAttr K Cc f/\fs.length<1000 /\
 D.nx W (upd H2 a (.ins Cc dx (ar1 f y fs)))
section
variable {X:Cx} {o e value:Expr} {f:Str} {pos pos' tpos:Pos} {ta tv:TE}
def ce2 (Uu:PE X e ta)(hb:eK e f X.env (eval e X.env)=eval e X.env):PE X (.Attribute e f pos) (ct9 X.K ta f):=by
 intro z s W H Q I h;refine bH2 hb (thn (Uu z s W H _ I h) λ u s1 ⟨x,Z,I1,Y,a,Cc,dx,fs,v,ex,B,c,n,l,q⟩=>?_);subst ex;obtain rfl:u=Value.ref a:=Y;exact aT5 I1 B c n l λ u' s2 I2 J=>⟨v,Z,I2,J,q⟩
def bU6 (ha:PE X o ta)(hv:PE X value tv)(hs:fA value (al (.Attribute o f pos')) pos.line X.env=pure ce):PS X (.Assign [.Attribute o f pos'] value pos) (ct7 X.K ta tv f):=by
 intro z s W H D I h;refine plainObj_wpAny_Assign_Attribute (thn (hv z s W H _ I h) λ u s1 ⟨y,Y,Z,ry,q⟩=>thn (ha z s1 W Y _ Z q) λ ov s2 ⟨x,H2,I2,Uu,a,Cc,dx,fs,ex,B,c,n,l,q2⟩=>?_) hs;subst ex;obtain rfl:ov=Value.ref a:=Uu;exact aT2 I2 B c n l ry λ s3 J=>⟨W,_,J,q2⟩
end
section
variable {X:Cx} {pins:yA} {W:St} {H:Hp} {s:af} {A:aV} {E:yB} {Q:yB} {c:Value} {b:Bool}
end
structure Room (k:Nat)(A:aV):Prop where
 hd:A.handled=aT
 dp:A.depth+3*k+5<recursionLimit
 un:A.units+16*k+200<cLine
def Room.mono (r:Room k A)(h:j<=k):Room j A:=⟨r.hd,by have:=r.dp;lia,by have:=r.un;lia⟩
theorem Room.deeper (r:Room (k+1) A) env :Room k (A.deeper env) :=
 ⟨r.hd,by have:=r.dp;show A.depth+1+3*k+5<_;lia,by have:=r.un;show A.units+3+16*k+200<_;lia⟩
theorem Room.in1 (r:Room (k+1) A):Room k A.in1 :=
 ⟨r.hd,by have:=r.dp;lia,by have:=r.un;lia⟩
def aT6 {A:aV}{us:yH}:(A.under (.builtin "type.__call__" ⟨.ref Cc::us,h⟩)).depth=A.depth+1:=by
 first|rfl|simp[guardIds]
def aU6 {A:aV}{us:yH}:(A.under (.builtin "type.__call__" ⟨.ref Cc::us,h⟩)).units=A.units+1:=by
 first|rfl|simp[kz]
def Room.make (r:Room (k+1) A) Cc (us:yH) h :Room k (A.under (.builtin "type.__call__" ⟨.ref Cc::us,h⟩)) :=
 ⟨r.hd,by have:=r.dp;rw[aT6];lia,by have:=r.un;rw[aU6];lia⟩
theorem Room.depth (r:Room k A):A.depth<recursionLimit:=by have:=r.dp;lia
theorem Room.units (r:Room k A):A.units+64<cLine:=by have:=r.un;lia
def Room.units0 (r:Room k A):A.units<cLine:=by have:=r.un;lia
def aO3:TA:=λ _ H Q=>Q [] H
def ao7 (ta:TE)(tr:TA):TA:=λ W H Q=>ta W H λ x H1=>tr W H1 λ xs H2=>Q (x::xs) H2
section
variable {X:Cx} {e:Expr} {es:yL} {te:TE} {t:TA} {pos:Pos}
def af5:PA X [] aO3:=λ _ _ _ _ H Q I h=>Calls.spliced_nil ⟨[],H,I,.nil,h⟩
def zR (ha:PE X e te)(hr:PA X es t)(hs:autoParam (a9 (e::es) X.env=(ce,eval e X.env)::a9 es X.env) Zq4._auto_1):PA X (e::es) (ao7 te t):=by
 intro pos z s W H Q I h;rw[hs]
 skip
 refine Calls.spliced_cons (thn (ha z s W H _ I h) λ u s1 ⟨x,J,Uu,r1,Y⟩=>?_);exact thn (hr pos z s1 W J _ Uu Y) λ us s2 ⟨Z,H2,I2,B,q2⟩=>⟨x::Z,H2,I2,.cons r1 B,q2⟩
def cq8 (t:TA):TE:=λ W H Q=>t W H λ xs H1=>xs.length<=a7/\∀ p,H1 p=aT->Q (.ref p) (upd H1 p (.tp xs))
def cu0 (t:TA):TE:=λ W H Q=>t W H λ xs H1=>xs.length<=a7/\∀ p,H1 p=aT->Q (.ref p) (upd H1 p (.J xs))
def ce4 (h:PA X es t):PE X (.Tuple es x1 pos) (cq8 t):=by
 intro B s W H Q I hq;refine wpAny_Tuple_spliced (thn (h pos B s W H _ I hq) λ us s1 ⟨Z,J,Uu,r,z,q⟩=>⟨by rw[<-r.length];exact z,?_⟩);have Y:=Uu.hok.fresh (aj _);refine⟨.ref s1.heap.objs.size,upd J s1.heap.objs.size (.tp Z),Uu.laid (λ b u e=>ak _ e) (aj _) ?_,rfl,q _ Y⟩;exact⟨z,us,r,⟨_,aX _ rfl,rfl,_,rfl⟩⟩
def be6 (h:PA X es t):PE X (.List es pos) (cu0 t):=by
 intro B s W H Q I hq;refine wpAny_List_spliced (thn (h pos B s W H _ I hq) λ us s1 ⟨Z,J,Uu,r,z,q⟩=>⟨by rw[<-r.length];exact z,?_⟩);have Y:=Uu.hok.fresh (aj _);refine⟨.ref s1.heap.objs.size,upd J s1.heap.objs.size (.J Z),Uu.laid (λ b u e=>ak _ e) (aj _) ?_,rfl,q _ Y⟩;exact⟨z,us,0,r,aX _ rfl⟩
end
abbrev Sp:=List V->Hp->VK->XK->Prop
abbrev CXT:=List Env->Hp->af->XK->Value->af->Prop
structure Env0 (P:aF)(w:World)(K:ac)(mg:yD)(base:Heap)(A:aV)(outer:List Env)(s:af)(H:Hp):Prop where
 frames:A.frames=al outer
 mod:Mod K mg base
 bs:∀ b o,base.get? b=al o->s.heap.get? b=al o/\H b=aT
 bsz:base.objs.size<=s.heap.objs.size
 funs:s.heap.FunFrames base outer
 frf:∀ b∈frs outer,H b=aT
 hok:HOk P w H s.heap
 bare:fY s.gens
def CE (outer:List Env)(P:aF)(w:World)(H:Hp)(s:af)(Q:VK)(u:Value)(s':af):Prop :=
 ∃ v H',s'.os=s.os/\fY s'.gens/\Un (frs outer) [] H H' s.heap s'.heap/\HOk P w H' s'.heap/\RelV v u/\Q v H'
def CR (CX:CXT)(outer:List Env)(P:aF)(w:World)(H:Hp)(s:af)(Q:VK)(E:XK)(r:kS)(s':af):Prop :=
 match r with
 | .ok (.ret u)=>CE outer P w H s Q u s'
 | .ok _=>False
 | .error e=>CX outer H s E e s'
structure FnOk (P:aF)(w:World)(K:ac)(mg:yD)(base:Heap)(CX:CXT)(k:Nat)(f:Addr)(fd:bK)(ps:yI)(sp:Sp):Prop where
 len:∀ vs H Q E,sp vs H Q E->vs.length=ps.length
 run:∀(A:aV) (outer:List Env) (s:af) (H:Hp) (args:Args) (us:yH) (vs:List V) (Q:VK) (E:XK),Room k A->Env0 P w K mg base A outer s H->lz s fd args (ps.zip us)->Vals vs us->sp vs H Q E ->
  fF (model P w) A (.call (.ref f) args) (CR CX outer P w H s Q E) s
def FnOk.imp {K}(F:FnOk P w K mg base Uu k f J ps sp)
  (h:∀ vs H Q E,B vs H Q E->sp vs H Q E):FnOk P w K mg base Uu k f J ps B :=
 ⟨λ vs H Q E q=>F.len vs H Q E (h _ _ _ _ q),λ A z s H args us vs Q E hr Y hb hv hs=>F.run A z s H args us vs Q E hr Y hb hv (h _ _ _ _ hs)⟩
def Env0.make {K:ac}(e:Env0 P w K mg base A h s H) Cc (us:yH) z  :
  Env0 P w K mg base (A.under (.builtin "type.__call__" ⟨.ref Cc::us,z⟩)) h s H:=⟨by first|exact e.frames|(simpa [kx,Code.envs,kz,pushEnvs]using e.frames),e.mod,e.bs,e.bsz,e.funs,e.frf,e.hok,e.bare⟩
section
variable {X:Cx} {pins:yA} {W:St} {H:Hp} {s s':af}
def Inv.env0 (I:Inv X pins W H s):Env0 X.prog X.w X.K X.mg X.base X.A X.stack s H :=
 ⟨I.ok.frames,I.ok.mod,I.bs,aq I.ok.bsz I.sz,I.stack,I.stkFree,I.hok,I.bare⟩
def Inv.after (I:Inv X pins W H s)(h:CE X.stack X.prog X.w H s Q u s'):EP X pins W Q u s':=by
 obtain⟨v,H',os,bare,un,hok,r,q⟩:=h;obtain⟨hh,g,d,t,B⟩:=s';obtain rfl:B=s.os:=os;exact⟨v,H',I.call un hok bare (λ b z=>iS z (by simp)),r,q⟩
end
def aQ7 (sp:Sp)(dvs:List V)(E:XK)(t:TA):TE:=λ W H Q=>t W H λ vs H1=>sp (vs++dvs) H1 Q E
def bm5 (Cc:Addr)(m:Str)(sp:Sp)(dvs:List V)(E:XK)(ta:TE)(t:TA):TE:=λ W H Q=>ta W H λ x H1=>∃ a dx fs,x=.ref a/\H1 a=al (.ins Cc dx fs)/\fs.lookup m=aT /\
 t W H1 λ vs H2=>sp (x::(vs++dvs)) H2 Q E
def aV8 (Cc:Addr)(sp:Sp)(dvs:List V)(E:XK)(t:TA):TE:=λ W H Q=>t W H λ vs H1=>∀ x dx,H1 x=aT->H1 dx=aT->dx≠x ->
 sp (.ref x::(vs++dvs)) (upd (upd H1 dx (.own x)) x (.ins Cc dx [])) (λ v H2=>v=.N/\Q (.ref x) H2) E
def Binds (K:ac)(fd:bK)(ps:yI)(ds:yH):Prop :=
 ∀ s   us ,K.In s.heap->(us++ds).length=ps.length->lz s fd ⟨us,[]⟩ (ps.zip (us++ds))
def Binds.all {K}(h:∀ us:List Value,us.length=ps.length->eM z ⟨us,[]⟩=pure (ps.zip us)):Binds K z ps []:=λ s us _ B=>by
 rw[aY]at B ⊢;exact .of_eq (h us B)
def qo (CX:CXT)(X:Cx)(E:XK):Prop:=∀ pins  (W:St)  H   s   e   s' ,Inv X pins W H s->CX X.stack H s E e s'->X.xe e s'
section
variable {X:Cx} {CX:CXT} {k:Nat} {f Cc:Addr} {fd:bK} {ps:yI} {sp:Sp} {dvs:List V} {ds:yH} {E:XK} {x m:Str} {p pos apos:Pos} {e o:Expr} {es:yL} {ta:TE} {t:TA}
def aO5 {W:St}{us:yH}(F:FnOk X.prog X.w X.K X.mg X.base CX k f fd ps sp)(hr:Room k X.A)(hb:Binds X.K fd ps ds)(hd:Vals dvs ds)(hx:qo CX X E)
  (I:Inv X z W H s) (r:Vals vs us) (h:sp (vs++dvs) H Q E):wpAny (model X.prog X.w) X.A (call (.ref f) us) (EP X z W Q) X.xe s:=by
 have B:Vals (vs++dvs) (us++ds):=r.append hd;have J:(us++ds).length=ps.length:=by rw[<-B.length];exact F.len _ _ _ _ h
 refine j8 (fg (F.run X.A X.stack s H ⟨us,[]⟩ (us++ds) (vs++dvs) Q E hr I.env0 (hb s us I.kIn J) B h) λ r s' hq=>?_);cases r with
 | error e=>exact hx z W H s e s' I hq
 | ok fl =>
  cases fl with
  | ret u=>exact I.after hq
  | next=>exact bn hq
  | brk=>exact bn hq
  | cont=>exact bn hq
def ba9 (F:FnOk X.prog X.w X.K X.mg X.base CX k f fd ps sp)(hr:Room k X.A)(Z:Gl X x)(hm:X.mg x=al (.ref f))(hk:bJ X.K (.ref f)=bY)(hb:Binds X.K fd ps ds)(hd:Vals dvs ds)(hx:qo CX X E)
  (ha:PA X (e::es) t) (J:autoParam ((x==("__debug__":Str))=ce) Zq1._auto_1) (Y:autoParam (a9 (e::es) X.env=(ce,eval e X.env)::a9 es X.env) Zq4._auto_1) (B:autoParam ((cQ pos (a9 es X.env)).any (·.1)=ce) Zq4._auto_1) :
  PE X (.Call (.Name x p) (e::es) [] pos) (aQ7 sp dvs E t):=by
 intro z s W H Q I h;refine cr (aj6 I Z hm ?_ J);refine eR I.ok.mod.kin hk (thn (ha pos z s W H _ I h) λ us s1 ⟨vs,H1,Uu,r,q⟩=>⟨Uu.kIn,?_⟩) Y B;exact aO5 F hr hb hd hx Uu r q
def bu7 (F:FnOk X.prog X.w X.K X.mg X.base CX k f fd ps sp)(hr:Room k X.A)(J:Gl X x)(Uu:X.mg x=al (.ref f))(hk:bJ X.K (.ref f)=bY)(hb:Binds X.K fd ps ds)(hd:Vals dvs ds)(hx:qo CX X E)
  (z:autoParam ((x==("__debug__":Str))=ce) Zq1._auto_1):PE X (.Call (.Name x p) [] [] pos) (aQ7 sp dvs E aO3):=by
 intro B s W H Q I h;refine cr (aj6 I J Uu ?_ z);exact fX I.kIn hk (aO5 F hr hb hd hx I .nil h)
def aY2 {pl}(he:PE X o ta)(c:Cls X.K Cc)(Uu:Meth X.K Cc m f)(F:FnOk X.prog X.w X.K X.mg X.base CX k f fd ps sp)(hr:Room k X.A)(hb:Binds X.K fd ps ds)(hd:Vals dvs ds)(hx:qo CX X E)(ha:PA X (e::es) t)
  (J:autoParam (a9 (e::es) X.env=(ce,eval e X.env)::a9 es X.env) Zq4._auto_1) (B:autoParam ((cQ pos (a9 es X.env)).any (·.1)=ce) Zq4._auto_1)
  (ht:autoParam (eval (.Call (.Attribute o m apos) (e::es) [] pos) X.env=(do
   let ov <- eval o X.env
   kq apos.atName
   let(f,first) <- gz [ov] (i8 ov m pl)
   callWith pos f first (cQ pos (a9 (e::es) X.env)) (fh pos (da [] X.env)))) Zq4._auto_1) :
  PE X (.Call (.Attribute o m apos) (e::es) [] pos) (bm5 Cc m sp dvs E ta t):=by
 intro z s W H Q I h;refine iC (thn (he z s W H _ I h) λ u s1 ⟨x,H1,Y,rx,a,dx,fs,ex,Z,l,q⟩=>?_) ht;subst ex;obtain rfl:u=Value.ref a:=rx;refine au0 Y Z c Uu l ?_;refine eR I.ok.mod.kin Uu.kp (thn (ha pos z s1 W H1 _ Y q) λ us s2 ⟨vs,H2,I2,r,q2⟩=>⟨I2.kIn,?_⟩) J B;exact aO5 (vs:=.ref a::vs) F hr hb hd hx I2 (.cons rfl r) q2
def bu6 (Y:PE X o ta)(c:Cls X.K Cc)(J:Meth X.K Cc m f)(F:FnOk X.prog X.w X.K X.mg X.base CX k f fd ps sp)(hr:Room k X.A)(hb:Binds X.K fd ps ds)(hd:Vals dvs ds)(hx:qo CX X E)
  (ht:autoParam (eval (.Call (.Attribute o m apos) [] [] pos) X.env=(do
   let ov <- eval o X.env
   kq apos.atName
   let(f,first) <- gz [ov] (i8 ov m pl)
   callWith pos f first (cQ pos (a9 [] X.env)) (fh pos (da [] X.env)))) Zq4._auto_1) :
  PE X (.Call (.Attribute o m apos) [] [] pos) (bm5 Cc m sp dvs E ta aO3):=by
 intro z s W H Q I h;refine iC (thn (Y z s W H _ I h) λ u s1 ⟨x,H1,B,Z,a,dx,fs,ex,Uu,l,q⟩=>?_) ht;subst ex;obtain rfl:u=Value.ref a:=Z;refine au0 B Uu c J l ?_;exact fX B.kIn J.kp (aO5 (vs:=[.ref a]) F hr hb hd hx B (.cons rfl .nil) q)
structure Mk (K:ac)(Cc f:Addr):Prop where
 makes:dI K Cc=bY
 init:bU K (.ref Cc) "__init__"=al (al (.ref f))
 fn:ia K (.ref f)=bY
 kp:bJ K (.ref Cc)=bY
def aP2 {W:St}{us:yH}(M:Mk X.K Cc f)(F:FnOk X.prog X.w X.K X.mg X.base CX k f fd ps sp)(hr:Room (k+1) X.A)(hb:Binds X.K fd ps ds)(hd:Vals dvs ds)
  (hx:qo CX X E) (I:Inv X B W H s) (r:Vals vs us)
  (h:∀ x J,H x=aT->H J=aT->J≠x->sp (.ref x::(vs++dvs)) (upd (upd H J (.own x)) x (.ins Cc J [])) (λ v H2=>v=.N/\Q (.ref x) H2) E) :
  wpAny (model X.prog X.w) X.A (call (.ref Cc) us) (EP X B W Q) X.xe s:=by
 have hq:=h (s.heap.objs.size+1) s.heap.objs.size (I.hok.fresh (dC _)) (I.hok.fresh (aj _)) (aH (dv _));have I2:=Inv.made (Cc:=Cc) I;have Uu:Vals (V.ref (s.heap.objs.size+1)::(vs++dvs)) (Value.ref (s.heap.objs.size+1)::(us++ds)):=.cons rfl (r.append hd);have hl:(Value.ref (s.heap.objs.size+1)::us++ds).length=ps.length:=by
  have e:=Uu.length;rw[F.len _ _ _ _ hq]at e;exact e.symm
 refine j8 (bp7 (f:=f) I.kIn M.makes M.init (beq_iff_eq.mp M.fn) (fg (F.run _ X.stack _ _ ⟨Value.ref (s.heap.objs.size+1)::us,[]⟩ (Value.ref (s.heap.objs.size+1)::(us++ds)) _ _ E (hr.make Cc us [])
  (I2.env0.make Cc us []) (hb _ (Value.ref (s.heap.objs.size+1)::us) I2.kIn hl) Uu hq) λ r s' z=>?_))
 cases r with
 | error e=>exact hx B W _ _ e s' I2 z
 | ok fl =>
  cases fl with
  | ret u =>
   obtain⟨v,H',Z,Y,ev,q3⟩:=I2.after z;subst ev;exact⟨Y,⟨V.ref (s.heap.objs.size+1),H',Z,rfl,q3⟩⟩
  | next=>exact bn z
  | brk=>exact bn z
  | cont=>exact bn z
def bJ3 (M:Mk X.K Cc f)(F:FnOk X.prog X.w X.K X.mg X.base CX k f fd ps sp)(hr:Room (k+1) X.A)(Z:Gl X x)(hm:X.mg x=al (.ref Cc))(hb:Binds X.K fd ps ds)(hd:Vals dvs ds)(hx:qo CX X E)
  (ha:PA X (e::es) t) (J:autoParam ((x==("__debug__":Str))=ce) Zq1._auto_1) (Y:autoParam (a9 (e::es) X.env=(ce,eval e X.env)::a9 es X.env) Zq4._auto_1) (B:autoParam ((cQ pos (a9 es X.env)).any (·.1)=ce) Zq4._auto_1) :
  PE X (.Call (.Name x p) (e::es) [] pos) (aV8 Cc sp dvs E t):=by
 intro z s W H Q I h;refine cr (aj6 I Z hm ?_ J);refine eR I.ok.mod.kin M.kp (thn (ha pos z s W H _ I h) λ us s1 ⟨vs,H1,Uu,r,q⟩=>⟨Uu.kIn,?_⟩) Y B;exact aP2 M F hr hb hd hx Uu r q
def br0 (M:Mk X.K Cc f)(F:FnOk X.prog X.w X.K X.mg X.base CX k f fd ps sp)(hr:Room (k+1) X.A)(J:Gl X x)(Uu:X.mg x=al (.ref Cc))(hb:Binds X.K fd ps ds)(hd:Vals dvs ds)(hx:qo CX X E)
  (z:autoParam ((x==("__debug__":Str))=ce) Zq1._auto_1):PE X (.Call (.Name x p) [] [] pos) (aV8 Cc sp dvs E aO3):=by
 intro B s W H Q I h;refine cr (aj6 I J Uu ?_ z);exact fX I.kIn M.kp (aP2 M F hr hb hd hx I .nil h)
end
section
variable {X:Cx} {CX:CXT} {k:Nat} {f Cc:Addr} {fd:bK} {ps ks:yI} {sp:Sp} {E:XK} {x m:Str} {p pos apos kpos:Pos} {e o:Expr} {es:yL} {kws:List fi} {te ta:TE} {t tk:TA} {nm:Option Str}
variable {g:List Value->List Value->List Value} {gV:List V->List V->List V}
end
structure FnScope (N P:yI)(sc:Scope):Prop where
 kind:sc.kind=.function
 co:sc.isCoroutine=ce
 gen:sc.isGenerator=ce
 nd:N.Nodup
 pre:N.take P.length=P
 par:∀ x∈P,sc.names.lookup x=al .local\/sc.names.lookup x=al .cell
 nofree:∀ y∈sc.names,y.2≠.free
def Zsc {N P:yI}{sc:Scope}(a:autoParam (sc.kind=.function) Zq4._auto_1)(b:autoParam (sc.isCoroutine=ce) Zq4._auto_1)(c:autoParam (sc.isGenerator=ce) Zq4._auto_1)(d:autoParam (N.Nodup) Zq8._auto_1)(e:autoParam (N.take P.length=P) Zq4._auto_1)(f:autoParam (∀ x∈P,sc.names.lookup x=al .local\/sc.names.lookup x=al .cell) Zq8._auto_1)(g:autoParam (∀ y∈sc.names,y.2≠.free) Zq8._auto_1):FnScope N P sc:=⟨a,b,c,d,e,f,g⟩
theorem aA9 {eF}:∀ {binds} {m:yD},(∀ v,(x,v) ∉ binds)->bindL eF binds m x=m x
 | [],_,_=>rfl
 | (n,v)::r,m,h=>by
  unfold bindL;rw[aA9 λ w hw=>h w (ah _ hw)];split
  .have:x≠n:=by rintro rfl;exact h v ar
   simp[this]
  .rfl
theorem aD0 {eF}:∀ {binds} {m:yD},(∀ v,(x,v) ∉ binds)->bindC eF binds m x=m x
 | [],_,_=>rfl
 | (n,v)::r,m,h=>by
  unfold bindC;rw[aD0 λ w hw=>h w (ah _ hw)];split
  .rfl
  .have:x≠n:=by rintro rfl;exact h v ar
   simp[this]
theorem ar5 {eF}:∀ {P:yI} {vs:yH} {i:Nat} {m:yD},P.Nodup->P[i]?=al x->vs[i]?=al v->eF x=al .local ->
  bindL eF (P.zip vs) m x=al v
 | [],_,_,_,_,h,_,_=>by simp at h
 | _::_,[],_,_,_,_,h,_=>by simp at h
 | p::P,w::vs,0,m,nd,h1,h2,hk=>by
  simp at h1 h2;subst h1;subst h2;show bindL eF ((p,w)::P.zip vs) m p=_;unfold bindL;rw[aA9 λ v hv=>(cO.mp nd).1 (eP hv).1,ef hk];simp
 | p::P,w::vs,i+1,m,nd,h1,h2,hk=>by
  skip
  unfold bindL;exact ar5 (cO.mp nd).2 (by simpa using h1) (by simpa using h2) hk
theorem ar8 {eF}:∀ {P:yI} {vs:yH} {i:Nat} {m:yD},P.Nodup->P[i]?=al x->vs[i]?=al v->eF x≠al .local ->
  bindC eF (P.zip vs) m x=al v
 | [],_,_,_,_,h,_,_=>by simp at h
 | _::_,[],_,_,_,_,h,_=>by simp at h
 | p::P,w::vs,0,m,nd,h1,h2,hk=>by
  simp at h1 h2;subst h1;subst h2;show bindC eF ((p,w)::P.zip vs) m p=_;unfold bindC;rw[aD0 λ v hv=>(cO.mp nd).1 (eP hv).1,gc hk];simp
 | p::P,w::vs,i+1,m,nd,h1,h2,hk=>by
  skip
  unfold bindC;exact ar8 (cO.mp nd).2 (by simpa using h1) (by simpa using h2) hk
noncomputable def ai7 (N:yI)(vs:List V):St:=vs.map al++aA (N.length - vs.length) aT
noncomputable def as8 (CX:CXT)(P:aF)(w:World)(K:ac)(mg:yD)(base:Heap)(N:yI)(qual:Str)(scope:Scope)(f:Addr)(cd:Value)(A:aV)(outer:List Env)(s:af)(H:Hp)(E:XK):Cx where
 prog:=P
 w:=w
 K:=K
 mg:=mg
 base:=base
 A:=A.deeper (fQ qual scope s.heap.objs.size f cd)
 N:=N
 s₀:=s
 H₀:=H
 env:=fQ qual scope s.heap.objs.size f cd
 outer:=outer
 stack:=fQ qual scope s.heap.objs.size f cd::outer
 ex:=[]
 calm:=bY
 fn:=λ _=>bY
 pn:=[]
 xe:=λ e s'=>wpAny (model P w) (A.deeper (fQ qual scope s.heap.objs.size f cd)) (leaving (fQ qual scope s.heap.objs.size f cd) e) (λ _ s''=>CX outer H s E e s'') (λ e' s''=>CX outer H s E e' s'') s'
def z0 {sc:Scope}(h:sc.names.lookup x=al .cell):∃ c,(aW n sc.names []).lookup x=al c:=by
 have q:=ib sc.names n [] (.inl h);exact ci.mp q
def ba1 {K:ac}{us:yH}{vs:List V}
  (S:FnScope N ps scope) (hd:A.handled=aT) (Uu:Env0 P w K mg base A B s H) (hl:vs.length=ps.length) (r:Vals vs us)
  (x:gB s s.heap.objs.size (bindL (fQ qual scope s.heap.objs.size f cd).kindOf (ps.zip us) λ _=>aT) (aW (s.heap.objs.size+1) scope.names []) (bindC (fQ qual scope s.heap.objs.size f cd).kindOf (ps.zip us) λ _=>aT) s1) :
  Inv (as8 CX P w K mg base N qual scope f cd A B s H E) [] (ai7 N vs) H s1:=by
 have a0:ps.length<=N.length:=by have:=congrArg iT S.pre;grind
 obtain⟨h1,tk,rfl,hk⟩:=x.done;have Y:∀ b:Addr,b ∉ (as8 CX P w K mg base N qual scope f cd A B s H E).ex:=λ b z=>iS (show b∈([]:List Addr)from z) (by simp);refine⟨⟨Uu.mod,S.kind,rfl,rfl,aj _,λ y z c h1 J=>?_,λ y hy=>?_,λ y c _ h=>?_,λ _=>hd,iU Uu.frames,.inr ⟨rfl,rfl⟩,λ b z=>iS z (Y b),Uu.bs,Uu.bsz,λ b _ _=>Y b,λ b z=>iS z (Y b),Uu.funs,Uu.frf⟩,
  rfl,Uu.bare,Un.kept hk,⟨_,x.toInCall.ns,λ i y v h1 J h3=>?_⟩,λ y c h=>⟨_,x.cell y c h⟩,Uu.hok.fresh (aj _),λ y c h=>?_,λ p hp=>iS (show p∈([]:yA)from hp) (by simp),Uu.hok.kept hk,?_⟩
 .exact ic x.apart (aK h1) (aK J)
 .have hy:scope.names.lookup y=al .cell\/scope.names.lookup y=al .free:=hy;rcases hy with hy|hy
  .exact z0 hy
  .exact iS rfl (S.nofree _ (aK hy))
 .exact d8 (x.above y c (aK h))
 .have hi:i<vs.length:=by
   unfold ai7 at J;by_cases hi:i<vs.length
   .exact hi
   .rw[ay (by simpa using hi)]at J;rw[gY]at J;split at J<;>cases J
  have ha:vs[i]?=al v:=by
   unfold ai7 at J;rw[aD (by simpa using hi),aL]at J;cases e:vs[i]? with
   | none=>rw[e]at J;cases J
   | some a=>rw[e]at J;cases J;rfl
  obtain⟨u,hu,rv⟩:=r.get ha;have hp:ps[i]?=al y:=by
   rw[<-S.pre,db (by lia)];exact h1
  have Z:ps.Nodup:=by rw[<-S.pre];exact S.nd.sublist (List.take_sublist _ _)
  refine⟨u,rv,?_⟩;rcases S.par y (aE hp)with k|k
  .exact .inl ⟨k,ar5 Z hp hu k⟩
  .obtain⟨c,e⟩:=z0 (n:=s.heap.objs.size+1) k;refine .inr ⟨.inl k,c,e,?_⟩;have q:=x.cell y c e;rw[ar8 Z hp hu (by show scope.names.lookup y≠_;rw[k];decide)]at q;exact q
 .exact Uu.hok.fresh (d8 (x.above y c (aK h)))
 .unfold ai7;show _=N.length
  simp_all
set_option tactic.hygienic true in
def bM6 {K:ac}{body:yM}{dV kV Y pm z ct oc:Value}{an od:yJ}
  {a1:yF} (lk:K.lookup f=al ⟨oc,od,.func (cR name qual params body scope dV kV Y pm an z ct),a1⟩) (a2:fj K z qual=bY) (S:FnScope N ps scope)
  (len:∀ vs H Q E,sp vs H Q E->vs.length=ps.length)
  (Uu:∀(A:aV) (h:List Env) (s:af) (H:Hp) (vs:List V) (Q:VK) (E:XK),Room k (A.deeper (fQ qual scope s.heap.objs.size f z))->sp vs H Q E ->
   ∃ t,PSs (as8 CX P w K mg base N qual scope f z A h s H E) body t/\t { nx:=λ _ H'=>Q .N H',rt:=Q } (ai7 N vs) H) :
  FnOk P w K mg base CX (k+1) f (cR name qual params body scope dV kV Y pm an z ct) ps sp:=by
 refine⟨len,λ A h s H args us vs Q E hr Z hb r a0=>?_⟩;have hl:=len _ _ _ _ a0;have KX:K.In s.heap:=Z.mod.kin.keeps λ b o e=>(Z.bs b o e).1;have a3:s.heap.NoLimit:=Z.mod.nolimit.keeps λ b o e=>(Z.bs b o e).1;have B:∀ y∈ps.zip us,scope.names.lookup y.1=al .local\/(scope.names.lookup y.1=al .cell/\((aW (s.heap.objs.size+1) scope.names []).lookup y.1).isSome=bY):=λ⟨n,v⟩ hy=>by
  rcases S.par n (eP hy).1 with q|q
  .exact .inl q
  .exact .inr ⟨q,ib _ _ _ (.inl q)⟩
 refine iD hr.depth (KX _ _ lk) rfl S.co S.gen rfl (PySem.W.codeRec_of KX a2) (hb _ _ _ _ ?_);refine wpAny_newFunctionEnv_cells S.kind B λ env he s1 x=>?_;subst he;refine⟨a3.keeps x.toInCall.keep,codeAny_func ?_⟩;obtain⟨t,ht,hq⟩:=Uu A h s H vs Q E (hr.deeper _) a0;have I:Inv (as8 CX P w K mg base N qual scope f z A h s H E) [] (ai7 N vs) H s1:=ba1 S hr.hd Z hl r x;refine bF (ht [] s1 (ai7 N vs) H _ I hq) (λ fl s' hs=>?_) λ e s' hs=>hs;have fin:∀ {W':St} {H':Hp} {v:V} {u:Value},Inv (as8 CX P w K mg base N qual scope f z A h s H E) [] W' H' s'->RelV v u->Q v H'->CE h P w H s Q u s' :=
  λ {W' H' v u} J rv q=>⟨v,H',J.os,J.bare,J.base,J.hok,rv,q⟩
 cases fl with
 | ret u =>
  obtain⟨v,W',H',J,rv,q⟩:=hs;exact fin J rv q
 | next =>
  obtain⟨W',H',J,q⟩:=hs;exact fin (v:=V.N) (u:=Value.none) J rfl q
 | brk =>
  obtain⟨_,_,_,q⟩:=hs
  simp_all
 | cont =>
  obtain⟨_,_,_,q⟩:=hs
  simp_all
section
variable {X:Cx} {x:Str} {p pos:Pos} {e:Expr} {es:yL} {t:TA} {id T:String} {r:List V->Hp->VK->Prop}
def tCB (r:List V->Hp->VK->Prop)(t:TA):TE:=λ W H Q=>t W H λ vs H1=>r vs H1 Q
def az2 (hc:ae5 X (.builtin id) r)(hg:Gl X x)(hm:X.mg x=aT)(hv:cf x=al (.builtin id))(ha:PA X (e::es) t)(hn:autoParam (x ≠ "__name__") Zq1._auto_1)(J:autoParam ((x==("__debug__":Str))=ce) Zq1._auto_1)
  (Z:autoParam (a9 (e::es) X.env=(ce,eval e X.env)::a9 es X.env) Zq4._auto_1) (B:autoParam ((cQ pos (a9 es X.env)).any (·.1)=ce) Zq4._auto_1):PE X (.Call (.Name x p) (e::es) [] pos) (tCB r t):=by
 intro z s W H Q I h;refine cr (aF1 I hg hm hv ?_ hn J);exact PyProof.Rows.callWith_builtin1 (thn (ha pos z s W H _ I h) λ us s1 ⟨vs,Uu,Y,r1,q1⟩=>hc z s1 W Uu vs us Q Y r1 q1) Z B
def ao1 (hc:ae5 X (.type T) r)(hg:Gl X x)(hm:X.mg x=aT)(hv:cf x=al (.type T))(ha:PA X (e::es) t)(hn:autoParam (x ≠ "__name__") Zq1._auto_1)(J:autoParam ((x==("__debug__":Str))=ce) Zq1._auto_1)
  (Z:autoParam (a9 (e::es) X.env=(ce,eval e X.env)::a9 es X.env) Zq4._auto_1) (B:autoParam ((cQ pos (a9 es X.env)).any (·.1)=ce) Zq4._auto_1):PE X (.Call (.Name x p) (e::es) [] pos) (tCB r t):=by
 intro z s W H Q I h;refine cr (aF1 I hg hm hv ?_ hn J);exact dX (thn (ha pos z s W H _ I h) λ us s1 ⟨vs,Uu,Y,r1,q1⟩=>hc z s1 W Uu vs us Q Y r1 q1) Z B
end
end L2
end
noncomputable section
namespace HT
open PySem PyProof.Rows
section
open PySem.SeqAt
open PySem.AutoSeq1 (wpAny_loadPart')
open PySem.MeetsSeq PySem.MeetsSeq2 PySem.MeetsSeq3
end
section
variable {prog:aF} {w:World} {A:aV} {E:yB} {s:af}
noncomputable def sIx (n d:Nat):Option Int->Nat
 | none=>d
 | some v=>if v<0 then(v+(n)).toNat else min v.toNat n
def sIx_le  n d (hd:d<=n) o :sIx n d o<=n:=by
 cases o with
 | none=>exact hd
 | some v =>
  show(if v<0 then(v+(n)).toNat else min v.toNat n)<=n;by_cases hv:v<0
  .rw[ef hv];lia
  .rw[gc hv];exact Nat.min_le_right _ _
def clip_eq  v (n d:Nat):(if v<0 then max (v+(n:Int)) 0 else min v (n))=((sIx n d (al v))):=by
 show(if v<0 then max (v+(n)) 0 else min v (n))=(((if v<0 then(v+(n)).toNat else min v.toNat n)));lia
def adjust_gen  z h (n:Nat):eD z h 1 (n)=(((sIx n 0 z):Int),((sIx n n h):Int)):=by
 have B:=by omega
 unfold eD;simp only[if_false];refine gW ?_ ?_
 .cases z with
  | none=>rfl
  | some v=>exact clip_eq v n 0
 .cases h with
  | none=>rfl
  | some v=>exact clip_eq v n n
def places_gen (i j:Nat):c7 (i) (j) 1=j - i:=by
 unfold c7;lia
def slicePart_ (p:gP v o)(h:Q o s):wpAny (model prog w) A (lq v) Q E s:=by
 cases p with
 | none=>exact slicePart_none h
 | int i t=>exact slicePart_int h
def sliceApplied_gen {Q:Int×Int×Nat->af->Prop}(hs:s.heap.IsSliceOf sl vl vu .none)(pl:gP vl z)(Y:gP vu B)
  (h:Q (((sIx n 0 z:Nat):Int),1,sIx n n B - sIx n 0 z) s):wpAny (model prog w) A (gh (.ref sl) (pure (n))) Q E s:=by
 obtain⟨os,Uu,Z,J⟩:=id hs;unfold gh lR;refine ai (ai (eT Uu J rfl (ai (eT Uu J rfl (ai (eT Uu J rfl (aG ?_)))))));refine ai (slicePart_none ?_)
 skip
 rw[gc (by decide)];refine ai (slicePart_ pl (ai (slicePart_ Y (ai (aG ?_)))));show wpAny _ _ (match eD z B 1 (n)with|(z,B)=>pure (z,(1:Int),c7 z B 1)) _ _ s;rw[adjust_gen z B n];show wpAny _ _ (pure (((sIx n 0 z):Int),(1),c7 ((sIx n 0 z)) ((sIx n n B)) 1)) _ _ s;rw[places_gen];exact aG h
def pick_gen (h:yK)(i k:Nat):((am k).filterMap λ(m:Nat)=>h[((i)+(m:Int)*1).toNat]?).toArray=((h.toList.drop i).take k).toArray:=by
 have e:(λ(m:Nat)=>h[((i)+(m:Int)*1).toNat]?)=λ m=>h[i+m]?:=by
  grind
 rw[e];have:=pick_run h i k;rw[gi]at this;have e2:((λ x=>h[x]?) ∘ λ x=>i+x)=λ m=>h[i+m]?:=rfl;lia
def getItem_tuple_cut {z:yK}{Q:yB}(ht:IsTup s.heap t z)(hs:s.heap.IsSliceOf sl vl vu .none)(pl:gP vl J)(pu:gP vu Uu)
  (hw:¬(sIx z.size 0 J=0/\sIx z.size z.size Uu=z.size))
  (h:Q (.ref s.heap.objs.size) { s with heap:=s.heap.push { cls:=.type "tuple",data:=.seq ((z.toList.drop (sIx z.size 0 J)).take (sIx z.size z.size Uu - sIx z.size 0 J)).toArray } })
  (hsz:z.size<=a7):wpAny (model prog w) A (ie (.ref t) (.ref sl)) Q E s:=by
 have B:=by
  show((z.toList.drop (sIx z.size 0 J)).take (sIx z.size z.size Uu - sIx z.size 0 J)).toArray.size<=a7;rw[aJ,bR,fB,di];omega
 have hj:sIx z.size z.size Uu<=z.size:=sIx_le _ _ (aj _) Uu;obtain⟨os,a1,a0,a2⟩:=id hs;have Y:s.TypeIs (.ref sl) "slice":=⟨os,a1,a0⟩
 unfold ie
 try with_reducible refine dR ?_
 first|refine ai (aG ?_)|skip
 refine ai (kA ht.typeIs (by decide) ?_);refine ai (dw (name:=bX "__getitem__") ht.typeIs bM
  (dk bM ht.typeIs jR ?_ (j9 _ _)))
 show wpAny _ _ (d5 (.ref t) >>= _) _ _ s;refine ai (tupleItemsOf_ ht ?_);refine ai (kB Y ?_);rw[ef (by decide)];refine ai (sliceApplied_gen hs pl pu ?_);have Z:¬((((sIx z.size 0 J:Nat):Int)==0&&(1:Int)==1&&(sIx z.size z.size Uu - sIx z.size 0 J)==z.size)=bY):=by
  lia
 show wpAny _ _ (if(((sIx z.size 0 J:Nat):Int)==0&&(1:Int)==1&&(sIx z.size z.size Uu - sIx z.size 0 J)==z.size)=bY then _ else _) _ _ s;rw[gc Z,pick_gen]
 first
  | exact ai (m:=dg _) (cC (aG ⟨_,rfl,aG h⟩) B)
  | exact ai (m:=dg _) (cC (ai (aG (aG ⟨_,rfl,aG h⟩))) B)
  | exact ai (ai (m:=dg _) (cC (aG (aG ⟨_,rfl,aG h⟩)) B))
  | exact ai (ai (m:=dg _) (cC (aG ⟨_,rfl,aG h⟩) B))
end
end HT
noncomputable section
namespace L2
open PySem PySem.Spec PyProof.Rows
abbrev TO:=St->Hp->(Option Int->Hp->Prop)->Prop
def PO (X:Cx)(e:Option Expr)(t:TO):Prop :=
 ∀ pins   s  (W:St)  H   Q ,Inv X pins W H s->t W H Q ->
  wpAny (model X.prog X.w) X.A (evalPart e X.env) (λ u s'=>∃ o H',Inv X pins W H' s'/\gP u o/\Q o H') X.xe s
noncomputable def aI5:TO:=λ _ H Q=>Q aT H
noncomputable def bg3 (t:TE):TO:=λ W H Q=>t W H λ x H1=>∃ i,x=.int i/\Q (al i) H1
section
variable {X:Cx} {e:Expr} {te:TE} {lo hi:Option Expr} {tl th:TO} {pos p2:Pos}
def bE4:PO X aT aI5:=by
 intro z s W H Q I h;rw[evalPart_none];exact aG ⟨aT,H,I,.none,h⟩
def bO9 (h:PE X e te):PO X (al e) (bg3 te):=by
 intro z s W H Q I hw;rw[evalPart_some];refine thn (h z s W H _ I hw) λ u s1 ⟨x,B,J,r1,Uu⟩=>?_;obtain⟨i,rfl,q⟩:=Uu;obtain⟨t,rfl⟩:=r1;exact⟨al i,B,J,.int i t,q⟩
def SlR (X:Cx)(r:V->Option Int->Option Int->Hp->VK->Prop):Prop :=
 ∀ pins   s  (W:St)  H   x   v vl vu   lo hi   sl   Q ,Inv X pins W H s->RelV x v->s.heap.IsSliceOf sl vl vu .none->gP vl lo->gP vu hi->r x lo hi H Q ->
  ∃ T id,typeLookup (.type T) "__getitem__"=pure (al (.builtin id))/\s.TypeIs v T/\wpAny (model X.prog X.w) X.A (ie v (.ref sl)) (EP X pins W Q) X.xe s
def tSl (r:V->Option Int->Option Int->Hp->VK->Prop)(te:TE)(tl th:TO):TE:=λ W H Q=>te W H λ x H1=>tl W H1 λ l H2=>th W H2 λ u H3=>r x l u H3 Q
def bm2 (hr:SlR X r)(Z:PE X e te)(hl:PO X lo tl)(hu:PO X hi th):PE X (.Subscript e (.Slice lo hi aT p2) pos) (tSl r te tl th):=by
 intro z s W H Q I h;refine Subscript_ (thn (Z z s W H _ I h) λ v s1 ⟨x,H1,I1,r1,Y⟩=>?_);refine wpAny_Slice (thn (hl z s1 W H1 _ I1 Y) λ vl s2 ⟨l,H2,I2,pl,q2⟩=>thn (hu z s2 W H2 _ I2 q2) λ vu s3 ⟨u,B,I3,pu,q3⟩=>?_);rw[evalPart_none];refine aG ?_;have Uu:Inv X z W B { s3 with heap:=s3.heap.push { cls:=.type "slice",data:=.fields #[vl,vu,.none] } }:=I3.kept λ b ob q=>ak _ q;obtain⟨T,id,hT,ht,J⟩:=hr z { s3 with heap:=s3.heap.push { cls:=.type "slice",data:=.fields #[vl,vu,.none] } } W B x v vl vu l u s3.heap.objs.size Q Uu r1 (mW ..) pl pu q3
 skip
 exact lG ht hT J (by with_unfolding_all rfl)
noncomputable def aU9 (xs:List V)(lo hi:Option Int):List V:=(xs.drop (HT.sIx xs.length 0 lo)).take (HT.sIx xs.length xs.length hi - HT.sIx xs.length 0 lo)
def ar4  h  z B :(aU9 h z B).length<=h.length:=by
 unfold aU9;rw[bR,fB];lia
def ct1 (K:ac):V->Option Int->Option Int->Hp->VK->Prop:=λ x lo hi H Q=>∃ a xs,x=.ref a/\SqT K H a xs /\
 ¬(HT.sIx xs.length 0 lo=0/\HT.sIx xs.length xs.length hi=xs.length)/\∀ p,H p=aT->Q (.ref p) (upd H p (.tp (aU9 xs lo hi)))
def bZ0:SlR X (ct1 X.K):=by
 intro Y s W H x v vl vu J Uu sl Q I Z hs pl pu h;refine wl λ _ ua=>?_;obtain⟨a,B,rfl,hx,hw,q⟩:=h;cases Z;obtain⟨its,r,ht,hz⟩:=I.tuple hx;have z:its.toArray.size=B.length:=by rw[aJ];exact r.length.symm
 refine ua ⟨"tuple",_,bM.lookup,ht.typeIs,?_⟩;refine HT.getItem_tuple_cut ht hs pl pu (by rw[z];exact hw) ?_ (by rw[z];exact hz);rw[z];refine⟨.ref s.heap.objs.size,_,I.laid (λ b ob q=>ak _ q) (aj _) ?_,rfl,q _ (I.hok.fresh (aj _))⟩;exact⟨aq (ar4 B J Uu) hz,_,(r.drop (HT.sIx B.length 0 J)).take (HT.sIx B.length B.length Uu - HT.sIx B.length 0 J),l8 _ _⟩
end
noncomputable def ixN (n:Nat)(i:Int):Option Nat:=if 0<=i then(if i<n then al i.toNat else aT)else if -(n)<=i then al (i+n).toNat else aT
def atI {α:Type}(xs:List α)(i:Int):Option α:=(ixN xs.length i).bind λ j=>xs[j]?
def aY6 (h:ixN n i=al j):seqIndex? i n=al j/\j<n/\-(n)<=i/\i<n:=by
 unfold ixN at h;by_cases h0:0<=i
 .rw[ef h0]at h;by_cases h1:i<n
  .rw[ef h1]at h;have e:=av h;exact⟨by rw[lf h0 h1,e],by lia,by lia,h1⟩
  .rw[gc h1]at h;cases h
 .rw[gc h0]at h;by_cases h1:-(n)<=i
  .rw[ef h1]at h;have e:=av h;exact⟨by rw[kC (by lia) h1,e],by lia,h1,by lia⟩
  .rw[gc h1]at h;cases h
def aG8 (h:atI z i=al v):∃ j,seqIndex? i z.length=al j/\z[j]?=al v/\j<z.length/\-(z.length)<=i/\i<z.length:=by
 unfold atI at h;cases e:ixN z.length i with
 | none=>simp_all
 | some j =>
  rw[e]at h;obtain⟨B,J,h3,Uu⟩:=aY6 e;exact⟨j,B,h,J,h3,Uu⟩
def bf3 (b:Expr):Prop:=∀ o i,subscripted b ce o i=operate [o,i] (ie o i)
def IxR (X:Cx)(r:R2):Prop :=
 ∀ value slice   pins   s  (W:St)  H   x y   v u   Q ,Inv X pins W H s->RelV x v->RelV y u->r x y H Q ->
  subscripted slice ce v u=operate [v,u] (ie v u)->wpAny (model X.prog X.w) X.A (subscriptTail value slice v u) (EP X pins W Q) X.xe s
def MtR (X:Cx)(id:String)(r:V->List V->Hp->VK->Prop):Prop :=
 ∀ pins   s  (W:St)  H   x   xs   v  (us:yH)  Q ,Inv X pins W H s->RelV x v->Vals xs us->r x xs H Q ->
  wpAny (model X.prog X.w) X.A (call (.builtin id) (v::us)) (EP X pins W Q) X.xe s
section
variable {X:Cx} {a b:Expr} {ta tb:TE} {pos:Pos}
def cn3 (hr:IxR X r)(ha:PE X a ta)(hb:PE X b tb)(hs:bf3 b):PE X (.Subscript a b pos) (tOp r ta tb):=by
 intro z s W H Q I h;exact Subscript_ (co0 ha hb I h λ v u s2 x y H2 I2 J B q=>hr a b z s2 W H2 x y v u Q I2 J B q (hs _ _))
def cq9 (K:ac):R2:=λ x y H Q=>∃ p xs i v,x=.ref p/\y=.int i/\SqL K H p xs/\atI xs i=al v/\Q v H
def cq1 (K:ac):R2:=λ x y H Q=>∃ p xs i v,x=.ref p/\y=.int i/\SqT K H p xs/\atI xs i=al v/\Q v H
def cu6:R2:=λ x y H Q=>∃ z i c,x=.str z/\y=.int i/\z.length<=a7/\atI z.cps.toList i=al c/\Q (.str ⟨#[c]⟩) H
def bI4:IxR X (cq9 X.K):=by
 intro Z Uu B s W H x y v u Q I rx ry h hs;refine wl λ _ ua=>?_;obtain⟨p,xs,i,z,rfl,rfl,hq,he,q⟩:=h;cases rx;obtain⟨t,rfl⟩:=ry;obtain⟨its,r,pl,hz⟩:=I.list hq;obtain⟨j,J,h2,h3,h4,h5⟩:=aG8 he;obtain⟨w,ew,Y⟩:=r.get h2;have hl:=r.length;have hn:=au7;have fin:EP X B W Q w s:=⟨z,H,I,Y,q⟩
 refine ua ?_;by_cases h0:0<=i
 .have hj:=by
   rw[lf h0 h5]at J;exact av J
  exact item_listR pl.isList h0 (by lia) (by rw[hj];simpa using ew) fin hs
 .have hj:(i+(its.toArray.size)).toNat=j:=by
   rw[kC (by lia) h4]at J;rw[aJ,<-hl];exact av J
  exact ig pl.isList.typeIs kD.lookup
   (wpAny_getItem_list_neg pl.isList (by omega) (by rw[aJ]<;>lia) (by lia) (by rw[hj];simpa using ew) ⟨rfl,fin⟩) hs
def ix_tup:IxR X (cq1 X.K):=by
 intro Y J B s W H x y v u Q I rx ry h hs;refine wl λ _ ua=>?_;obtain⟨p,xs,i,z,rfl,rfl,hq,he,q⟩:=h;cases rx;obtain⟨t,rfl⟩:=ry;obtain⟨its,r,pl,hz⟩:=I.tuple hq;obtain⟨j,Z,h2,h3,h4,h5⟩:=aG8 he;obtain⟨w,ew,Uu⟩:=r.get h2;have hl:=r.length;have hn:=au7;have fin:EP X B W Q w s:=⟨z,H,I,Uu,q⟩
 exact ua $ ig pl.typeIs bM.lookup
  (getItem_tuple pl (by lia) (by lia) (by rw[aJ,<-hl];exact Z) (by simpa using ew) ⟨rfl,fin⟩) hs
def ix_str:IxR X cu6:=by
 intro J B Uu s W H x y v u Q I rx ry h hs;refine wl λ _ ua=>?_;obtain⟨z,i,c,rfl,rfl,hz,he,q⟩:=h;obtain⟨t,rfl⟩:=rx;obtain⟨t',rfl⟩:=ry;obtain⟨j,Y,h2,h3,h4,Z⟩:=aG8 he;have hl:z.cps.toList.length=z.length:=by simp[Str.length]
 rw[hl]at Y h4 Z;have hn:=au7;exact ua $ lG (lH s z t) slot_str_getitem.lookup (getItem_str (by
  lia) (by simp_all) ⟨.str ⟨#[c]⟩,H,I.tok _,⟨_,rfl⟩,q⟩) hs
def aS5 (its:yH) n j  u :ii (·.setIfInBounds j u) { cls:=.type "list",data:=.seq its.toArray n }={ cls:=.type "list",data:=.seq (its.set j u).toArray n }:=by
 simp[ii]
def Inv.lst {W:St}(I:Inv X B W H s)(h:H p=al (.J J)) :
  ∃(its:yH) (n:Nat),Vals J its/\s.heap.get? p=al { cls:=.type "list",data:=.seq its.toArray n }/\J.length<=a7:=by
 obtain⟨z,its,n,r,e⟩:=I.hok p _ h;exact⟨its,n,r,e,z⟩
def Inv.lstUpd {W:St}{its its':yH}(I:Inv X z W H s)(h:H p=al (.J Uu))
  (ho:s.heap.get? p=al { cls:=.type "list",data:=.seq its.toArray n }) (J:f { cls:=.type "list",data:=.seq its.toArray n }={ cls:=.type "list",data:=.seq its'.toArray B }) (r:Vals ys its') (hz:ys.length<=a7)  t  :
  Inv X z W (upd H p (.J ys)) { s with heap:=s.heap.update p f,toks:=t }:=by
 have e:(s.heap.update p f).get? p=al { cls:=.type "list",data:=.seq its'.toArray B }:=by
  rw[dU f ho (by rw[J]<;>rfl),J]
 refine I.write (by rw[h];trivial) (.inl rfl) (λ b u hb q=>(cy _ _ (bH hb)).trans q) ⟨_,e⟩ ?_;exact⟨hz,its',B,r,e⟩
def cl7:V->V->V->Hp->(Hp->Prop)->Prop:=λ o i v H Q=>∃ p xs k j,o=.ref p/\i=.int k/\H p=al (.J xs)/\ixN xs.length k=al j/\Q (upd H p (.J (xs.set j v)))
def bs2:cn1 X cl7:=by
 intro z s W H o i v ov iv u Q I ro ri rv h;refine wl λ _ ua=>?_;obtain⟨p,xs,k,j,rfl,rfl,Y,hj,q⟩:=h;cases ro;obtain⟨t,rfl⟩:=ri;obtain⟨its,n,r,ho,hz⟩:=I.lst Y;obtain⟨B,h2,h3,Uu⟩:=aY6 hj;have J:=r.length;have hn:=au7;have Z :=
  I.lstUpd Y ho (aS5 its n j u) (r.set rv j) (by rw[bw];exact hz) s.toks
 refine ua ?_;by_cases h0:0<=k
 .have hk:=by
   rw[lf h0 Uu]at B;exact av B
  exact PySem.W.ki_setAt ho h0 (by lia) (by rw[aJ,<-J];exact Uu) (by rw[hk];exact⟨_,Z,q⟩)
 .have hk:(k+(its.toArray.size)).toNat=j:=by
   rw[kC (by lia) h3]at B;rw[aJ,<-J];exact av B
  exact PySem.W.ki_setBack ho (by omega) (by rw[aJ,<-J];exact h3) (by lia) (by rw[hk];exact⟨_,Z,q⟩)
def aA4  B z  n :(eV B z aT n).1=((HT.sIx n 0 B))/\(eV B z aT n).2.1=((HT.sIx n n z))/\(eV B z aT n).2.2=1:=by
 refine⟨?_,?_,rfl⟩
 .cases B with
  | none=>simp[eV,HT.sIx]
  | some i =>
   simp only[eV,HT.sIx,kT,if_true];by_cases h:i<0
   .simp only[h,if_true]<;>lia
   .simp only[h,if_false]<;>lia
 .cases z with
  | none=>simp[eV,HT.sIx]
  | some i =>
   simp only[eV,HT.sIx,kT,if_true];by_cases h:i<0
   .simp only[h,if_true]<;>omega
   .simp only[h,if_false]<;>omega
def aw5 (its:yH) h z :slicePick its.toArray h z aT=((its.drop (HT.sIx its.length 0 h)).take (HT.sIx its.length its.length z - HT.sIx its.length 0 h)).toArray:=by
 obtain⟨B,J,h3⟩:=aA4 h z its.toArray.size;unfold slicePick;rw[B,J,h3];simp only[sliceRange_one,pick_run]<;>rfl
def cq5 (K:ac):V->Option Int->Option Int->Hp->VK->Prop:=λ x lo hi H Q=>∃ a xs,x=.ref a/\SqL K H a xs/\∀ p,H p=aT->Q (.ref p) (upd H p (.J (aU9 xs lo hi)))
def bN1:SlR X (cq5 X.K):=by
 intro Y s W H x v vl vu J Uu sl Q I Z hs pl pu h;obtain⟨a,z,rfl,hx,q⟩:=h;cases Z;obtain⟨its,r,ht,hz⟩:=I.list hx;have B:=r.length;refine⟨"list",_,kD.lookup,ht.isList.typeIs,?_⟩;refine wpAny_getItem_list_slice ht.isList hs pl pu .none (by simp) ?_ (by simp_all);rw[aw5,<-B];refine⟨.ref s.heap.objs.size,_,I.laid (λ b ob q=>ak _ q) (aj _) ?_,rfl,q _ (I.hok.fresh (aj _))⟩;exact⟨aq (ar4 z J Uu) hz,_,0,(r.drop (HT.sIx z.length 0 J)).take (HT.sIx z.length z.length Uu - HT.sIx z.length 0 J),aX _ rfl⟩
def al2:ae5 X (.builtin "len") (λ J H Q=>∃ p ys,J=[.ref p]/\(SqL X.K H p ys\/SqT X.K H p ys)/\Q (.int ys.length) H):=by
 intro Uu s W H J us Q I r h;obtain⟨p,ys,rfl,hq,q⟩:=h;obtain⟨u,rfl,Y⟩:=ai1 r;cases Y;have hn:=au7;rcases hq with hq|hq
 .obtain⟨its,B,pl,hz⟩:=I.list hq;have z:=B.length;exact Calls.call_len_list pl.isList (by grind) ⟨.int ys.length,H,I.tok _,⟨s.toks+1,by grind⟩,q⟩
 .obtain⟨its,B,pl,hz⟩:=I.tuple hq;have z:=B.length;exact len_tuple pl (by grind) ⟨.int ys.length,H,I.tok _,⟨s.toks+1,by grind⟩,q⟩
def aA1:ae5 X (.builtin "len") (λ J H Q=>∃ z,J=[.str z]/\z.length<=a7/\Q (.int z.length) H):=by
 intro B s W H J us Q I r h;obtain⟨z,rfl,hz,q⟩:=h;obtain⟨u,rfl,t,rfl⟩:=ai1 r;have hn:=au7;exact len_str (by lia) ⟨.int z.length,H,I.tok _,⟨_,rfl⟩,q⟩
def ae5.or (h:ae5 X f r)(h':ae5 X f J):ae5 X f (λ B H Q=>r B H Q\/J B H Q):=by
 intro z s W H B us Q I Uu q;rcases q with q|q
 .exact h z s W H B us Q I Uu q
 .exact h' z s W H B us Q I Uu q
def aA3:ae5 X (.type "list") (λ Z H Q=>∃ p ys,Z=[.ref p]/\(SqL X.K H p ys\/SqT X.K H p ys)/\∀ l,H l=aT->Q (.ref l) (upd H l (.J ys))):=by
 intro Uu s W H Z us Q I r h;obtain⟨p,ys,rfl,hq,q⟩:=h;obtain⟨u,rfl,rx⟩:=ai1 r;cases rx;have fin:∀ its ,Vals ys its->ys.length<=a7->∀ h'   z ,(∀ b Y,s.heap.get? b=al Y->h'.get? b=al Y) ->
   h'.get? s.heap.objs.size=al { cls:=.type "list",dict:=aT,data:=.seq its.toArray z,slots:=#[] }->EP X Uu W Q (.ref s.heap.objs.size) { s with heap:=h' }:=λ its B hz h' z kp e =>
  ⟨.ref s.heap.objs.size,_,I.laid kp (aj _) (show ae4 X.prog X.w _ h' _ (.J ys)from⟨hz,its,z,B,e⟩),rfl,q _ (I.hok.fresh (aj _))⟩
 rcases hq with hq|hq
 .obtain⟨its,B,pl,hz⟩:=I.list hq;have J:=B.length;obtain⟨o,ho,hc,n,hd⟩:=pl.isList;exact call_list_seq p (.inl rfl) ho hc hd (λ h' z kp e=>fin its B hz h' z kp e) (by simp_all)
 .obtain⟨its,B,pl,hz⟩:=I.tuple hq;have J:=B.length;obtain⟨o,ho,hc,n,hd⟩:=pl;exact call_list_seq p (.inr rfl) ho hc hd (λ h' z kp e=>fin its B hz h' z kp e) (by simp_all)
def aw0:ae5 X (.type "tuple") (λ J H Q=>∃ p ys,J=[.ref p]/\((SqL X.K H p ys/\∀ l,H l=aT->Q (.ref l) (upd H l (.tp ys)))\/(SqT X.K H p ys/\Q (.ref p) H))):=by
 intro z s W H J us Q I r h;obtain⟨p,ys,rfl,h⟩:=h;obtain⟨u,rfl,Z⟩:=ai1 r;cases Z;rcases h with⟨hq,q⟩|⟨hq,q⟩
 .obtain⟨its,B,pl,hz⟩:=I.list hq;have Uu:=B.length;refine call_tuple_list pl.isList (λ h' kp=>?_) (by simp_all);have Y:=I.kept (t':=s.toks) kp;have I2 :=
   Y.laid (t':=s.toks) (λ b o e=>ak _ e) (aj _) (show ae4 X.prog X.w _ _ _ (.tp ys)from⟨hz,its,B,l8 _ _⟩)
  exact⟨.ref h'.objs.size,_,I2,rfl,q _ (Y.hok.fresh (aj _))⟩
 .obtain⟨its,B,pl,hz⟩:=I.tuple hq;exact call_tuple_same pl ⟨.ref p,H,I,rfl,q⟩
def tyV (K:ac)(T:String)(x:V)(H:Hp):Prop:=match x with
 | .str _=>T = "str"
 | .int _=>T = "int"
 | .ref p=>(T = "list"/\∃ xs,SqL K H p xs)\/(T = "tuple"/\∃ o,K.lookup p=al o/\o.cls=.type "tuple"/\o.dict=aT) \/
   (T = "dict"/\((∃ kvs,H p=al (.dK kvs))\/∃ kvs,H p=al (.dT kvs)))\/(T = "set"/\∃ S n,H p=al (.set S n))
 | _=>False
def bw5 {W:St}(I:Inv X h W H s)(r:RelV x v)(B:tyV X.K T x H) :
  s.TypeIs v T/\∀ a,v=.ref a->∃ ob,s.heap.get? a=al ob/\ob.dict=none:=by
 cases x with
 | str z =>
  obtain⟨t,rfl⟩:=r;cases(B);exact⟨lH s z t,λ _ e=>nomatch e⟩
 | int i =>
  obtain⟨t,rfl⟩:=r;cases(B);exact⟨typeIs_int s i t,λ _ e=>nomatch e⟩
 | ref p =>
  cases r;rcases B with⟨rfl,J,hq⟩|⟨rfl,o,hk,hc,hd⟩|⟨rfl,hk⟩|⟨rfl,S,n,hk⟩
  .obtain⟨its,_,pl,_⟩:=I.list hq;refine⟨pl.isList.typeIs,λ a e=>?_⟩;cases e;obtain⟨o,n,e,c,hd,_⟩:=pl;exact⟨o,e,hd⟩
  .refine⟨⟨o,I.kIn p o hk,hc⟩,λ a e=>?_⟩;cases e;exact⟨o,I.kIn _ o hk,hd⟩
  .have z:∃ o,s.heap.get? p=al o/\o.ExactDict:=by
    rcases hk with⟨kvs,hk⟩|⟨kvs,hk⟩
    .obtain⟨_,_,_,_,o,_,_,e,ex,_⟩:=I.hok p _ hk;exact⟨o,e,ex⟩
    .obtain⟨_,_,_,_,o,_,_,e,ex,_⟩:=I.hok p _ hk;exact⟨o,e,ex⟩
   obtain⟨o,e,ex⟩:=z;refine⟨⟨o,e,ex.1⟩,λ a e2=>?_⟩;cases e2;exact⟨o,e,ex.2.1⟩
  .obtain⟨o,_,_,_,e,ex,_⟩:=I.hok p _ hk;refine⟨⟨o,e,ex.1⟩,λ a e2=>?_⟩;cases e2;exact⟨o,e,ex.2.1⟩
 | _=>exact bn B
def cs2 (K:ac)(T:String)(r:V->List V->Hp->VK->Prop)(to:TE):TE:=λ W H Q=>to W H λ x H1=>tyV K T x H1/\r x [] H1 Q
def tBM (K:ac)(T:String)(r:V->List V->Hp->VK->Prop)(to:TE)(t:TA):TE:=λ W H Q=>to W H λ x H1=>tyV K T x H1/\t W H1 λ xs H2=>r x xs H2 Q
variable {o e:Expr} {es:yL} {to:TE} {t:TA} {name:Str} {apos cpos:Pos} {T id:String} {r:V->List V->Hp->VK->Prop}
def bQ9 (pa:lI T)(slot:Slot T name id)(Uu:my (.builtin id)=pure (.type "method_descriptor"))(hm:MtR X id r)(ho:PE X o to)
  (B:autoParam (eK o name X.env (eval o X.env)=eval o X.env) Zq4._auto_1) (J:autoParam ((apos.endLine==cpos.line)=bY) Zq4._auto_1):PE X (.Call (.Attribute o name apos) [] [] cpos) (cs2 X.K T r to):=by
 intro z s W H Q I h;refine wpAny_Call_method0_late B J (thn (ho z s W H _ I h) λ v s1 ⟨x,H1,Y,r1,ty,q1⟩=>?_);obtain⟨Z,h2⟩:=bw5 Y r1 ty;exact⟨T,id,pa,slot,Uu,Z,h2,ik rfl (PySem.evalArgs_none (hm z s1 W H1 x [] v [] Q Y r1 .nil q1))⟩
def cm0 (pa:lI T)(slot:Slot T name id)(Z:my (.builtin id)=pure (.type "method_descriptor"))(hm:MtR X id r)(ho:PE X o to)(ha:PA X (e::es) t)
  (Uu:autoParam (eK o name X.env (eval o X.env)=eval o X.env) Zq4._auto_1)
  (Y:autoParam (((cQ cpos (a9 (e::es) X.env)).all (λ x=>!x.1)&&(fh cpos (da [] X.env)).all (λ x=>x.1.isSome)
   && decide ((e::es).length+([]:List fi).length+(if([]:List fi).isEmpty then 0 else 1)<30))=bY) Zq4._auto_1)
  (J:autoParam ((apos.endLine==cpos.line)=bY) Zq4._auto_1) (hs:autoParam (a9 (e::es) X.env=(ce,eval e X.env)::a9 es X.env) Zq4._auto_1) (B:autoParam ((cQ cpos (a9 es X.env)).any (·.1)=ce) Zq4._auto_1) :
  PE X (.Call (.Attribute o name apos) (e::es) [] cpos) (tBM X.K T r to t):=by
 intro z s W H Q I h;refine wpAny_Call_method_late Uu Y J rfl (thn (ho z s W H _ I h) λ v s1 ⟨x,H1,I1,r1,ty,q1⟩=>?_);obtain⟨h1,h2⟩:=bw5 I1 r1 ty;refine⟨T,id,pa,slot,Z,h1,h2,?_⟩;have hA:=ha cpos z s1 W H1 _ I1 q1;rw[hs]at hA ⊢;refine ik (by show(ce||(cQ cpos (a9 es X.env)).any (·.1))=ce;rw[B]<;>rfl) (iV ?_);exact thn hA λ us s2 ⟨vs,H2,I2,r2,q2⟩=>hm z s2 W H2 x vs v us Q I2 r1 r2 q2
end
def MtM (X:Cx)(id:String)(r:V->List V->Hp->VK->Prop):Prop :=
 ∀ pins   s  (W:St)  H   x   xs   v  (us:yH)  Q ,Inv X pins W H s->RelV x v->Vals xs us->r x xs H Q ->
  wpAny (model X.prog X.w) X.A (call (.builtin id) (v::us)) (EP X pins W Q) X.xe s
def Vals.one:∀ {x} {us:yH},Vals [x] us->∃ u,us=[u]/\RelV x u
 | _,_,.cons r .nil=>⟨_,rfl,r⟩
def Vals.zero:∀ {us:yH},Vals [] us->us=[]
 | _,.nil=>rfl
theorem Vals.rep {us:yH}(h:Vals z us):∀ k:Nat,Vals (aA k z).flatten (aA k us).flatten
 | 0=>.nil
 | k+1=>by
  rw[jS,jS,gC,gC];exact Vals.append h (Vals.rep h k)
section
variable {X:Cx} {pins:yA} {W:St} {H:Hp} {s:af} {l b:Addr} {xs ys zs:List V}
def Inv.lset {its its':yH}(I:Inv X pins W H s)(h:H l=al (.J xs))
  (e:s.heap.get? l=al { cls:=.type "list",data:=.seq its.toArray n }) (z:f its.toArray=its'.toArray) (hv:Vals ys its') (hz:ys.length<=a7) :
  Inv X pins W (upd H l (.J ys)) { s with heap:=s.heap.update l (ii f),toks:=t' }:=by
 have q:=PySem.IsL.update e f;rw[z]at q;refine I.write (by rw[h];exact trivial) (.inl rfl) (λ B u hb hu=>(cy s.heap (ii f) (bH hb)).trans hu) ⟨_,q⟩ ?_;exact⟨hz,its',_,hv,q⟩
def Inv.lnew {its:yH}(I:Inv X pins W H s)(hv:Vals ys its)(hz:ys.length<=a7) :
  Inv X pins W (upd H s.heap.objs.size (.J ys)) { s with heap:=s.heap.push { cls:=.type "list",data:=.seq its.toArray },toks:=t' } :=
 I.laid (λ _ _ q=>ak _ q) (aj _) ⟨hz,its,0,hv,aX _ rfl⟩
theorem Inv.fresh (I:Inv X pins W H s):H s.heap.objs.size=none:=I.hok.fresh (aj _)
def Inv.lstM (I:Inv X pins W H s)(h:H l=al (.J xs)):xs.length<=a7/\∃(its:yH) (n:Nat),Vals xs its/\xs.length=its.length/\s.heap.get? l=al { cls:=.type "list",data:=.seq its.toArray n }:=by
 obtain⟨z,its,n,r,e⟩:=I.hok l _ h;exact⟨z,its,n,r,r.length,e⟩
end
section
variable {X:Cx}
def bC5:V->List V->Hp->VK->Prop:=λ x vs H Q=>∃ l xs y,x=.ref l/\vs=[y]/\H l=al (.J xs)/\xs.length<a7/\Q .N (upd H l (.J (xs++[y])))
def aB9:MtM X "list.append" bC5:=by
 intro B s W H x vs v us Q I Z Uu h;refine wl λ _ ua=>?_;obtain⟨l,xs,y,rfl,rfl,J,hz,q⟩:=h;cases Z;obtain⟨u,rfl,Y⟩:=Uu.one;obtain⟨z,its,n,r,hl,e⟩:=I.lstM J;refine ua ?_;refine call_meets iE ⟨_,e,rfl⟩ F.entry_list_append (F.args_list_append_2 _ _) (PySem.list_append l its.toArray n u (by simp_all)) ⟨e,?_⟩;refine⟨.N,_,I.lset J e (by simp) (r.append (.cons Y .nil)) ?_,rfl,q⟩
 grind
def ct5:R2:=λ x y H Q=>∃ l b xs zs,x=.ref l/\y=.ref b/\H l=al (.J xs)/\H b=al (.J zs)/\xs.length+zs.length<=a7/\∀ p,H p=aT->Q (.ref p) (upd H p (.J (xs++zs)))
def bS7:OpR X (eJ .Add) ct5:=by
 intro J s W H x y v u Q I rx ry h;refine wl λ _ ua=>?_;obtain⟨l,b,xs,zs,rfl,rfl,Y,hB,hz,q⟩:=h;cases rx;cases ry;obtain⟨z,its,n,r,hl,e⟩:=I.lstM Y;obtain⟨z2,B,n2,Z,a0,e2⟩:=I.lstM hB;refine ua ?_;refine PySem.P.add_list e e2 ?_ (by simp_all);have Uu:its.toArray++B.toArray=(its++B).toArray:=by simp
 rw[Uu];exact⟨.ref _,_,I.lnew (r.append Z) (by simp_all),rfl,q _ I.fresh⟩
end
section
variable {prog:aF} {w:World} {A:aV} {E:yB} {s:af}
end
section
variable {X:Cx}
end
end L2
end
noncomputable section
namespace Att
open PySem PySem.W PySem.Calls PyProof.Rows
def ints_of_wellAll :∀ ns  (vs:yH),WellAll P h vs (ns.map WData.int)->lA vs ns:=by
 intro ns
 induction ns with
 | nil =>
  intro vs w;rw[fk]at w;cases w;exact .nil
 | cons n ns ih =>
  intro vs w;rw[aR]at w;cases w with
  | cons a b =>
   cases a;exact .cons _ _ (ih _ b)
def script_of {l:OpenLaw}(hn:l.most=al n){B:yH}
  (z:l.row.toRowW.claim.pre args=bY) (Z:WellAll P h B args) :
  ∃ a vs ns,B=[Value.ref a]/\args=[WData.list (ns.map WData.int)]/\h.get? a=al { cls:=.type "list",data:=.seq vs.toArray }/\lA vs ns/\ns.length<=n:=by
 have a0:=(pre_splitW z).1;have hc:l.pre.holds [] { args:=args }=true:=(pre_splitW z).2;obtain⟨d,r,rfl,h1,h2⟩:=hasAllW_cons a0;obtain rfl:=hasAllW_nil h2;obtain⟨xs,rfl,h3⟩:=hasW_list h1;obtain⟨ns,rfl⟩:=items_int h3;have J:ns.length<=n:=by
  unfold OpenLaw.pre at hc;have Y:=by
   have Y:=(holds_andW hc).1;rw[hn]at Y;exact Y
  have Uu:=condW_of Y (w_not (w_lt w_lit (w_len_list (w_arg rfl))));rw[aw]at Uu;refine kU λ q=>?_;have q':=by omega
  first
   | (rw[ij q']at Uu;exact iS Uu (by decide))
   | (simp at Uu;omega)
 cases Z with
 | cons w1 w2 =>
  cases w2;cases w1 with
  | list ho hall=>exact⟨_,_,ns,rfl,rfl,ho,ints_of_wellAll ns _ hall,J⟩
def post_true (l:OpenLaw) args :l.row.toRowW.claim.post args (.bool bY) args=true :=
 postW_of 
  (show WShape.has [] (.bool bY) .bool=bY by first|rfl|decide|simp[WShape.armsAll])
  (w_eq_bool (w_res rfl) w_lit) rfl
def attach_call {l:OpenLaw}{loose:yI}
  (hn:l.most=al n) (a0:d.params.defaults=[])
  (call:∀(w:World) (s₀ h:af) (mg mb:yD) (fa:Addr) (o:Obj) (pm cd z:Value) (a:Addr) (vs:yH) (ns:List Int),
   Ground q loose [] XP w s₀ mg mb h.heap->YP w h.heap ->
   h.heap.get? fa=al o->o.data=.func (docDef d.name d.params d.body d.scope pm cd z)->h.heap.CodeRec cd d.name->mg d.name=al (.ref fa) ->
   h.heap.get? a=al { cls:=.type "list",data:=.seq vs.toArray }->lA vs ns->ns.length<=n->h.gens=#[] ->
   fF (model l.prog w) i9 (.call (.ref fa) ⟨[.ref a],[]⟩) (λ r s'=>r=.ok (.ret (.bool bY))/\OldK h.heap s'.heap/\s'.os=h.os/\fY s'.gens) h) :
  WalkO q loose XP YP l.row.toRowW d [] (λ f vs=>lC f vs):=by
 intro w s₀ h mg mb G Y fa o pm cd z dV kV ho hd a3 hD a2 hg args a4 as J a5 a6 a1 a8;obtain rfl:dV=.none:=Dflts.none hD a0;obtain rfl:kV=.none:=Dflts.noKw hD;obtain⟨a,vs,ns,rfl,rfl,Z,B,Uu⟩:=script_of hn J a1;refine enter_call (fg (call w s₀ h mg mb fa o pm cd z a vs ns G Y ho (fd_plain hd) a3 a2 Z B Uu hg) λ r s' hq=>?_);obtain⟨rfl,h2,h3,h4⟩:=hq;exact⟨.inl ⟨.bool bY,.bool bY,[],rfl,λ _=>rfl,.bool bY,post_true l _,λ _=>⟨List.Pairwise.nil,λ _ hm=>(nomatch hm)⟩⟩,h2,h3,h4⟩
section
variable {prog:aF} {w:World} {A:aV} {E:yB} {s:af} {K:Frag}
end
end Att
noncomputable section
namespace L2
open PySem PySem.Spec PyProof.Rows
theorem aB5:∀ {vs:yH} {ns},lA vs ns->Vals (ns.map V.int) vs
 | _,_,.nil=>.nil
 | _,_,.cons n t h=>.cons ⟨t,rfl⟩ (aB5 h)
noncomputable def defArgs (s:Stmt):bD:=match s with
 | .FunctionDef _ a _ _ _ _ _ _ _ _=>a
 | _=>{ posonlyargs:=[],args:=[],vararg:=aT,kwonlyargs:=[],kw_defaults:=[],kwarg:=aT,defaults:=[] }
noncomputable def defBody (s:Stmt):List Stmt:=match s with
 | .FunctionDef _ _ b _ _ _ _ _ _ _=>b
 | _=>[]
noncomputable def defScope (s:Stmt):Scope:=match s with
 | .FunctionDef _ _ _ _ _ _ sc _ _ _=>sc
 | _=>{ kind:=.function,names:=[],isGenerator:=ce,isCoroutine:=ce }
noncomputable abbrev CX0:CXT:=λ _ _ _ _ _ _=>False
abbrev E0:XK:=λ _ _ _=>False
def aR3 :qo CX0 X E0:=λ _ _ _ _ _ _ _ h=>h.elim
structure Fun (K:ac)(x qual:Str)(st:Stmt)(f:Addr)(fd:bK):Prop where
 ex:∃(oc:Value) (od:yJ) (kV doc pm:Value) (an:yJ) (cdv ct:Value) (osl:yF),
  fd=cR x qual (defArgs st) (defBody st) (defScope st) .none kV doc pm an cdv ct/\K.lookup f=al ⟨oc,od,.func fd,osl⟩/\fj K cdv qual=bY
 kp:bJ K (.ref f)=bY
section
variable {P:aF} {w:World} {K:ac} {mg:yD} {base:Heap}
def Fun.ok {st}(F:Fun K x qual st f Z)(S:FnScope N ps (defScope st))(len:∀ vs H Q E,sp vs H Q E->vs.length=ps.length)
  (J:∀(B:Value) (A:aV) (z:List Env) (s:af) (H:Hp) (vs:List V) (Q:VK) (E:XK),Room k (A.deeper (fQ qual (defScope st) s.heap.objs.size f B))->sp vs H Q E ->
   ∃ t,PSs (as8 CX0 P w K mg base N qual (defScope st) f B A z s H E).nox (defBody st) t/\t { nx:=λ _ H'=>Q .N H',rt:=Q } (ai7 N vs) H):FnOk P w K mg base CX0 (k+1) f Z ps sp:=by
 obtain⟨oc,od,kV,a1,pm,an,B,ct,a0,rfl,lk,Uu⟩:=F.ex;refine bM6 lk Uu S len λ A z s H vs Q E hr Y=>?_;obtain⟨t,h,q⟩:=J B A z s H vs Q E hr Y;exact⟨t,h.nox,q⟩
def Fun.binds {st}(F:Fun K x qual st f Y)
  (h:∀(kV z J:Value) (Uu:yJ) (B ct:Value) (us:yH),us.length=ps.length->eM (cR x qual (defArgs st) (defBody st) (defScope st) .none kV z J Uu B ct) ⟨us,[]⟩=pure (ps.zip us)):Binds K Y ps []:=by
 obtain⟨oc,od,kV,z,J,Uu,B,ct,Z,rfl,lk,a0⟩:=F.ex;exact .all (h kV z J Uu B ct)
def aP5 {st}{od Uu:yJ}{B:yF}{kV    }(l:K.lookup f=al ⟨oc,od,.func (cR x qual (defArgs st) (defBody st) (defScope st) .none kV z J Uu h ct),B⟩)
  (c:fj K h qual=bY) (k:bJ K (.ref f)=bY):Fun K x qual st f (cR x qual (defArgs st) (defBody st) (defScope st) .none kV z J Uu h ct):=⟨⟨oc,od,kV,z,J,Uu,h,ct,B,rfl,l,c⟩,k⟩
end
section
variable {X:Cx}
def pv  i {pos}(hN:autoParam (X.N[i]?=al x) Zq4._auto_1)(hv:autoParam (Vis X.env.scope x) Zq5._auto_1)(hd:autoParam ((x==("__debug__":Str))=ce) Zq1._auto_1)
  (h:autoParam ((x==("__classdict__":Str))=ce) Zq1._auto_1):PE X (.Name x pos) (bx0 i):=bi0 hN hv hd h
end
def ct6 { B:Prop}(h:B):if ce=bY then A else B:=by
 simp_all
def iteT { B:Prop}(h:A):if bY=bY then A else B:=by
 simp_all
def ag5 (H H':Hp):Prop:=∀ b o,H b=al o->H' b=al o
def ag5.refl  H :ag5 H H:=λ _ _ h=>h
def ag5.trans (a:ag5 H z)(b:ag5 z H2):ag5 H H2:=λ c o h=>b c o (a c o h)
def bk7 {Uu:yL}(I:Nat->af->Prop)
  (turn:∀ n s,I n s->wpAny (model prog w) A (kQ it) (λ r s₁=>match r with
   | none=>R (.ok .next) s₁
   | some v=>wpAny (model prog w) A (fO z it v) (λ _ Y=>wpAny (model prog w) A (hJ z env v) (λ _ s₂ =>
     wpAny (model prog w) A (forIn Uu bY λ c r=>if r=bY then do let ok <- gN c env (eval c env);pure (ForInStep.yield ok)else pure (ForInStep.yield r)) (λ ok Z =>
      if ok=bY then wpAny (model prog w) A (eval B env) (λ x s₄ =>
       wpAny (model prog w) A (call (.builtin "list.append") [J,x]) (λ _ s₅=>∃ m,m<n/\I m s₅) (kE (model prog w) A env λ e s'=>R (.error e) s') s₄) (kE (model prog w) A env λ e s'=>R (.error e) s') Z
      else ∃ m,m<n/\I m Z) (kE (model prog w) A env λ e s'=>R (.error e) s') s₂) (kE (model prog w) A env λ e s'=>R (.error e) s') Y) (kE (model prog w) A env λ e s'=>R (.error e) s') s₁) (kE (model prog w) A env λ e s'=>R (.error e) s') s)
   n  (h:I n s) :
  fF (model prog w) A (.compLoop (.ListComp B [⟨z,iter,Uu,0⟩] scope pos) 0 it J env) R s:=by
 refine codeAny_loop rfl I (λ n s hI=>?_) n h
 skip
 refine wpAny_noted ?_;rw[compTurn_list];refine ai (jX (ai (bF (turn n s hI) (λ r s₁ h₁=>?_) λ _ _ h'=>h')));cases r with
 | none=>exact aG h₁
 | some v =>
  refine ai (bF h₁ (λ _ Y a0=>?_) λ _ _ h'=>h');refine ai (bF a0 (λ _ s₂ h₂=>ai (bF h₂ (λ ok Z h₃=>?_) λ _ _ h'=>h')) λ _ _ h'=>h');cases ok with
  | false=>exact aG ⟨rfl,h₃⟩
  | true =>
   exact ai (ai (bF h₃ (λ x s₄ h₄=>ai (bF h₄ (λ _ s₅ h₅=>aG (aG ⟨rfl,h₅⟩)) λ _ _ h'=>h')) λ _ _ h'=>h'))
noncomputable def af6 (cells:yC):List (Str×cu)->List (Str×Addr)->List (Str×Addr)
 | [],acc=>acc
 | (n,k)::r,acc=>af6 cells r (if k==.free then(match cells.lookup n with|some c=>(n,c)::acc|none=>acc)else acc)
theorem aj0 :∀ names   z ,(∀ y∈names,y.2=.free->∃ c,env.cells.lookup y.1=al c) ->
  (forIn names z λ(x) (cs:yC)=>(if x.2==.free then do let c <- cellOf env x.1;pure (ForInStep.yield ((x.1,c)::cs))else pure (ForInStep.yield cs):Sem (ForInStep (List (Str×Addr)))))=pure (af6 env.cells names z)
 | [],z,_=>by rw[iW];rfl
 | (n,k)::r,z,h=>by
  have B:=λ a=>aj0 r a λ y hy=>h y (ah _ hy);rw[lr];unfold af6;cases e:(k==NameKind.free)with
  | false =>
   simp only[if_false];exact B z
  | true =>
   have hk:=by simpa using e
   obtain⟨c,hc⟩:=h (n,k) ar hk;have e1:cellOf env n=pure c:=by unfold cellOf;rw[hc]
   simp only[e1,hc];exact B _
def qh (h:∀ y∈scope.names,y.2=.free->∃ c,env.cells.lookup y.1=al c):closureFor scope env=pure (af6 env.cells scope.names []):=by
 have:=aj0 scope.names [] h;show(forIn scope.names [] (λ(x) (cs)=>(if x.2==.free then do let c <- cellOf env x.1;pure (ForInStep.yield ((x.1,c)::cs))else pure (ForInStep.yield cs):Sem (ForInStep (List (Str×Addr))))) >>= λ cs=>pure cs)=_;rw[this];rfl
theorem clOf_mem :∀ {names} {B:yC},(n,c)∈af6 cells names B->cells.lookup n=al c\/(n,c)∈B
 | [],_,h=>.inr h
 | (m,k)::r,B,h=>by
  unfold af6 at h;rcases clOf_mem h with z|z
  all_goals grind
theorem aN0 (hc:cells.lookup n=al c):∀ {names} {z:yC},((n,NameKind.free)∈names\/(n,c)∈z)->(n,c)∈af6 cells names z
 | [],_,h=>by rcases h with h|h;(exact iS h (by simp));exact h
 | (m,k)::r,z,h=>by
  unfold af6;refine aN0 hc ?_;rcases h with h|h
  .rcases aB.mp h with e|h
   .cases e
    right
    simp[hc]
   .exact .inl h
  .right
   cases e:(k==NameKind.free)with
   | false=>simpa using h
   | true =>
    simp only[];cases q:cells.lookup m with
    | none=>exact h
    | some d=>exact ah _ h
theorem ai0 {α:Type}{c}:∀ {l:List (Str×α)},(n,c)∈l->(∀ d,(n,d)∈l->d=c)->l.lookup n=al c
 | (m,d)::r,h,u=>by
  rw[bh];cases e:n==m with
  | true =>
   simp_all
  | false =>
   rcases aB.mp h with z|z
   .lia
   .exact ai0 z λ d' h'=>u d' (ah _ h')
def qk (hc:cells.lookup n=al c)(h:(n,NameKind.free)∈names):(af6 cells names []).lookup n=al c:=by
 refine ai0 (aN0 hc (.inl h)) λ d hd=>?_;rcases clOf_mem hd with z|z
 all_goals simp_all
theorem zn:∀ names   n  (h:yC),aW n names h=aW n names []++h
 | [],_,h=>by simp[aW]
 | (x,k)::r,n,h=>by
  unfold aW;split
  .rw[zn r (n+1) ((x,n)::h),zn r (n+1) [(x,n)]];simp
  .exact zn r n h
set_option tactic.hygienic true in
theorem zB:∀ {names} {n} {B:yC} {x} {c},(x,c)∈aW n names B->(x,NameKind.cell)∈names\/(x,c)∈B
 | [],_,_,_,_,h=>.inr h
 | (y,k)::r,n,B,x,c,h=>by
  unfold aW at h;split at h
  .rename_i hk;rcases zB h with z|z
   all_goals grind
  .rcases zB h with z|z
   all_goals simp_all
def zK {α:Type} x :∀(l r:List (Str×α)),(l++r).lookup x=(l.lookup x).or (r.lookup x)
 | [],r=>by simp
 | (y,v)::l,r=>by
  grind
noncomputable def qa (N':yI)(src:yE)(scope:Scope)(XN:yI)(xs:Scope):Bool :=
 (scope.kind==.function) &&
 (scope.names.all λ y=>!(y.2==.free)||(xs.names.lookup y.1==al .cell||xs.names.lookup y.1==al .free)) &&
 (scope.names.all λ y=>!(y.2==.local)||scope.names.lookup y.1==al .local) &&
 (scope.names.all λ y=>!(y.2==.cell)||(scope.names.all λ z=>!(z.1==y.1)||z.2==.cell)) &&
 (src.length==N'.length) &&
 ((N'.zip src).all λ y=>match y.2 with|none=>bY|some j=>XN[j]?==al y.1&&scope.names.lookup y.1==al .free)
structure CompCk (N':yI)(src:yE)(scope:Scope)(XN:yI)(xs:Scope):Prop where
 kind:scope.kind=.function
 fr:∀ y∈scope.names,y.2=.free->xs.names.lookup y.1=al .cell\/xs.names.lookup y.1=al .free
 loc:∀ y∈scope.names,y.2=.local->scope.names.lookup y.1=al .local
 cel:∀ y∈scope.names,y.2=.cell->∀ z∈scope.names,z.1=y.1->z.2=.cell
 len:src.length=N'.length
 sr:∀(i j:Nat) (x:Str),src[i]?=al (al j)->N'[i]?=al x->XN[j]?=al x/\scope.names.lookup x=al .free
def bA5 (h:qa B src scope J Uu=bY):CompCk B src scope J Uu:=by
 unfold qa at h;simp only[ae]at h;obtain⟨⟨⟨⟨⟨Y,h2⟩,h3⟩,h4⟩,h5⟩,h6⟩:=h;refine⟨by simpa using Y,λ y hy e=>?_,λ y hy e=>?_,λ y hy e z hz Z=>?_,by simpa using h5,λ i j x e1 e2=>?_⟩
 .have:=aI.mp h2 y hy;simpa [e]using this
 .have:=aI.mp h3 y hy;simpa [e]using this
 .have:=aI.mp h4 y hy;simp only[e,lX]at this;have:=aI.mp this z hz;simpa [Z]using this
 .have hm:(x,al j)∈B.zip src:=by
   refine aE (i:=i) ?_;rw[List.getElem?_zip_eq_some];exact⟨e2,e1⟩
  have:=aI.mp h6 _ hm;simpa using this
noncomputable abbrev zP (X:Cx)(N':yI)(scope:Scope)(Cc:Addr)(cells:yC)(s:af)(H:Hp)(ex:List Addr):Cx where
 prog:=X.prog
 w:=X.w
 K:=X.K
 mg:=X.mg
 base:=X.base
 A:=X.A
 N:=N'
 s₀:=s
 H₀:=H
 env:={ scope:=fG scope X.env,locals:=Cc,globals:=X.env.globals,cells:=cells,qual:=X.env.qual,func:=aT,code:=X.env.code,frame:=X.env.frame,builtins:=X.env.builtins }
 outer:=X.stack
 stack:=X.stack
 ex:=ex
 fn:=λ x=>scope.names.lookup x==al .cell
 calm:=X.calm
 pn:=[]
 xe:=λ _ _=>False
def PIf (X:Cx)(ifs:yL)(t:TT):Prop :=
 ∀ pins   s  (W:St)  H   Q ,Inv X pins W H s->t W H Q ->
  wpAny (model X.prog X.w) X.A (forIn ifs bY λ c r=>if r=bY then do let ok <- gN c X.env (eval c X.env);pure (ForInStep.yield ok)else pure (ForInStep.yield r)) (TP X pins W Q) X.xe s
def cs9:TT:=λ _ H Q=>Q bY H
def bL8 :PIf X [] cs9:=λ _ _ _ H _ I h=>wpAny_tests_nil ⟨H,I,h⟩
def bJ0 (h:PT X c t):PIf X [c] t:=λ z s W H Q I hw=>wpAny_tests_one (h z s W H Q I hw)
noncomputable def aC4 (src:yE)(W:St):St:=src.map λ o=>match o with|none=>aT|some j=>(W[j]?).join
def tComp (src:yE)(wi:TI)(g:TG)(tc:TT)(te:TE):TE:=λ W H Q=>wi W H λ J H1=>∀ D,H1 D=aT ->
 ∃ Ww:Nat->Nat->St->Hp->Prop,(∃ m,Ww 0 m (aC4 src W) (upd H1 D (.J [])))/\∀ i m W' H',Ww i m W' H' ->
  (J.stop i H'/\Q (.ref D) H')\/(J.go i H'/\∃ N:St->Hp->Prop,(∀ W2 H2,N W2 H2->∃ m',m'<m/\Ww (i+1) m' W2 H2) /\
   ∀ x H2,J.yld i H' x H2->g x W' H2 λ W3 H3=>tc W3 H3 λ b H4=>if b=bY then te W3 H4 λ v H5=>∃ ys,H5 D=al (.J ys)/\ys.length<a7/\N W3 (upd H5 D (.J (ys++[v])))else N W3 H4)
theorem qz {env:Env}:∀ {names:List (Str×cu)} {x:Str} {k:cu},names.lookup x=al k ->
  (names.map λ(n,k)=>if(k==NameKind.free&&env.scope.kind==.function&&env.kindOf n==al .cell)then(n,NameKind.cell)else(n,k)).lookup x =
   al (if(k==NameKind.free&&env.scope.kind==.function&&env.kindOf x==al .cell)then NameKind.cell else k)
 | [],_,_,h=>by simp at h
 | (n,k)::r,x,k',h=>by
  have z:=@qz env r x k';show dB x ((if(k==NameKind.free&&env.scope.kind==.function&&env.kindOf n==al .cell)=bY then(n,NameKind.cell)else(n,k))::_)=_;cases hx:x==n with
  | true =>
   have e:=beq_iff_eq.mp hx;subst e;simp only[bh,hx]at h;cases h;by_cases hc:(k==NameKind.free&&env.scope.kind==.function&&env.kindOf x==al .cell)=bY
   .rw[ef hc,ef hc];simp only[bh,hx]
   .rw[gc hc,gc hc];simp only[bh,hx]
  | false =>
   simp only[bh,hx]at h;by_cases hc:(k==NameKind.free&&env.scope.kind==.function&&env.kindOf n==al .cell)=bY
   .rw[ef hc];simp only[bh,hx];exact z h
   .rw[gc hc];simp only[bh,hx];exact z h
theorem qp {env:Env}:∀ {names:List (Str×cu)} {x},names.lookup x=aT ->
  (names.map λ(n,k)=>if(k==NameKind.free&&env.scope.kind==.function&&env.kindOf n==al .cell)then(n,NameKind.cell)else(n,k)).lookup x=aT
 | [],_,_=>rfl
 | (n,k)::r,x,h=>by
  have z:=@qp env r x;show dB x ((if(k==NameKind.free&&env.scope.kind==.function&&env.kindOf n==al .cell)=bY then(n,NameKind.cell)else(n,k))::_)=_;cases hx:x==n with
  | true=>simp only[bh,hx]at h;cases h
  | false =>
   simp only[bh,hx]at h;by_cases hc:(k==NameKind.free&&env.scope.kind==.function&&env.kindOf n==al .cell)=bY
   .rw[ef hc];simp only[bh,hx];exact z h
   .rw[gc hc];simp only[bh,hx];exact z h
def au4 {W:St}{fp:List Addr}
  (Uu:CompCk N' src scope X.N X.env.scope) (I:Inv X a5 W H s) (hf:∀ b∈fp,FpOk X a5 H b) (b1:∀ b∈fp,b<s.heap.objs.size)
  (e4:∃ tk,s4={ s with heap:=fC (s.heap.push { cls:=.type "dict",data:=.dict #[] }) scope.names,toks:=tk }) :
  Inv (zP X N' scope s.heap.objs.size (aW (s.heap.objs.size+1) scope.names (af6 X.env.cells scope.names [])) s H fp) [] (aC4 src W) H s4:=by
 obtain⟨tk,rfl⟩:=e4;have hk:∀ b o,s.heap.get? b=al o->(fC (s.heap.push { cls:=.type "dict",data:=.dict #[] }) scope.names).get? b=al o:=λ b o e=>dJ _ _ b o (ak _ e);have ok:=cellsFrom_ok scope.names (s.heap.push { cls:=.type "dict",data:=.dict #[] }) (s.heap.objs.size+1) [] ⟨λ _ _ hm=>(nomatch hm),List.Pairwise.nil⟩ (by simp_all);rw[cj]at ok;have Z:=zn scope.names (s.heap.objs.size+1) (af6 X.env.cells scope.names []);have lk:∀ x c,(aW (s.heap.objs.size+1) scope.names (af6 X.env.cells scope.names [])).lookup x=al c ->
   ((x,c)∈aW (s.heap.objs.size+1) scope.names []/\(x,NameKind.cell)∈scope.names)\/(X.env.cells.lookup x=al c/\(aW (s.heap.objs.size+1) scope.names []).lookup x=aT):=λ x c e=>by
  rw[Z,zK]at e;cases q:(aW (s.heap.objs.size+1) scope.names []).lookup x with
  | some d =>
   rw[q]at e;have e':d=c:=av e;subst e';have hm:=aK q;refine .inl ⟨hm,?_⟩;rcases zB hm with z|z
   all_goals simp_all
  | none =>
   rw[q]at e;have e':(af6 X.env.cells scope.names []).lookup x=al c:=e;rcases clOf_mem (aK e')with z|z
   all_goals simp_all
 have up:∀ x c,(x,c)∈aW (s.heap.objs.size+1) scope.names []->s.heap.objs.size+1<=c:=λ x c h=>(ok.empty x c h).2;have b0:∀ x c,X.env.cells.lookup x=al c->c<s.heap.objs.size:=λ x c h=>by
  obtain⟨v,q⟩:=I.cell x c h;exact q.lt
 have a4:∀ b,b<s.heap.objs.size->b≠s.heap.objs.size:=λ b h=>aH h;have b2:∀ b∈fp,H b=aT/\b≠X.env.locals/\b ∉ X.fs:=λ b hb=>⟨(hf b hb).1,(hf b hb).2.1,(hf b hb).2.2.1⟩
 have b5:(fC (s.heap.push { cls:=.type "dict",data:=.dict #[] }) scope.names).Ns s.heap.objs.size (λ _=>aT):=(mR s.heap (.type "dict")).keeps (dJ _ _);have a0:∀ x k,scope.names.lookup x=al k->(fG scope X.env).names.lookup x=al (if(k==NameKind.free&&X.env.scope.kind==.function&&X.env.kindOf x==al .cell)then NameKind.cell else k):=λ x k e=>qz (env:=X.env) e;have a3:∀ x,scope.names.lookup x=aT->(fG scope X.env).names.lookup x=none:=λ x e=>qp (env:=X.env) e;have a8:∀ x c,(x,NameKind.free)∈scope.names->X.env.cells.lookup x=al c->(aW (s.heap.objs.size+1) scope.names (af6 X.env.cells scope.names [])).lookup x=al c:=λ x c hx hc=>by
  rw[Z,zK];cases q:(aW (s.heap.objs.size+1) scope.names []).lookup x with
  | some d =>
   rcases zB (aK q)with z|z
   .have:=Uu.cel _ z rfl _ hx rfl;cases this
   simp_all
  | none=>exact qk hc hx
 have a6:∀ x,(x,NameKind.free)∈scope.names->∃ c,X.env.cells.lookup x=al c:=λ x hx=>I.ok.has x (Uu.fr _ hx rfl);refine⟨⟨I.ok.mod,Uu.kind,I.ok.glob,I.ok.blt,aj _,λ x y c e1 e2=>?_,λ x hx=>?_,λ x c hx e=>?_,I.ok.hd,I.ok.frames,.inl rfl,λ b hb=>⟨a4 b (b1 b hb),λ x c e z=>?_⟩,I.bs,aq I.ok.bsz I.sz,λ b o e hb=>?_,λ b hb z=>?_,I.stack,I.stkFree⟩,
  rfl,I.bare,Un.kept hk,⟨_,b5,λ i x v e1 e2 e3=>?_⟩,λ x c e=>?_,I.hok.fresh (aj _),λ x c e=>?_,λ p hp=>iS (show p∈([]:yA)from hp) (by simp),I.hok.kept hk,by unfold aC4;rw[aw];exact Uu.len⟩
 .rcases lk x c e1 with⟨a1,_⟩|⟨a1,_⟩<;>rcases lk y c e2 with⟨a2,_⟩|⟨a2,_⟩
  .exact ic ok.apart a1 a2
  .exact iS (az (b0 _ _ a2) (gD (up _ _ a1))) (bP _)
  .exact iS (az (b0 _ _ a1) (gD (up _ _ a2))) (bP _)
  .exact I.ok.inj x y c a1 a2
 .cases q:scope.names.lookup x with
  | none =>
   have J:(fG scope X.env).names.lookup x=al .cell\/(fG scope X.env).names.lookup x=al .free:=hx;rw[a3 x q]at J;rcases J with z|z<;>cases z
  | some k =>
   have J:(fG scope X.env).names.lookup x=al .cell\/(fG scope X.env).names.lookup x=al .free:=hx;rw[a0 x k q]at J;cases k with
   | free =>
    obtain⟨c,hc⟩:=a6 x (aK q);exact⟨c,a8 x c (aK q) hc⟩
   | cell =>
    obtain⟨c,hc⟩:=z0 (n:=s.heap.objs.size+1) q;exact⟨c,by show(aW _ _ _).lookup x=_;rw[Z,zK,hc];rfl⟩
   | _=>simp_all
 .have J:(scope.names.lookup x==al .cell)=true:=hx;have q:scope.names.lookup x=al .cell:=by simpa using J
  rcases lk x c e with⟨a,_⟩|⟨a,b⟩
  .have:=up _ _ a;show s.heap.objs.size<=c;lia
  .obtain⟨d,hd⟩:=z0 (n:=s.heap.objs.size+1) q;rw[hd]at b;cases b
 .subst z;rcases lk x c e with⟨a,_⟩|⟨a,_⟩
  .exact iS (az (b1 c hb) (gD (up _ _ a))) (bP _)
  .exact(hf c hb).2.2.2.2.1 x c a rfl
 .rcases(hf b hb).2.2.2.1 with z|z
  .exact I.ok.noex b o e z
  .exact iS (az (aN e) (aq I.ok.bsz z)) (bP _)
 .rcases aB.mp (I.stkSub b z)with y|y
  .exact(b2 b hb).2.1 y
  .exact(b2 b hb).2.2 y
 .have B:(aC4 src W)[i]?=al (al v):=e2;unfold aC4 at B;rw[aL]at B;cases q:src[i]? with
  | none=>simp_all
  | some o =>
   rw[q]at B;cases o with
   | none=>cases B
   | some j =>
    have Y:(W[j]?).join=al v:=av B;have ej:W[j]?=al (al v):=by
     cases q2:W[j]? with
     | none=>rw[q2]at Y;cases Y
     | some o2=>rw[q2]at Y;exact congrArg al Y
    refine wl λ _ ua=>?_;obtain⟨h1,h2⟩:=Uu.sr i j x q e1;have hm:=aK h2;obtain⟨mX,b6,b4⟩:=I.loc;have b3:Vis X.env.scope x:=by
     rcases Uu.fr _ hm rfl with z|z
     .exact .inr (.inl z)
     .exact .inr (.inr z)
    obtain⟨u,ru,look⟩:=b4 j x v h1 ej b3;refine ua ⟨u,ru,.inr ?_⟩;have hcell:∃ c,X.env.cells.lookup x=al c/\s.heap.IsCell c (al u):=by
     rcases look with⟨z,_⟩|⟨_,c,z1,z2⟩
     .have z':X.env.scope.names.lookup x=al .local:=z;rcases Uu.fr _ hm rfl with y|y<;>(simp_all)
     .exact⟨c,z1,z2⟩
    obtain⟨c,c1,c2⟩:=hcell;refine⟨?_,c,a8 x c hm c1,c2.keeps hk⟩;show(fG scope X.env).names.lookup x=al .cell\/(fG scope X.env).names.lookup x=al .free;rw[a0 x _ h2];by_cases hc:(NameKind.free==NameKind.free&&X.env.scope.kind==.function&&X.env.kindOf x==al .cell)=bY
    .rw[ef hc];exact .inl rfl
    .rw[gc hc];exact .inr rfl
 .rcases lk x c e with⟨a,_⟩|⟨a,_⟩
  .exact⟨_,(ok.empty x c a).1⟩
  .obtain⟨v,q⟩:=I.cell x c a;exact⟨v,q.keeps hk⟩
 .rcases lk x c e with⟨a,_⟩|⟨a,_⟩
  .exact I.hok.fresh (by have:=up _ _ a;lia)
  .exact I.freeC x c a
def aQ0 {W W':St}
  (I:Inv X h W H s) (Y:∀ b∈Uu,FpOk X h H b) (J:Inv (zP X N' scope s.heap.objs.size cells s H Uu) [] W' Z s5) (hs:d9 s.heap.objs.size s5.heap h') :
  Inv X h W Z { s5 with heap:=h' }:=by
 have B:∀ b o,s.heap.get? b=al o->b≠s.heap.objs.size:=λ b o e=>aH (aN e);have u:=J.base;refine I.call' J.os ⟨λ b o e n hb hx=>?_,λ b o e n hb hx=>?_,λ b o e n hx=>u.free b o e n hx,λ b o e hx=>?_,u.tups,u.frzs,u.tbls⟩ (λ b o e=>?_) J.bare λ b hb=>⟨(Y b hb).2.2.2.1,(Y b hb).2.1,(Y b hb).2.2.2.2.1,(Y b hb).2.2.2.2.2⟩
 .exact(hs.2 b (B b o e)).trans (u.keep b o e n hb hx)
 .obtain⟨sl,q⟩:=u.slot b o e n hb hx;exact⟨sl,(hs.2 b (B b o e)).trans q⟩
 .obtain⟨o',q⟩:=u.there b o e hx;exact⟨o',(hs.2 b (B b o e)).trans q⟩
 .have fr:=J.free;refine(J.hok b o e).stay (λ c w' hc q=>(hs.2 c ?_).trans q) (λ _ q=>q) λ _ _ q=>q;lia
def ai4 {E:yB}{B:yC}
  (h:Q { scope:=scope,locals:=s.heap.objs.size,globals:=globals,cells:=aW (s.heap.objs.size+1) scope.names B,qual:=qual,func:=aT,code:=z.code,frame:=z.frame,builtins:=z.builtins }
   { s with heap:=fC (s.heap.push { cls:=.type "dict",data:=.dict #[] }) scope.names }) :
  wpAny M A (gj scope globals B [] qual aT .none (al z)) Q E s:=by
 simp only[gj,if_true];refine ai (wpAny_alloc ?_);refine ai (wpAny_layCells _ (λ name kind cells=>by lia) _ _ _ _ ?_);rw[cj ..];refine ai ?_;rw[iW];exact aG (aG h)
def aE4 {Ww:Nat->Nat->St->Hp->Prop}
  {QD:Hp->Prop} {W0:St} (hx:X'.xe=λ _ _=>False) (B:X'.calm=bY) (I4:Inv X' [] W0 H0 s4) (T:Turn X'.prog X'.w X'.K tg J Z it tn) (b1:tn 0 s4.heap)
  (Uu:∀ H':Hp,(∀ b∈Z,H' b=aT)->∀ b∈Z,FpOk X' [] H' b) (a8:∀ b∈Z,H0 b=aT) (w0:Ww 0 m0 W0 H0)
  (turn:∀ i m W' H',Ww i m W' H'->(J.stop i H'/\QD H')\/(J.go i H'/\∃ N:St->Hp->Prop,(∀ W2 H2,N W2 H2->∃ m',m'<m/\Ww (i+1) m' W2 H2) /\
   ∀ x H2,J.yld i H' x H2->g x W' H2 λ W3 Y=>tc W3 Y λ b H4=>if b=bY then te W3 H4 λ v H5=>∃ ys,H5 D=al (.J ys)/\ys.length<a7/\N W3 (upd H5 D (.J (ys++[v])))else N W3 H4))
  (hg:PG X' tg g) (a6:PIf X' a2 tc) (he:PE X' a1 te) (a4:∀ W' H' s',Inv X' [] W' H' s'->QD H'->R (.ok .next) s') :
  fF (model X'.prog X'.w) X'.A (.compLoop (.ListComp a1 [⟨tg,iter,a2,0⟩] scope pos) 0 (.ref it) (.ref D) X'.env) R s4:=by
 have nox:∀ {α:Type} {t:Sem α} {Q Q':α->af->Prop} {E:yB} {s:af},wpAny (model X'.prog X'.w) X'.A t Q X'.xe s->(∀ a s,Q a s->Q' a s)->wpAny (model X'.prog X'.w) X'.A t Q' E s :=
  λ h hQ=>bF h hQ λ _ _ z=>by simp_all
 refine bk7 (λ n s'=>∃ i W' H',Inv X' [] W' H' s'/\tn i s'.heap/\(∀ b∈Z,H' b=aT)/\Ww i n W' H') ?_ m0 ⟨0,W0,H0,I4,b1,a8,w0⟩
 rintro n s3 ⟨i,W3,Y,I3,a5,a3,w3⟩
 rcases turn i n W3 Y w3 with⟨stop,qn⟩|⟨go,N,hN,step⟩
 .refine nox (T.done X' rfl rfl rfl B i [] s3 W3 Y X'.xe I3 (Uu Y a3) a5 stop) λ r s4 ⟨hr,I4⟩=>?_;subst hr;exact a4 W3 Y s4 I4 qn
 .refine nox (T.item X' rfl rfl rfl B i [] s3 W3 Y X'.xe I3 (Uu Y a3) a5 go) λ r s4 ⟨u,hr,h4⟩=>?_;subst hr;refine nox h4 λ _ s5 ⟨x,H5,I5,r5,y5,a0,b0⟩=>?_;have b2:=I5.pinned (Uu H5 b0) (T.obj _ _ a0);refine nox (hg _ s5 W3 H5 x u _ b2 r5 (step x H5 y5)) λ _ s6 ⟨W6,H6,I6,q6⟩=>?_;have again:∀ {W7:St} {H7:Hp} {s7:af},Inv X' ([]++aB0 Z s5.heap) W7 H7 s7->N W7 H7->∃ m,m<n/\∃ i W' H',Inv X' [] W' H' s7/\tn i s7.heap/\(∀ b∈Z,H' b=aT)/\Ww i m W' H':=λ {W7 H7 s7} I7 n7=>by
   obtain⟨m',hm,w7⟩:=hN W7 H7 n7;refine⟨m',hm,i+1,W7,H7,I7.unpinned,T.keep _ _ _ a0 λ b hb o e=>(I7.pin (b,o) (aQ _ (aQ _ (jq hb e)))).1,λ b hb=>?_,w7⟩;obtain⟨o,e,d⟩:=T.obj _ _ a0 b hb;exact(I7.pin (b,o) (aQ _ (aQ _ (jq hb e)))).2.1
  refine nox (a6 _ s6 W6 H6 _ I6 q6) λ b s7 ⟨H7,I7,q7⟩=>?_;cases b with
  | false =>
   rw[gc br]at q7 ⊢;exact again I7 q7
  | true =>
   rw[ef rfl]at q7 ⊢;refine nox (he _ s7 W6 H7 _ I7 q7) λ v s8 ⟨y,H8,I8,r8,ys,hy,hz,q8⟩=>?_;refine nox (aB9 _ s8 W6 H8 (.ref D) [y] (.ref D) [v] (λ _ H9=>N W6 H9) I8 rfl (.cons r8 .nil) ⟨D,ys,y,rfl,rfl,hy,hz,q8⟩) λ v9 s9 ⟨_,H9,I9,_,q9⟩=>?_;exact again I9 q9
def aV7  Z  src 
  (a6:qa Z src scope X.N X.env.scope=bY) (hi:PI X tg iter wi) (Uu:X.calm=bY)
  (b1:∀(Cc:Addr) (cells:yC) (s:af) (H:Hp) (ex:List Addr),PG (zP X Z scope Cc cells s H ex) tg g/\PIf (zP X Z scope Cc cells s H ex) a3 tc/\PE (zP X Z scope Cc cells s H ex) a2 te)
  (hs:autoParam (∀ x,dY iter X.env x=pure x) Zq3._auto_1):PE X (.ListComp a2 [⟨tg,iter,a3,0⟩] scope pos) (tComp src wi g tc te):=by
 intro z s W H Q I h;have ck:=bA5 a6;rw[eval_ListComp];have hcl:=qh λ y hy e=>I.ok.has y.1 (ck.fr y hy e);refine gQ rfl hs hcl ck.kind ck.loc (thn (hi z s W H _ I h) λ v s1 h1=>thn h1 λ b5 s2 h2=>?_);refine wl λ _ ua=>?_;obtain⟨it,B,tn,J,H2,e,I2,T,a4,f2,Ww⟩:=h2;subst e;have hD:=I2.fresh;obtain⟨Ww,⟨m0,w0⟩,turn⟩:=Ww _ hD;have I3:=I2.lnew (t':=s2.toks) .nil (cq _);have a0:∀ b∈B,b<s2.heap.objs.size:=λ b hb=>by obtain⟨o,q,_⟩:=T.obj _ _ a4 b hb;exact aN q
 have f3:∀ b∈B,FpOk X z (upd H2 s2.heap.objs.size (.J [])) b:=λ b hb=>⟨by rw[zb (aH (a0 b hb))];exact(f2 b hb).1,(f2 b hb).2⟩
 refine ua ?_;refine cC (ai4 ?_);generalize Y:({ s2 with heap:=s2.heap.push { cls:=.type "list",data:=.seq ([]).toArray },toks:=s2.toks })=s3 at I3;have b4:=Y;have b2:∀ b∈B,b<s3.heap.objs.size:=λ b hb=>by
  rw[<-Y]
  skip
  rw[cj];exact gE (a0 b hb)
 have I4:=au4 (s4:={ s3 with heap:=fC (s3.heap.push { cls:=.type "dict",data:=.dict #[] }) scope.names }) ck I3 f3 b2 ⟨_,rfl⟩;have a1:tn 0 (fC (s3.heap.push { cls:=.type "dict",data:=.dict #[] }) scope.names):=T.keep _ _ _ a4 λ b hb o e=>dJ _ _ b o (ak _ (by rw[<-Y];exact ak _ e));obtain⟨hg,a8,he⟩:=b1 s3.heap.objs.size (aW (s3.heap.objs.size+1) scope.names (af6 X.env.cells scope.names [])) s3 (upd H2 s2.heap.objs.size (.J [])) B;have a5:∀ H':Hp,(∀ b∈B,H' b=aT)->∀ b∈B,FpOk (zP X Z scope s3.heap.objs.size (aW (s3.heap.objs.size+1) scope.names (af6 X.env.cells scope.names [])) s3 (upd H2 s2.heap.objs.size (.J [])) B) [] H' b:=λ H' hn b hb =>
  ⟨hn b hb,(I4.ok.exf b hb).1,I4.ok.exfs b hb,.inl hb,λ x c e=>(I4.ok.exf b hb).2 x c e,λ p hp=>iS (hp) (by simp)⟩
 have T':=T;have b0:=λ b hb=>(f3 b hb).1;have L:=aE4 (X':=zP X Z scope s3.heap.objs.size (aW (s3.heap.objs.size+1) scope.names (af6 X.env.cells scope.names [])) s3 (upd H2 s2.heap.objs.size (.J [])) B) (R:=compPost (model X.prog X.w) X.A X.xe aT (EP X z W Q) (Value.ref s2.heap.objs.size) s3.heap.objs.size) (iter:=iter) (scope:=scope) (pos:=pos) (QD:=λ H'=>Q (.ref s2.heap.objs.size) H') rfl Uu I4 T' a1 a5 b0 w0 turn hg a8 he
  (λ W' H' s' J' q=>by
   obtain⟨mm,hn,_⟩:=J'.loc;exact⟨mm,hn,λ h' b3=>⟨.ref s2.heap.objs.size,H',aQ0 I3 f3 J' b3,rfl,q⟩⟩)
 exact il L (T.self _ _ _ _ _ a1 L)
section
variable {X:Cx}
def cm4:cf "abs"=al (.builtin "abs"):=by decide +kernel
def cm5:cf "len"=al (.builtin "len"):=by decide +kernel
def bI3:cf "min"=al (.builtin "min"):=by decide +kernel
def bY9:cf "max"=al (.builtin "max"):=by decide +kernel
def cj1:cf "int"=al (.type "int"):=by decide +kernel
def ck9:cf "str"=al (.type "str"):=by decide +kernel
def bN5:cf "tuple"=al (.type "tuple"):=by decide +kernel
def bW5:cf "list"=al (.type "list"):=by decide +kernel
def cj0 (i j:Int):Prop:=0<j/\j<2^4096
def aQ5 {y:Int}(h0:0<y)(h:y<2^4096):y.natAbs.log2<9000:=by
 have hn:y.natAbs<2^4096:=by
  have:(y.natAbs:Int)=y:=by lia
  have z:(y.natAbs:Int)<((2^4096:Nat):Int):=by rw[this];simpa using h
  exact Int.ofNat_lt.mp z
 have:=(Nat.log2_lt (by lia)).mpr hn;lia
def bn3:OpR X (eJ .FloorDiv) (rI cj0 λ i j=>.int (i / j)):=opI λ i j _ _ _ _ _ hc q=>by
 refine floordiv_int (by have:=hc.1;omega) ?_ (.inl (PyProof.noPylong_of_log2 (aQ5 hc.1 hc.2)));rw[Int.fdiv_eq_ediv_of_nonneg i (by have:=hc.1;lia)];exact q
def aL0 {K}(hK:X.K=K):IxR X (cq9 K):=by subst hK;exact bI4
def bH8 {K}(hK:X.K=K):IxR X (cq1 K):=by subst hK;exact ix_tup
def an7 {K}(hK:X.K=K):ae5 X (.builtin "len") (λ h H Q=>∃ p ys,h=[.ref p]/\(SqL K H p ys\/SqT K H p ys)/\Q (.int ys.length) H):=by subst hK;exact al2
def aG2 {K}(hK:X.K=K):ae5 X (.type "tuple") (λ h H Q=>∃ p ys,h=[.ref p]/\((SqL K H p ys/\∀ l,H l=aT->Q (.ref l) (upd H l (.tp ys)))\/(SqT K H p ys/\Q (.ref p) H))):=by subst hK;exact aw0
def aT4 {K}(hK:X.K=K):ae5 X (.type "list") (λ h H Q=>∃ p ys,h=[.ref p]/\(SqL K H p ys\/SqT K H p ys)/\∀ l,H l=aT->Q (.ref l) (upd H l (.J ys))):=by subst hK;exact aA3
def bu2 {K}(hK:X.K=K)(h:PE X l tl):PI X tg l (bJ4 K tl):=by subst hK;exact bH3 h
def bI5 {K}(hK:X.K=K)(h:PE X l tl):PI X tg l (cl1 K tl):=by subst hK;exact bR9 h
def bF9 {K}{pos}{k}(hK:X.K=K)(hc:X.calm=bY)(h:PGs X es t)
  (hn:autoParam ((cY es X.env).length=n) Zq4._auto_1) (z:autoParam ((cY es X.env).findIdx? (·.1)=aT) Zq4._auto_1):PG X (.Tuple es k pos) (ck7 K n t):=by subst hK;exact ca4 hc h hn z
end
structure DefAt (K:ac)(mg:yD)(x:Str)(st:Stmt)(ps:yI)(f:Addr)(fd:bK):Prop where
 fn:Fun K x x st f fd
 mg:mg x=al (.ref f)
 bi:Binds K fd ps []
@[irreducible] noncomputable def cu8 (p:Prop):Prop:=p
def ag5.new (h:ag5 H z)(B:z p=aT):ag5 H (L2.upd z p o):=λ x o e=>by
 have e1:=h x o e;rw[zb (zw e1 B)];exact e1
section
variable {prog:aF} {w:World} {A:aV} {R:kS->af->Prop} {I:Addr} {fp wr:List Addr} {n:Nat} {P:Nat->Value->Prop} {St:Nat->Heap->Prop} {kw:List (Str×Value)}
def be9 (Ww:Walks prog w A.in1 I fp wr n P St) bt (a6:CmpOf prog w A.in1 .Lt P bt) S (a8:S ∉ fp) :
  ∀ k j   s   vb   c ,n - (j+1)=k->j+1<=n->St (j+1) s.heap->P (eB bt j) vb ->
  s.heap.get? S=al { cls:=.type "list",dict:=aT,data:=.seq #[vb,vb] c,slots:=#[] } ->
  (∀ v h' tk,P (eB bt (n - 1)) v->(∀ b o,b ∉ wr->b≠S->s.heap.get? b=al o->h'.get? b=al o)->R (.ok (.ret v)) { s with heap:=h',toks:=tk }) ->
  fF (model prog w) A (.builtin "min.loop" ⟨[.ref I,.none,.ref S],kw⟩) R s:=by
 have b0:=λ h=>a8 (Ww.sub _ h);have Uu:(toString "min"++toString ".loop":String) = "min.loop":=by decide
 intro k
 induction k with
 | zero =>
  intro j s vb c hk hj a5 a1 hS hR;have b1:j+1=n:=by lia
  refine ip gZ ?_;rw[fL cX _]
  skip
  refine ai (dr hS rfl ?_)
  skip
  refine ai (fm (Ww.done s _ _ (b1▸a5) λ h' tk J=>?_));have a0:=J S _ b0 hS
  skip
  refine ai ?_;refine iq a0 rfl (ai (iX (aG ?_)));refine hR vb _ tk (by rw[<-b1];exact a1) λ b o z B e=>(cy _ _ (bH B)).trans (J b o z e)
 | succ k ih =>
  intro j s vb c hk hj a5 a1 hS hR;have hlt:j+1<n:=by omega
  refine ip gZ ?_;rw[fL cX _];show wpAny _ A.in1 (jJ (.ref S) >>= _) _ _ s;refine ai (dr hS rfl ?_);show wpAny _ A.in1 (tryCatch (kQ (.ref I)) _ >>= _) _ _ s;refine ai (fm (Ww.item (j+1) s _ _ hlt a5 λ v h' tk hP a2 J=>?_));have a0:=J S _ b0 hS;show wpAny _ A.in1 (tryCatch (gz [v,v] (richCompare .Lt v vb >>= _)) _ >>= _) _ _ _;refine ai (fm (dR (ai (a6 (j+1) (eB bt j) v vb _ _ _ hP a1 ?_))));refine ai (dR (cM ?_));refine ai (iX (aG ?_));cases hb:bt (j+1) (eB bt j)with
  | true =>
   simp only[if_true];refine ai ?_;refine iq a0 rfl (ai (iX ?_));rw[Uu];refine aG ⟨gR cX _,ih (j+1) _ v _ (by omega) hlt (Ww.frame _ _ _ a2 λ b b2 o e=>?_) (by simp only[eB,hb,if_true];exact hP) (dU _ a0 rfl)
    λ v' a3 Y a4 Z=>?_⟩
   .exact(cy _ _ (λ h:S=b=>a8 (by rw[h];exact b2))).trans e
   .exact hR v' a3 Y a4 λ b o z B e=>Z b o z B ((cy _ _ (bH B)).trans (J b o z e))
  | false =>
   simp only[bz,if_false];refine ai (iX ?_);rw[Uu];refine aG ⟨gR cX _,ih (j+1) _ vb c (by omega) hlt a2 (by simp only[eB,hb,bz,if_false];exact a1) a0 λ v' a3 Y a4 Z=>?_⟩;exact hR v' a3 Y a4 λ b o z B e=>Z b o z B (J b o z e)
def aQ8 (Ww:Walks prog w A.in1 I fp wr n P St) bt (Y:CmpOf prog w A.in1 .Lt P bt) S (Uu:S ∉ fp)(a4:St 0 s.heap)
  (hS:s.heap.get? S=al { cls:=.type "list",dict:=aT,data:=.seq #[] c,slots:=#[] })
  (h0:n=0->∀ h' tk,(∀ b o,b ∉ wr->b≠S->s.heap.get? b=al o->h'.get? b=al o)->R (.ok (.ret d)) { s with heap:=h',toks:=tk })
  (hR:0<n->∀ v h' tk,P (eB bt (n - 1)) v->(∀ b o,b ∉ wr->b≠S->s.heap.get? b=al o->h'.get? b=al o)->R (.ok (.ret v)) { s with heap:=h',toks:=tk }) :
  fF (model prog w) A (.builtin "min.loop" ⟨[.ref I,.none,.ref S],[(bX "default",d)]⟩) R s:=by
 have a6:=λ h=>Uu (Ww.sub _ h);have J:(toString "min"++toString ".loop":String) = "min.loop":=by decide
 refine ip gZ ?_;rw[fL cX _]
 skip
 refine ai (dr hS rfl ?_);show wpAny _ A.in1 (tryCatch (kQ (.ref I)) _ >>= _) _ _ s;rcases Nat.eq_zero_or_pos n with hn|hn
 .refine ai (fm (Ww.done s _ _ (hn▸a4) λ h' tk B=>?_));show wpAny _ A.in1 (rule _ >>= _) _ _ _;refine ai (j3 (aG ?_));exact h0 hn h' tk λ b o z _ e=>B b o z e
 .refine ai (fm (Ww.item 0 s _ _ hn a4 λ v h' tk hP a1 B=>?_));have a3:=B S _ a6 hS;show wpAny _ A.in1 (updateSeq S (λ _=>#[v,v]) >>= _) _ _ _;refine ai ?_;refine iq a3 rfl ?_;rw[J];refine aG ⟨gR cX _,be9 Ww bt Y S Uu _ 0 _ v _ rfl hn (Ww.frame _ _ _ a1 λ b a5 o e=>?_) hP (dU _ a3 rfl) λ v' a8 Z b0 a0=>?_⟩
  .exact(cy _ _ (λ h:S=b=>Uu (by rw[h];exact a5))).trans e
  .exact hR hn v' a8 Z b0 λ b o z a2 e=>a0 b o z a2 ((cy _ _ (bH a2)).trans (B b o z e))
end
def bc1  a d :argsOk "min" ⟨[a],[(bX "default",d)]⟩:=by unfold argsOk;kernel_rfl
theorem jA (val : Nat -> Int) : ∀ k j, j <= k -> val (eB (λ i j => decide (val i < val j)) k) <= val j
  | 0, j, h => by have : j = 0 := by lia
                  subst this; exact cE _
  | k + 1, j, h => by
    have ih := jA val k;unfold eB
    grind
def bM1 (K:ac):V->V->Hp->VK->Prop:=λ x d H Q=>∃ a ns,x=.ref a/\SqL K H a (ns.map V.int)/\(ns=[]->Q d H)/\∀ m∈ns,(∀ y∈ns,m<=y)->Q (.int m) H
def ay4 {ns:List Int}{its:yH}(r:Vals (ns.map V.int) its){i:Nat}(h:its[i]?=al v):∃ z t,ns[i]?=al z/\v=Value.int z t:=by
 have B:=r.length;rw[aw]at B;have J:=(ag.mp h).1;obtain⟨u,e1,q⟩:=r.get (i:=i) (by rw[aL,au (by omega)];rfl);rw[h]at e1;cases e1;obtain⟨t,rfl⟩:=q;exact⟨_,t,au (by omega),rfl⟩
def bu0 {W:St}(hc:X.calm=bY)(I:Inv X B W H s)(rx:RelV x u)(rd:RelV d Z)(h:bM1 X.K x d H Q) :
  wpAny (model X.prog X.w) X.A (call (.builtin "min") [u] [(bX "default",Z)]) (EP X B W Q) X.xe s:=by
 obtain⟨a,ns,rfl,hS,q0,qm⟩:=h;cases rx;obtain⟨its,rv,pl,hz⟩:=I.list hS;have hl:=rv.length;rw[aw]at hl;have Uu:(toString "min"++toString ".loop":String) = "min.loop":=by decide
 refine kmb_tree F.kind_min F.plain_min F.entry_min (bc1 _ _) ?_
 skip
 refine ai (wpAny_of_eq (rfl) ?_);refine ai (aG ?_);refine ai (eZ pl.isList ?_);have a2:a<s.heap.objs.size:=by obtain⟨o,_,e,_⟩:=pl;exact aN e
 have Ww:=mY (prog:=X.prog) (w:=X.w) (A:=X.A.in1) (I.ok.hd hc) s.heap.objs.size a (aH a2) its.toArray;refine ai (cC ?_);generalize Y:s.heap.push _=h2;have J:h2.objs.size=s.heap.objs.size+1:=by rw[<-Y,cj]
 have a0:∀ b o,s.heap.get? b=al o->h2.get? b=al o:=λ b o e=>by rw[<-Y];exact ak _ e
 have a3:h2.objs.size ∉ [s.heap.objs.size,a]:=by
  grind
 have a4:(h2.push { cls:=.type "list",data:=.seq ([]:yH).toArray }).IsListIter s.heap.objs.size a 0/\(h2.push { cls:=.type "list",data:=.seq ([]:yH).toArray }).IsList a its.toArray:=by
  refine⟨⟨_,ak _ (by rw[<-Y];exact aX _ rfl),rfl,rfl⟩,?_⟩;obtain⟨o,e,r⟩:=pl.isList;exact⟨o,ak _ (a0 _ _ e),r⟩
 let val:Nat->Int:=λ i=>ns.getD i 0
 have a1:∀ i v,its.toArray[i]?=al v->∃ t,v=Value.int (val i) t:=λ i v e=>by
  obtain⟨z,t,e1,e2⟩:=ay4 rv (i:=i) (v:=v) (by rw[dW]at e;exact e);refine⟨t,?_⟩;rw[e2];show Value.int z t=Value.int (ns.getD i 0) t;rw[cw,e1];rfl
 rw[Uu];have nx:∀(h':Heap) (tk:Nat),(∀ b o,b ∉ [s.heap.objs.size]->b≠h2.objs.size->(h2.push { cls:=.type "list",data:=.seq ([]:yH).toArray }).get? b=al o->h'.get? b=al o)->Inv X B W H { s with heap:=h',toks:=tk }:=λ h' tk k=>I.kept λ b o e=>by
  refine k b o ?_ ?_ (ak _ (a0 b o e))
  .intro z;have z':b=s.heap.objs.size:=by simpa using z
   exact iS (aN e) (by rw[z'];exact bP _)
  .intro z;exact iS (aN e) (by rw[z,J];exact lJ.mpr (dC _))
 refine aG ⟨gR cX _,aQ8 (d:=Z) Ww _ (lY val a1) h2.objs.size a3 a4 (aX _ rfl) (λ hn h' tk k=>?_) λ hn v h' tk hP k=>?_⟩
 .have e:ns=[]:=by
   simp_all
  exact⟨d,H,nx h' tk k,rd,q0 e⟩
 .obtain⟨z,t,e1,e2⟩:=ay4 rv (i:=eB (λ i j=>decide (val i<val j)) (its.toArray.size - 1)) (v:=v) (by rw[dW]at hP;exact hP);subst e2;have hv:val (eB (λ i j=>decide (val i<val j)) (its.toArray.size - 1))=z:=by
   show ns.getD _ 0=z;rw[cw,e1];rfl
  refine⟨.int z,H,nx h' tk k,⟨t,rfl⟩,qm z (aE e1) λ y hy=>?_⟩;obtain⟨j,hj,e3⟩:=d6.mp hy;have:=jA val (its.toArray.size - 1) j (by grind);rw[hv]at this;have e4:val j=y:=by
   show ns.getD j 0=y;rw[cw,au hj];exact e3
  lia
def cm3 (K:ac)(ta td:TE):TE:=λ W H Q=>ta W H λ x H1=>td W H1 λ d H2=>bM1 K x d H2 Q
def bI8 {K}(hK:X.K=K)(hc:X.calm=bY)(hg:Gl X "min")(hm:X.mg "min"=aT)(ha:PE X e Y)(hd:PE X Z J)
  (hs:autoParam (a9 [e] X.env=[(ce,eval e X.env)]) Zq4._auto_1) :
  PE X (.Call (.Name "min" p) [e] [⟨al "default",Z,kp⟩] pos) (cm3 K Y J):=by
 subst hK;intro z s W H Q I h;refine cr (aF1 I hg hm bI3 ?_);have h':ao7 Y aO3 W H (λ vs Uu=>match vs with|[x]=>J W Uu λ d H2=>bM1 X.K x d H2 Q|_=>False):=h;refine callWith_kw (thn ((zR ha af5 hs) pos z s W H _ I h') λ us s1 ⟨vs,Uu,I1,r1,B⟩=>?_) (by rw[hs];rfl) (by rw[hs];rfl)
 match vs,B,r1 with
 | [x],B,r1 =>
  obtain⟨u,rfl,ru⟩:=ai1 r1;refine kws_cons (thn (hd z s1 W Uu _ I1 B) λ v s2 ⟨d,H2,I2,rd,q2⟩=>kws_nil ?_);exact bu0 hc I2 ru rd q2
inductive D where
 | N|T (b:Bool)|int (i:Int)|str (x:Str)|tp (l:List D)|J (l:List D)
noncomputable abbrev D.ctorIdx (x:D):Nat:=D.casesOn x 0 (λ _=>1) (λ _=>2) (λ _=>3) (λ _=>4) (λ _=>5)
mutual
noncomputable def D.deep:D->Nat
 | .tp l=>D.deepL l+1
 | .J l=>D.deepL l+1
 | _=>0
noncomputable def D.deepL:List D->Nat
 | []=>0
 | d::l=>max (D.deep d) (D.deepL l)
end
section
variable {X:Cx}
end
section
variable {X:Cx}
def cu5 (K:ac):V->Option Int->Option Int->Hp->VK->Prop:=λ x lo hi H Q=>∃ a xs,x=.ref a/\SqT K H a xs/\∀ p H',ag5 H H'->SqT K H' p (aU9 xs lo hi)->(H' p=al (.tp (aU9 xs lo hi))\/(p=a/\aU9 xs lo hi=xs))->Q (.ref p) H'
def aw8 {E:yB}{z:yK}{Q:yB}(ht:IsTup s.heap t z)(hs:s.heap.IsSliceOf sl vl vu .none)(pl:gP vl B)(pu:gP vu Uu)
  (hw:HT.sIx z.size 0 B=0/\HT.sIx z.size z.size Uu=z.size) (h:Q (.ref t) s):wpAny (model prog w) A (ie (.ref t) (.ref sl)) Q E s:=by
 obtain⟨os,Z,Y,a1⟩:=id hs;have a0:s.TypeIs (.ref sl) "slice":=⟨os,Z,Y⟩
 unfold ie
 try with_reducible refine dR ?_
 first|refine ai (aG ?_)|skip
 refine ai (kA ht.typeIs (by decide) ?_);refine ai (dw ht.typeIs bM
  (dk bM ht.typeIs jR ?_ (j9 _ _)))
 show wpAny _ _ (d5 (.ref t) >>= _) _ _ s;refine ai (tupleItemsOf_ ht ?_);refine ai (kB a0 ?_);rw[ef (by decide)];refine ai (HT.sliceApplied_gen hs pl pu ?_);have J:((((HT.sIx z.size 0 B):Int)==0&&(1:Int)==1&&(HT.sIx z.size z.size Uu - HT.sIx z.size 0 B)==z.size)=bY):=by
  simp_all
 show wpAny _ _ (if(((HT.sIx z.size 0 B:Nat):Int)==0&&(1:Int)==1&&(HT.sIx z.size z.size Uu - HT.sIx z.size 0 B)==z.size)=bY then _ else _) _ _ s;rw[ef J];refine ai (ai (kB ht.typeIs (aG ?_)));rw[ef (by decide)];exact ai (j3 (aG ⟨_,rfl,aG h⟩))
def av1 (h:HT.sIx z.length 0 J=0/\HT.sIx z.length z.length B=z.length):aU9 z J B=z:=by
 unfold aU9
 simp_all
def bB8 {K}(hK:X.K=K):SlR X (cu5 K):=by
 subst hK;intro J s W H x v vl vu Y Uu sl Q I Z hs pl pu h;obtain⟨a,z,e1,hx,q⟩:=h;by_cases hw:HT.sIx z.length 0 Y=0/\HT.sIx z.length z.length Uu=z.length
 .subst e1;cases Z;obtain⟨its,r,ht,hz⟩:=I.tuple hx;have B:its.toArray.size=z.length:=by rw[aJ];exact r.length.symm
  refine⟨"tuple",_,bM.lookup,ht.typeIs,?_⟩;exact aw8 ht hs pl pu (by rw[B];exact hw) ⟨.ref a,H,I,rfl,q a H (ag5.refl H) (by rw[av1 hw];exact hx) (.inr ⟨rfl,av1 hw⟩)⟩
 .exact bZ0 J s W H x v vl vu Y Uu sl Q I Z hs pl pu ⟨a,z,e1,hx,hw,λ p hp=>q p _ ((ag5.refl H).new hp) (SqT.of zg) (.inl zg)⟩
def bv8 {K}(hK:X.K=K):SlR X (cq5 K):=by subst hK;exact bN1
end
noncomputable def Its (x:Str):It:=⟨λ i _=>i<x.cps.size,λ i H v H'=>H'=H/\∃ c,x.cps[i]?=al c/\v=.str ⟨#[c]⟩,λ i _=>x.cps.size<=i⟩
def aP1 {K} it (hn:["enumerate", "zip", "dict_itemiterator", "dict_reverseitemiterator", "odict_iterator", "itertools.zip_longest", "itertools.pairwise"].contains Uu=ce)
  (Ww:∀ A:aV,A.handled=aT->Walks P w A it [it] [it] x.cps.size (SignAt x) (λ i h=>h.IsStrIter it Uu x t i))
  (Y:∀(A:aV) (s:af) (i:Nat) (Q:Option Value->af->Prop) (E:yB),A.handled=aT->s.heap.IsStrIter it Uu x t i->x.cps[i]?=aT->(∀ h',lh it s.heap h'->Q aT { s with heap:=h' })->wpAny (model P w) A (kQ (.ref it)) Q E s)
  (J:∀(A:aV) (i:Nat) (s:af) (Q:yB) (E:yB),s.heap.IsStrIter it Uu x t i->Q (.ref it) s->wpAny (model P w) A (mr (.ref it)) Q E s):Turn P w K tg (Its x) [it] it (λ i h=>h.IsStrIter it Uu x t i) where
 mem:=by simp
 obj:=λ i h st b hb=>by
  have e:=by simpa using hb
  subst e;obtain⟨o,ho,hc,hd⟩:=st;exact⟨o,ho,λ v z=>by rw[hd]at z;cases z⟩
 keep:=λ i h h' st k=>by
  obtain⟨o,ho,r⟩:=st;exact⟨o,k it (by simp) _ ho,r⟩
 item:=by
  intro X hP hw hK hc i B s W H E I hf st hg;subst hP hw hK;obtain⟨f0,f1,f2,f3,f4,f5⟩:=hf it (by simp);refine(Ww X.A (I.ok.hd hc)).item i s _ _ hg st λ v h' tk hv Z kk=>?_;obtain⟨c,u,a0,rfl⟩:=hv;have I1:Inv X B W H { s with heap:=h',toks:=tk }:=I.turned (λ b o hb e=>kk b o (by simpa using hb) e) f0 f1 f3 f4 f5;obtain⟨o,ho,hcl,hd⟩:=id Z;exact⟨_,rfl,bc0 ho hcl hd hn ⟨.str ⟨#[c]⟩,H,I1,⟨u,rfl⟩,⟨rfl,c,a0,rfl⟩,Z,λ b hb=>(hf b hb).1⟩⟩
 done:=by
  intro X hP hw hK hc i B s W H E I hf st hg;subst hP hw hK;obtain⟨f0,f1,f2,f3,f4,f5⟩:=hf it (by simp);have a1:x.cps.size<=i:=hg;exact Y X.A s i _ E (I.ok.hd hc) st (by simp;omega) λ h' eb=>⟨rfl,I.turned (λ b o hb e=>eb b o hb e) f0 f1 f3 f4 f5⟩
 self:=λ A i s Q E st h=>J A i s Q E st h
def cr8 (tl:TE):TI:=λ W H R=>tl W H λ v H1=>∃ x,v=.str x/\R (Its x) H1
def bR5 (hl:PE X l tl):PI X tg l (cr8 tl):=by
 intro z s W H R I h;refine thn (hl z s W H _ I h) λ v s1 ⟨v0,H1,Uu,r1,q1⟩=>?_;obtain⟨x,e,q⟩:=q1;subst e;obtain⟨t,rfl⟩:=r1;have fin:∀ Y   o ,o={ cls:=.type Y,data:=.fields #[.str x t,.int 0 0] }->Turn X.prog X.w X.K tg (Its x) [s1.heap.objs.size] s1.heap.objs.size (λ i h=>h.IsStrIter s1.heap.objs.size Y x t i)->PIE X z W tg R (.ref s1.heap.objs.size) { s1 with heap:=s1.heap.push o }:=λ Y o Z T=>by
  subst Z;refine⟨s1.heap.objs.size,[s1.heap.objs.size],_,_,H1,rfl,Uu.kept λ b o e=>ak _ e,T,⟨_,aX _ rfl,rfl,rfl⟩,λ b hb=>?_,q⟩;have e:=by simpa using hb
  subst e;exact Uu.fpOk (aj _) (Uu.hok.fresh (aj _))
 cases ha:x.cps.all (·<128)
 .exact wpAny_pyIter_wide ha (fin "str_iterator" _ rfl (aP1 _ (by decide) (λ A B=>Walks.strWide B _ x t) (λ A s i Q E B st hx J=>wpAny_pyNext_wide_end B st hx J) λ A i s Q E st h=>wpAny_pyIter_striter_wide st h))
 .exact wpAny_pyIter_ascii ha (fin "str_ascii_iterator" _ rfl (aP1 _ (by decide) (λ A B=>Walks.strAscii B _ x t) (λ A s i Q E B st hx J=>wpAny_pyNext_ascii_end B st hx J) λ A i s Q E st h=>wpAny_pyIter_striter_ascii st h))
section
variable {X:Cx} {K:ac} {T id:String} {name:Str} {o e:Expr} {es:yL} {to:TE} {t:TA} {r:V->List V->Hp->VK->Prop} {apos cpos:Pos}
def ca8 (hK:X.K=K)(pa:lI T)(slot:Slot T name id)(Uu:my (.builtin id)=pure (.type "method_descriptor"))(Y:MtR X id r)(ho:PE X o to)(ha:PA X (e::es) t)
  (z:autoParam (eK o name X.env (eval o X.env)=eval o X.env) Zq4._auto_1)
  (J:autoParam (((cQ cpos (a9 (e::es) X.env)).all (λ x=>!x.1)&&(fh cpos (da [] X.env)).all (λ x=>x.1.isSome)
   && decide ((e::es).length+([]:List fi).length+(if([]:List fi).isEmpty then 0 else 1)<30))=bY) Zq4._auto_1)
  (B:autoParam ((apos.endLine==cpos.line)=bY) Zq4._auto_1) (hs:autoParam (a9 (e::es) X.env=(ce,eval e X.env)::a9 es X.env) Zq4._auto_1) (h:autoParam ((cQ cpos (a9 es X.env)).any (·.1)=ce) Zq4._auto_1) :
  PE X (.Call (.Attribute o name apos) (e::es) [] cpos) (tBM K T r to t):=by
 subst hK;exact cm0 pa slot Uu Y ho ha z J B hs h
end
structure Mach where
 letters:Int
 rooms:Int
 begins:List Int
 ends:List Int
 doors:List (Int×Str×Int×Int)
noncomputable def cn9 (q:Int×Str×Int×Int):D:=.tp [.int q.1,.str q.2.1,.int q.2.2.1,.int q.2.2.2]
def Mach.D (M:Mach):D:=.tp [.int M.letters,.int M.rooms,.tp (M.begins.map .int),.tp (M.ends.map .int),.tp (M.doors.map cn9)]
noncomputable def ltr (i:Nat):Str:=⟨#[97+i]⟩
structure DoorOk (letters rooms:Int)(q:Int×Str×Int×Int):Prop where
 s0:0<=q.1
 s1:q.1<rooms
 l:∃ i:Nat,(i:Int)<letters/\q.2.1=ltr i
 g0:0<=q.2.2.1
 g1:q.2.2.1<rooms
 t0:0<=q.2.2.2
 t1:q.2.2.2<=3
structure RoomsOk (rooms:Int)(l:List Int):Prop where
 mem:∀ r∈l,0<=r/\r<rooms
 up:l.Pairwise (· < ·)
structure Mach.Ok (most:Nat)(M:Mach):Prop where
 l0:1<=M.letters
 l1:M.letters<=3
 r0:1<=M.rooms
 r1:M.rooms<=5
 b:RoomsOk M.rooms M.begins
 e:RoomsOk M.rooms M.ends
 d:∀ q∈M.doors,DoorOk M.letters M.rooms q
 m:M.doors.length<=most
def abc_at (h0:0<=i)(h:i<3):atI (bX "abc").cps.toList i=al (97+i.toNat):=by
 obtain rfl|rfl|rfl:i=0\/i=1\/i=2:=by lia
 all_goals rfl
mutual
noncomputable def D.tups:D->Bool
 | .J _=>ce
 | .tp l=>D.tupsL l
 | _=>bY
noncomputable def D.tupsL:List D->Bool
 | []=>bY
 | d::l=>D.tups d&&D.tupsL l
end
end L2
end
noncomputable section
namespace L2
end L2
end
noncomputable section
namespace L2
open PySem PySem.Spec PyProof.Rows
noncomputable def ct2:Option Int->D
 | none=>.N
 | some i=>.int i
noncomputable def addO:Option Int->Option Int->Option Int
 | some a,al b=>al (a+b)
 | _,_=>aT
noncomputable def minO:List Int->Option Int
 | []=>aT
 | a::l=>al (match minO l with|none=>a|some b=>if b<a then b else a)
def al1:∀ {l},minO l=aT↔l=[]
 | []=>by simp[minO]
 | a::l=>by simp[minO]
theorem aC3:∀ {l} {m},minO l=al m->m∈l/\∀ y∈l,m<=y
 | [],m,h=>by cases h
 | a::l,m,h=>by
  unfold minO at h;have h':=av h;cases e:minO l with
  | none =>
   rw[e]at h';have:=al1.mp e
   simp_all
  | some b =>
   rw[e]at h';obtain⟨Uu,J⟩:=aC3 e
   grind
def aU8 {pos a0 py} N'  src 
  (hN:X.N.Nodup) (b5:X.N[i]?=al y) (a3:X.env.scope.names.lookup y=al .local)
  (c0:qa N' src scope X.N X.env.scope=bY) (hi:PI X tg iter wi) (a1:X.calm=bY)
  (b3:∀(Cc:Addr) (cells:yC) (s:af) (H:Hp) (ex:List Addr),PG (zP X N' scope Cc cells s H ex) tg g/\PIf (zP X N' scope Cc cells s H ex) Z tc/\PE (zP X N' scope Cc cells s H ex) Y te)
  (hs:autoParam (∀ x,dY iter X.env x=pure x) Zq3._auto_1)
  (b4:autoParam (fA (.ListComp Y [⟨tg,iter,Z,0⟩] scope pos) (al (.Name y py)) a0.line X.env=pure bY) Zq4._auto_1) :
  PS X (.Assign [.Name y py] (.ListComp Y [⟨tg,iter,Z,0⟩] scope pos) a0) (bq2 (tComp src wi g tc te) (aC2 i)):=by
 intro B s W H D0 I h;have ck:=bA5 c0;rw[exec_Assign_Name_used _ _ _ _ b4];refine ai (jX (ai ?_))
 skip
 have hcl:=qh λ y hy e=>I.ok.has y.1 (ck.fr y hy e);refine ai (bF (gQ rfl hs hcl ck.kind ck.loc (thn (hi B s W H _ I h) λ v s1 h1=>thn h1 λ c2 s2 h2=>?_)) (λ _ s' hq=>aG (aG hq)) λ _ _ e=>e);refine wl λ _ ua=>?_;obtain⟨it,Uu,tn,J,H2,e,I2,T,a5,f2,Ww⟩:=h2;subst e;have hD:=I2.fresh;obtain⟨Ww,⟨m0,w0⟩,turn⟩:=Ww _ hD;have I3:=I2.lnew (t':=s2.toks) .nil (cq _);have a6:∀ b∈Uu,b<s2.heap.objs.size:=λ b hb=>by obtain⟨o,q,_⟩:=T.obj _ _ a5 b hb;exact aN q
 have f3:∀ b∈Uu,FpOk X B (upd H2 s2.heap.objs.size (.J [])) b:=λ b hb=>⟨by rw[zb (aH (a6 b hb))];exact(f2 b hb).1,(f2 b hb).2⟩
 refine ua ?_;refine cC (ai4 ?_);generalize a2:({ s2 with heap:=s2.heap.push { cls:=.type "list",data:=.seq ([]:yH).toArray },toks:=s2.toks }:af)=s3 at I3;have c1:({ s2 with heap:=s2.heap.push { cls:=.type "list",data:=.seq ([]:yH).toArray } }:af)=s3:=a2;have b6:∀ b∈Uu,b<s3.heap.objs.size:=λ b hb=>by
  rw[<-a2];show b<(s2.heap.push _).objs.size;rw[cj];exact gE (a6 b hb)
 have I4:=au4 (s4:={ s3 with heap:=fC (s3.heap.push { cls:=.type "dict",data:=.dict #[] }) scope.names }) ck I3 f3 b6 ⟨_,rfl⟩;have a8:tn 0 (fC (s3.heap.push { cls:=.type "dict",data:=.dict #[] }) scope.names):=T.keep _ _ _ a5 λ b hb o e=>dJ _ _ b o (ak _ (by rw[<-a2];exact ak _ e));obtain⟨hg,b0,he⟩:=b3 s3.heap.objs.size (aW (s3.heap.objs.size+1) scope.names (af6 X.env.cells scope.names [])) s3 (upd H2 s2.heap.objs.size (.J [])) Uu;have a4:∀ H':Hp,(∀ b∈Uu,H' b=aT)->∀ b∈Uu,FpOk (zP X N' scope s3.heap.objs.size (aW (s3.heap.objs.size+1) scope.names (af6 X.env.cells scope.names [])) s3 (upd H2 s2.heap.objs.size (.J [])) Uu) [] H' b:=λ H' hn b hb =>
  ⟨hn b hb,(I4.ok.exf b hb).1,I4.ok.exfs b hb,.inl hb,λ x c e=>(I4.ok.exf b hb).2 x c e,λ p hp=>iS (show p∈([]:yA)from hp) (by simp)⟩
 have T':Turn X.prog X.w X.K tg J Uu it tn:=T;have b2:∀ b∈Uu,upd H2 s2.heap.objs.size (.J []) b=none:=λ b hb=>(f3 b hb).1;have L:=aE4 (X':=zP X N' scope s3.heap.objs.size (aW (s3.heap.objs.size+1) scope.names (af6 X.env.cells scope.names [])) s3 (upd H2 s2.heap.objs.size (.J [])) Uu) (R:=compPost (model X.prog X.w) X.A X.xe (al (hJ (.Name y py) X.env)) (λ _ s'=>SP X B D0 .next s') (Value.ref s2.heap.objs.size) s3.heap.objs.size) (iter:=iter) (scope:=scope) (pos:=pos) (QD:=λ H'=>D0.nx (W.set i (al (.ref s2.heap.objs.size))) H') rfl a1 I4 T' a8 a4 b2 w0 turn hg b0 he
  (λ W' H' s' J' q=>by
   have J2:=aQ0 I3 f3 J' (Heap.SameBut.refl _ _);obtain⟨mm,hn,_⟩:=J'.loc;have nL:s3.heap.objs.size≠X.env.locals:=ed I3.lt;have nC:∀ x c,X.env.cells.lookup x=al c->c≠s3.heap.objs.size:=λ x c e=>by
    obtain⟨v,z⟩:=I3.cell x c e;exact aH z.lt
   show wpAny _ X.A (hJ (.Name y py) X.env (.ref s2.heap.objs.size)) _ _ _;refine ku (aD4 (v:=.ref s2.heap.objs.size) J2 hN b5 (.inl a3) rfl (λ s5 I5 sb=>?_) (.inr a3));obtain⟨aa,sb,ha⟩:=sb;have na:s3.heap.objs.size≠aa:=by
    rcases ha with z|z
    .rw[z];exact nL
    .exact λ e=>nC _ _ z e.symm
   refine⟨mm,hn.sameBut sb na,λ h' b1=>⟨_,H',I5.turned (t':=s5.toks) (λ b o hb e=>(b1.2 b hb).trans e) J'.free nL (.inr I3.sz) nC λ p hp z=>?_,q⟩⟩;exact iS (aN (I3.pin p hp).1) (by rw[z];exact bP _))
 exact il L (T.self _ _ _ _ _ a8 L)
def ct4:V->Option Int->Option Int->Hp->VK->Prop:=λ x lo hi H Q=>∃ z,x=.str z/\z.length<=a7/\Q (.str (fR z lo hi)) H
def aB3 (p:gP v o):∃ q,v=partValue q/\q.map (·.1)=o:=by
 cases p with
 | none=>exact⟨aT,rfl,rfl⟩
 | int i t=>exact⟨al (i,t),rfl,rfl⟩
set_option tactic.hygienic true in
def bX2 :SlR X ct4:=by
 intro Z s W H x v vl vu Uu J sl Q I rx hs pl pu h;obtain⟨z,rfl,hz,q⟩:=h;obtain⟨t,rfl⟩:=rx;obtain⟨l,rfl,el⟩:=aB3 pl;obtain⟨u,rfl,eu⟩:=aB3 pu;refine⟨"str",_,F.slot_str_getitem.lookup,lH s z t,?_⟩;refine wpAny_getItem_str_slice (st:=aT) hs rfl ?_;unfold sliceMade;have e:slicePicked z l u aT=bW Uu J 1 z.length:=by
  unfold slicePicked
  simp_all
 rw[e];unfold fR at q;split
 .rename_i hc;have B:((1:Int)==1&&(bW Uu J 1 z.length).length==z.length)=true:=hc;rw[ef B]at q;exact⟨.str z,H,I,⟨t,rfl⟩,q⟩
 .rename_i hc;have B:¬((1:Int)==1&&(bW Uu J 1 z.length).length==z.length)=true:=hc;rw[gc B]at q;have Y:=by
   show(iY (λ x=>z.cps[x]?) (bW Uu J 1 z.length)).toArray.size<=a7;rw[aJ];exact aq (gS _ _) (aq (sliceIndices_le Uu J z.length) hz)
  exact⟨Y,.str _,H,I.tok _,⟨_,rfl⟩,q⟩
section
variable {M:Model} {A:aV} {E:yB} {s₀ s:af} {m cm:yD} {env:Env} {cs:yC}
def bN4 (z:gB s₀ env.locals m cs cm s)(h:env.scope.kind=.function)(kl:env.kindOf n=al .local)
  (go:∀ s',gB s₀ env.locals (λ y=>if y=n then al v else m y) cs cm s'->Q () s'):wpAny M A (f7 env n v) Q E s:=by
 refine iA kl z.toInCall.ns (λ g B gs=>go _ ⟨⟨?a,B,λ b o e=>?b,z.toInCall.fresh⟩,λ k c e=>?c,z.apart,z.above⟩) (by rw[h];rfl)
 case a=>obtain⟨J,tk,e⟩:=z.toInCall.same;subst e;exact⟨g,_,rfl⟩
 case b=>exact gs.extBut b o (aH (az (aN e) z.toInCall.fresh)) (z.toInCall.keep b o e)
 case c=>exact(z.cell k c e).sameBut gs (ed (z.above k c (aK e)))
def bF8 (z:gB s₀ env.locals m cs cm s)(h:env.scope.kind=.function)(Uu:env.kindOf n=al .cell)
  (e1:env.cells.lookup n=al c) (e2:cs.lookup n=al c) (go:∀ s',gB s₀ env.locals m cs (λ y=>if y=n then al v else cm y) s'->Q () s'):wpAny M A (f7 env n v) Q E s:=by
 have up:=z.above n c (aK e2);refine iP h Uu e1 (z.cell n c e2) λ g B gs=>go _ ⟨⟨?a,z.toInCall.ns.sameBut gs (aH up),λ b o e=>?b,z.toInCall.fresh⟩,λ k J e=>?c,z.apart,z.above⟩
 case a=>obtain⟨Y,tk,e⟩:=z.toInCall.same;simp_all
 case b=>exact gs.extBut b o (aH (fq (az (aN e) z.toInCall.fresh) up)) (z.toInCall.keep b o e)
 case c =>
  by_cases q:k=n
  .simp_all
  .rw[gc q];exact(z.cell k J e).sameBut gs λ y=>q (ic z.apart (aK e) (y▸aK e2))
theorem aI2 (f:Str×Value->PUnit->Sem (ForInStep PUnit))(Z:∀ n v u,f (n,v) u=(do f7 env n v;pure (.yield ⟨⟩)))(J:env.scope.kind=.function)(sub:∀ n c,cs.lookup n=al c->env.cells.lookup n=al c) :
  ∀ bs  (m Uu:yD)  s   Q ,gB s₀ env.locals m cs Uu s ->
   (∀ y∈bs,env.kindOf y.1=al .local\/(env.kindOf y.1=al .cell/\∃ c,cs.lookup y.1=al c)) ->
   (∀ s',gB s₀ env.locals (bindL env.kindOf bs m) cs (bindC env.kindOf bs Uu) s'->Q ⟨⟩ s')->wpAny M A (forIn bs ⟨⟩ f) Q E s
 | [],m,Uu,s,Q,z,_,go=>by rw[iW];exact aG (go s z)
 | (n,v)::r,m,Uu,s,Q,z,hy,go=>by
  rw[lr,Z];have hr:=λ y (q)=>hy y (ah _ q);rcases hy (n,v) ar with kl|⟨kc,c,e2⟩
  .refine ai (ai (bN4 z J kl λ s' Y=>aG (aI2 f Z J sub r _ _ s' Q Y hr λ B h=>go B ?_)));unfold bindL bindC;simp_all
  .have nl:¬ env.kindOf n=al .local:=by lia
   refine ai (ai (bF8 z J kc (sub n c e2) e2 λ s' Y=>aG (aI2 f Z J sub r _ _ s' Q Y hr λ B h=>go B ?_)));unfold bindL bindC;simp_all
end
def av5 {E:yB}{h:yC}{func:yJ}{code}
  (J:scope.kind=.function) (hy:∀ y∈binds,scope.names.lookup y.1=al .local\/(scope.names.lookup y.1=al .cell/\∃ c,(aW (s.heap.objs.size+1) scope.names []).lookup y.1=al c))
  (go:∀ env,env=newEnv scope s.heap.objs.size globals (aW (s.heap.objs.size+1) scope.names h) qual func code aT builtins ->
   ∀ s',gB s env.locals (bindL env.kindOf binds λ _=>aT) (aW (s.heap.objs.size+1) scope.names []) (bindC env.kindOf binds λ _=>aT) s'->Q env s') :
  wpAny M A (gj scope globals h binds qual func code aT builtins) Q E s:=by
 simp only[gj,ka,bz,if_false];refine ai (wpAny_alloc (ai (wpAny_layCells _ (λ nm kd Uu=>by lia) _ _ _ _ ?_)));have ok:=cellsFrom_ok scope.names (s.heap.push { cls:=.type "frame",data:=.dict #[] }) (s.heap.objs.size+1) [] ⟨λ _ _ B=>(nomatch B),List.Pairwise.nil⟩ (by simp_all);have z:({ s with heap:=s.heap.push { cls:=.type "frame",data:=.dict #[] } }:af).heap.objs.size=s.heap.objs.size+1:=cj ..;rw[cj]at ok;rw[z];refine ai (aI2 (s₀:=s) (env:=newEnv scope s.heap.objs.size globals (aW (s.heap.objs.size+1) scope.names h) qual func code aT builtins)
  _ (λ _ _ _=>rfl) J (λ n c e=>?sub) binds (λ _=>aT) (λ _=>aT) _ _ ⟨⟨⟨_,_,rfl⟩,?ns,λ b o e=>?k,aj _⟩,λ n c e=>(ok.empty n c (aK e)).1,ok.apart,λ n c e=>(ok.empty n c e).2⟩ hy λ s' x=>aG (go _ rfl s' x))
 case sub =>
  show(aW _ _ _).lookup n=al c;rw[zn,zK,e];rfl
 case ns=>exact(mR s.heap (.type "frame")).keeps (dJ _ _)
 case k=>exact dJ _ _ b o (ak _ e)
noncomputable def ql (c:Addr)(qual:Str):HO:=.ext λ h=>h.CodeRec (.ref c) qual
noncomputable def aw4 (f:Addr)(fd:bK):HO:=.ext λ h=>h.get? f=al { cls:=.type "function",data:=.func fd }
def aN5 (r:h.CodeRec (.ref c) q):ae4 P w H h c (ql c q):=by
 refine⟨r,?_,λ J Uu z k=>?_⟩
 .obtain⟨B,o,vs,t,e,g,_⟩:=r
  simp_all
 .obtain⟨B,o,vs,t,e,g,d⟩:=z;cases e;exact⟨c,o,vs,t,rfl,k o g,d⟩
def aC7 (x:HOk P w H h)(e:H c=al (ql c q)):h.CodeRec (.ref c) q:=(x c _ e).1
def av7 (r:h.get? f=al { cls:=.type "function",data:=.func B }):ae4 P w H h f (aw4 f B) :=
 ⟨r,⟨_,r⟩,λ _ _ z k=>k _ z⟩
def ay2 (x:HOk P w H h)(e:H f=al (aw4 f z)):h.get? f=al { cls:=.type "function",data:=.func z }:=(x f _ e).1
noncomputable def isC (cells:yC)(b:Addr):Bool:=cells.any λ p=>cells.lookup p.1==al b
def ag0 :isC cells b=bY↔∃ x,cells.lookup x=al b:=by
 unfold isC;rw[kX];constructor
 .rintro⟨p,_,e⟩;exact⟨p.1,by simpa using e⟩
 .rintro⟨x,e⟩;exact⟨(x,b),aK e,by simpa using e⟩
def ad0 (cells:yC)(H:Hp):Hp:=λ b=>if isC cells b=bY then aT else H b
def Put (cells:yC)(H H':Hp):Hp:=λ b=>if isC cells b=bY then H b else H' b
def ad0.cell (h:isC cells b=bY):ad0 cells H b=none:=ef h
def ad0.ne (h:isC cells b≠bY):ad0 cells H b=H b:=gc h
def ad0.some (h:ad0 cells H b=al o):isC cells b≠bY/\H b=al o:=by
 unfold ad0 at h;lia
def ad0.none (h:H b=aT):ad0 cells H b=none:=by
 unfold ad0;split
 .rfl
 .exact h
def Put.cell (h:isC cells b=bY):Put cells H H' b=H b:=ef h
def Put.ne (h:isC cells b≠bY):Put cells H H' b=H' b:=gc h
def Cells (clos:yC)(H:Hp):Prop:=∀ x c,clos.lookup x=al c->∃ o v,H c=al (.frz o (.own c))/\o.data=.cell v
def Cells.at (z:Cells B H)(h:isC B b=bY):∃ o v,H b=al (.frz o (.own b))/\o.data=.cell v:=by
 obtain⟨x,e⟩:=ag0.mp h;exact z x b e
def Cap (clos:yC)(H:Hp)(fr:yI)(cap:List V):Prop:=∀(i:Nat)  x   v ,fr[i]?=al x->cap[i]?=al v->∃ c o u,clos.lookup x=al c/\H c=al (.frz o (.own c))/\o.data=.cell (al u)/\RelV v u
structure LamScope (N ps fr:yI)(sc:Scope):Prop where
 kind:sc.kind=.function
 co:sc.isCoroutine=ce
 gen:sc.isGenerator=ce
 nd:N.Nodup
 app:N=ps++fr
 par:∀ x∈ps,sc.names.lookup x=al .local\/sc.names.lookup x=al .cell
 frs:∀ x∈fr,sc.names.lookup x=al .free
 cel:∀ y∈sc.names,y.2=.cell->sc.names.lookup y.1=al .cell
def aH5 (P:aF)(w:World)(K:ac)(mg:yD)(base:Heap)(N:yI)(qual:Str)(scope:Scope)(f:Addr)(cd:Value)(clos:yC)(A:aV)(outer:List Env)(s:af)(H:Hp):Cx where
 prog:=P
 w:=w
 K:=K
 mg:=mg
 base:=base
 A:=A.deeper (dE qual scope s.heap.objs.size f cd (aW (s.heap.objs.size+1) scope.names clos))
 N:=N
 s₀:=s
 H₀:=ad0 clos H
 env:=dE qual scope s.heap.objs.size f cd (aW (s.heap.objs.size+1) scope.names clos)
 outer:=outer
 stack:=dE qual scope s.heap.objs.size f cd (aW (s.heap.objs.size+1) scope.names clos)::outer
 ex:=[]
 fn:=λ x=>scope.names.lookup x==al .cell
 calm:=bY
 pn:=[]
 xe:=λ _ _=>False
def HOk.drop (x:HOk P w H h)(z:Cells B H):HOk P w (ad0 B H) h:=λ b o e=>by
 obtain⟨_,e'⟩:=ad0.some e;have nc:∀ c u,H c=al u->(∀ o v,u≠.frz o v)->isC B c≠true:=λ c u q d y=>by
  obtain⟨o,v,J,_⟩:=z.at y
  grind
 exact(x b o e').stay (λ _ _ _ q=>q) (λ c q=>by rw[ad0.ne (nc c _ q λ _ _=>by nofun)];exact q) λ c Uu q=>by rw[ad0.ne (nc c _ q λ _ _=>by nofun)];exact q
def bg2 {K:ac}{us:yH}{vs cap:List V}
  (S:LamScope N ps fr scope) (hd:A.handled=aT) (J:Env0 P w K mg base A B s H) (hl:vs.length=ps.length) (a2:cap.length=fr.length) (r:Vals vs us)
  (hc:Cells h H) (inj:∀ x y c,h.lookup x=al c->h.lookup y=al c->x=y) (a3:∀ x,scope.names.lookup x=al .free->∃ c,h.lookup x=al c) (a1:Cap h H fr cap)
  (x:gB s s.heap.objs.size (bindL (dE qual scope s.heap.objs.size f cd (aW (s.heap.objs.size+1) scope.names h)).kindOf (ps.zip us) λ _=>aT) (aW (s.heap.objs.size+1) scope.names [])
   (bindC (dE qual scope s.heap.objs.size f cd (aW (s.heap.objs.size+1) scope.names h)).kindOf (ps.zip us) λ _=>aT) s1) :
  Inv (aH5 P w K mg base N qual scope f cd h A B s H) [] (vs.map al++cap.map al) (ad0 h H) s1:=by
 obtain⟨h1,tk,rfl,hk⟩:=x.done;have Y:∀ b:Addr,b ∉ (aH5 P w K mg base N qual scope f cd h A B s H).ex:=λ b z=>iS (show b∈([]:List Addr)from z) (by simp);have lk:∀ y c,(aW (s.heap.objs.size+1) scope.names h).lookup y=al c->(aW (s.heap.objs.size+1) scope.names []).lookup y=al c\/((aW (s.heap.objs.size+1) scope.names []).lookup y=aT/\h.lookup y=al c):=λ y c e=>by
  rw[zn,zK]at e
  simp_all
 have own:∀ y c,(aW (s.heap.objs.size+1) scope.names []).lookup y=al c->s.heap.objs.size<c:=λ y c e=>x.above y c (aK e);have a0:∀ y c,h.lookup y=al c->c<s.heap.objs.size:=λ y c e=>by
  obtain⟨o,v,q,_⟩:=hc y c e;exact J.hok.lt q
 have hx:∀ y c,h.lookup y=al c->scope.names.lookup y=al .free->(aW (s.heap.objs.size+1) scope.names h).lookup y=al c:=λ y c e k=>by
  rw[zn,zK];cases q:(aW (s.heap.objs.size+1) scope.names []).lookup y with
  | none=>exact e
  | some d =>
   rcases zB (aK q)with z|z
   .rw[S.cel _ z rfl]at k;cases k
   simp_all
 have dn:∀ b,H b=aT->ad0 h H b=none:=λ b e=>ad0.none e;refine⟨⟨J.mod,S.kind,rfl,rfl,aj _,λ y z c a b=>?inj,λ y hy=>?has,λ y c hy e=>?cab,λ _=>hd,iU J.frames,.inr ⟨rfl,rfl⟩,λ b z=>iS z (Y b),λ b o e=>⟨(J.bs b o e).1,dn b (J.bs b o e).2⟩,J.bsz,λ b _ _=>Y b,λ b z=>iS z (Y b),J.funs,λ b hb=>dn b (J.frf b hb)⟩,
  rfl,J.bare,Un.kept hk,⟨_,x.toInCall.ns,λ i y v q1 q2 q3=>?loc⟩,λ y c e=>?cell,dn _ (J.hok.fresh (aj _)),λ y c e=>?freeC,λ p hp=>iS (show p∈([]:yA)from hp) (by simp),(J.hok.drop hc).kept hk,?len⟩
 case inj =>
  rcases lk y c a with a|⟨_,a⟩<;>rcases lk z c b with b|⟨_,b⟩
  .exact ic x.apart (aK a) (aK b)
  .exact iS (fq (own _ _ a) (a0 _ _ b)) (bP _)
  .exact iS (fq (own _ _ b) (a0 _ _ a)) (bP _)
  .exact inj y z c a b
 case has =>
  have hy:scope.names.lookup y=al .cell\/scope.names.lookup y=al .free:=hy;rcases hy with hy|hy
  .obtain⟨c,e⟩:=z0 (n:=s.heap.objs.size+1) hy;refine⟨c,?_⟩;show(aW (s.heap.objs.size+1) scope.names h).lookup y=al c;rw[zn,zK,e];rfl
  .obtain⟨c,e⟩:=a3 y hy;exact⟨c,hx y c e hy⟩
 case cab =>
  have hy:(scope.names.lookup y==al .cell)=true:=hy;have a4:scope.names.lookup y=al .cell:=by simpa using hy
  rcases lk y c e with a|⟨a,_⟩
  .exact d8 (own y c a)
  .obtain⟨d,q⟩:=z0 (n:=s.heap.objs.size+1) a4;rw[q]at a;cases a
 case loc =>
  have Z:ps.Nodup:=by have:=S.nd;rw[S.app]at this;exact(kF.mp this).1
  by_cases hi:i<vs.length
  .have ha:vs[i]?=al v:=by
    rw[aD (by simpa using hi),aL]at q2;cases e:vs[i]? with
    | none=>rw[e]at q2;cases q2
    | some a=>rw[e]at q2;cases q2;rfl
   obtain⟨u,hu,rv⟩:=r.get ha;have hp:ps[i]?=al y:=by
    have Uu:N[i]?=al y:=q1;rw[S.app,aD (by lia)]at Uu;exact Uu
   refine⟨u,rv,?_⟩;rcases S.par y (aE hp)with k|k
   .exact .inl ⟨k,ar5 Z hp hu k⟩
   .obtain⟨c,e⟩:=z0 (n:=s.heap.objs.size+1) k;refine .inr ⟨.inl k,c,?_,?_⟩
    .show(aW (s.heap.objs.size+1) scope.names h).lookup y=al c;rw[zn,zK,e];rfl
    .have q:=x.cell y c e;rw[ar8 Z hp hu (by show scope.names.lookup y≠_;rw[k];decide)]at q;exact q
  .have hf:fr[i - vs.length]?=al y:=by
    have Uu:N[i]?=al y:=q1;rw[S.app,ay (by lia)]at Uu;rw[hl];exact Uu
   have hv:cap[i - vs.length]?=al v:=by
    rw[ay (by simpa using hi),aL,aw]at q2;cases e:cap[i - vs.length]? with
    | none=>rw[e]at q2;cases q2
    | some a=>rw[e]at q2;cases q2;rfl
   refine wl λ _ ua=>?_;obtain⟨c,o,u,e1,e2,e3,e4⟩:=a1 _ y v hf hv;have kf:=S.frs y (aE hf);refine ua ⟨u,e4,.inr ⟨.inr kf,c,hx y c e1 kf,?_⟩⟩;exact⟨o,hk c o (J.hok c _ e2).1,e3⟩
 case cell =>
  rcases lk y c e with a|⟨_,a⟩
  .exact⟨_,x.cell y c a⟩
  .obtain⟨o,v,q,d⟩:=hc y c a;exact⟨v,o,hk c o (J.hok c _ q).1,d⟩
 case freeC =>
  rcases lk y c e with a|⟨_,a⟩
  .exact dn c (J.hok.fresh (d8 (own y c a)))
  .exact ad0.cell (ag0.mpr ⟨y,a⟩)
 case len =>
  show _=N.length;rw[S.app]
  simp_all
def bb5 {s s':af}(hok:HOk P w H s.heap)(hc:Cells h H)(frf:∀ b∈frs B,H b=aT)
  (un:Un (frs B) [] (ad0 h H) H' s.heap s'.heap) (Y:HOk P w H' s'.heap):Un (frs B) [] H (Put h H H') s.heap s'.heap/\HOk P w (Put h H H') s'.heap:=by
 have nc:∀ b,H b=aT->isC h b≠true:=λ b e y=>by
  obtain⟨o,v,q,_⟩:=hc.at y;lia
 have J:∀ c u,H c=al u->(∀ o v,u≠.frz o v)->isC h c≠true:=λ c u q d y=>by
  obtain⟨o,v,Z,_⟩:=hc.at y
  grind
 have Uu:∀ b,isC h b=bY->H' b=none:=λ b y=>by
  obtain⟨o,v,q,_⟩:=hc.at y;exact un.free b o (hok b _ q).1 (ad0.cell y) (by simp)
 refine⟨⟨λ b o e n hb hx=>un.keep b o e (ad0.none n) hb hx,λ b o e n hb hx=>un.slot b o e (ad0.none n) hb hx,λ b o e n hx=>?_,λ b o e hx=>un.there b o e hx,λ b xs e=>?_,λ b o u e=>?_,λ b ps e=>?_⟩,λ b o e=>?_⟩
 .rw[Put.ne (nc b n)];exact un.free b o e (ad0.none n) hx
 .have z:=J b _ e λ _ _=>by nofun
  rw[Put.ne z];exact un.tups b xs (by rw[ad0.ne z];exact e)
 .by_cases z:isC h b=bY
  .rw[Put.cell z];exact e
  .rw[Put.ne z];exact un.frzs b o u (by rw[ad0.ne z];exact e)
 .have z:=J b _ e λ _ _=>by nofun
  rw[Put.ne z];exact un.tbls b ps (by rw[ad0.ne z];exact e)
 .by_cases z:isC h b=bY
  .rw[Put.cell z]at e;obtain⟨ob,v,q,d⟩:=hc.at z;rw[q]at e;cases e;have g:=(hok b _ q).1;have g':=un.keep b ob g (ad0.cell z) (λ y=>by simp_all) (by simp);exact⟨g',ob,g'⟩
  .rw[Put.ne z]at e;have np:∀ c u,H' c=al u->Put h H H' c=al u:=λ c u q=>by
    rw[Put.ne λ y=>by simp_all];exact q
   exact(Y b o e).stay (λ _ _ _ q=>q) (λ c q=>np c _ q) λ c xs q=>np c _ q
structure ClOk (P:aF)(w:World)(K:ac)(mg:yD)(base:Heap)(k:Nat)(R:Hp->Prop)(f:Addr)(sp:Sp):Prop where
 run:∀(A:aV) (outer:List Env) (s:af) (H:Hp) (us:yH) (vs:List V) (Q:VK),Room k A->Env0 P w K mg base A outer s H->R H->Vals vs us->sp vs H Q E0 ->
  fF (model P w) A (.call (.ref f) ⟨us,[]⟩) (CR CX0 outer P w H s Q E0) s
def ClOk.ofFn {K}(F:FnOk P w K mg base CX0 k f J ps sp)(hb:Binds K J ps []):ClOk P w K mg base k (λ _=>True) f sp :=
 ⟨λ A z s H us vs Q hr B _ r h=>by
  have Uu:=F.len _ _ _ _ h;have:=hb s us (B.mod.kin.keeps λ b o e=>(B.bs b o e).1) (by rw[aY,<-r.length];exact Uu);rw[aY]at this;exact F.run A z s H ⟨us,[]⟩ us vs Q E0 hr B this r h⟩
def aE7 (H:Hp)(f:Addr)(qual:Str)(params:bD)(body:Expr)(scope:Scope)(fr:yI)(cap:List V)(clos:yC):Prop :=
 ∃ pm c' ctv,H f=al (aw4 f (cx "<lambda>" qual params body scope clos pm (.ref c') ctv))/\H c'=al (ql c' qual)/\Cells clos H /\
  (∀ x y c,clos.lookup x=al c->clos.lookup y=al c->x=y)/\(∀ x,scope.names.lookup x=al .free->∃ c,clos.lookup x=al c)/\Cap clos H fr cap
def BM (mg:yD)(base:Heap):Prop:=∃ bm ob,mg "__builtins__"=al (.ref bm)/\bm≠g9/\base.get? bm=al ob/\ob.cls=.type "module"/\ob.dict=al g9/\ob.data=.plain
def cr5 (cells:yC)(P:Addr)(qual:Str)(params:bD)(body:Expr)(scope:Scope)(pos:Pos):TE:=λ _ H Q =>
 ∃ ps:Array Value,H P=al (.tbl ps)/\jK ps.toList /\
  (dz pos ps.toList=aT->∀ c' f pm ctv,H c'=aT->H f=aT->c'≠f ->
   Q (.ref f) (upd (upd (upd H P (.tbl (ps++#[du pos.line,du pos.col,.ref c']))) c' (ql c' qual)) f (aw4 f (cx "<lambda>" qual params body scope (af6 cells scope.names []) pm (.ref c') ctv)))) /\
  (∀ cv,dz pos ps.toList=al cv->∃ c',cv=.ref c'/\∀ f pm ctv,H f=aT->Q (.ref f) (upd H f (aw4 f (cx "<lambda>" qual params body scope (af6 cells scope.names []) pm (.ref c') ctv))))
noncomputable def lamCheck (scope xs:Scope):Bool:=scope.names.all λ y=>!(y.2==.free)||(xs.names.lookup y.1==al .cell||xs.names.lookup y.1==al .free)
def aX7 (Uu:X.env.code=.ref c)(Cc:bG X.base c P)(hB:BM X.mg X.base)
  (c0:lamCheck scope X.env.scope=bY) (a2:autoParam (lK params X.env=([],[])) Zq4._auto_1) :
  PE X (.Lambda params body scope pos) (cr5 X.env.cells P (X.env.qual ++ "<lambda>") params body scope pos):=by
 intro d1 s W H Q I h;have c1:∀ y∈scope.names,y.2=.free->X.env.kindOf y.1=al .cell\/X.env.kindOf y.1=al .free:=λ y hy e=>by
  have z:=aI.mp c0 y hy;have z':=by simpa [e]using z
  exact z'
 obtain⟨ps,Z,ht,a6,b0⟩:=h;refine PySem.W.kla_eval a2 ?_;have hcl:=qh λ y hy e=>I.ok.has y.1 (c1 y hy e);have oP:=I.hok P _ Z;have a0:=I.mod.glob.keeps I.bk;have hC:=Cc.keeps I.bk;have c4:aU≠P:=λ q=>by
  obtain⟨o,es,ep,e,d,_⟩:=a0;rw[q,oP]at e;cases e;cases d
 have hb:s.heap.BuiltinsAt X.mg P:=by
  obtain⟨bm,ob,b1,b2,b3,b4,b5,b6⟩:=hB;refine⟨bm,ob,b1,b2,λ q=>?_,λ q=>?_,I.bk _ _ b3,b4,b5,b6⟩
  .obtain⟨o,es,ep,e,d,_⟩:=I.mod.glob;rw[q,e]at b3;cases b3;rw[d]at b6;cases b6
  .have e:=I.bk _ _ b3;rw[q,oP]at e;cases e;cases b4
 cases q:dz pos ps.toList with
 | none =>
  refine PySem.W.kla_makeFunction hcl I.ok.glob a0 Uu hC oP ht q c4 hb λ B J h' tk hx hge hlt a8 a5=>?_;have a4:=aN oP;have c3:=ed (az a4 hge);have d0:=ed (fq (az a4 hge) hlt);have c5:=aH hlt;have hsz:=aq hge (d8 hlt);have nP:∀ b,H b=aT->b≠P:=λ b n z=>by rw[z,Z]at n;cases n
  have lt:∀ b o,H b=al o->b≠B/\b≠h'.objs.size:=λ b o e=>⟨aH (az (I.hok.lt e) hge),aH (az (I.hok.lt e) hsz)⟩
  have a1:∀ b o,s.heap.get? b=al o->b≠B/\b≠h'.objs.size:=λ b o e=>⟨aH (az (aN e) hge),aH (az (aN e) hsz)⟩
  have keep:∀ b o,b≠P->s.heap.get? b=al o->(h'.push (PySem.W.kla_obj "<lambda>" (X.env.qual ++ "<lambda>") params body scope (af6 X.env.cells scope.names []) ((X.mg "__name__").getD .none) B J)).get? b=al o:=λ b o n e=>ak _ (hx b o n e);have Y:∀ b,b≠P->b≠B->b≠h'.objs.size->∀ o1 o2 o3,upd (upd (upd H P o1) B o2) h'.objs.size o3 b=H b:=λ b n1 n2 n3 o1 o2 o3=>by rw[zb n3,zb n2,zb n1]
  refine⟨.ref h'.objs.size,upd (upd (upd H P (.tbl (ps++#[du pos.line,du pos.col,.ref B]))) B (ql B (X.env.qual ++ "<lambda>"))) h'.objs.size (aw4 h'.objs.size (cx "<lambda>" (X.env.qual ++ "<lambda>") params body scope (af6 X.env.cells scope.names []) ((X.mg "__name__").getD .none) (.ref B) J)),I.un (t':=tk) ⟨λ b o e n _ _=>keep b o (nP b n) e,λ b o e n _ _=>⟨o.slots,keep b o (nP b n) e⟩,λ b o e n _=>?fr,λ b o e _=>?th,λ b xs e=>?tu,λ b o u e=>?fz,λ b qs e=>?tb⟩ ?ok,rfl,a6 q B h'.objs.size _ J (I.hok.fresh hge) (I.hok.fresh hsz) c5⟩
  case fr=>rw[Y b (nP b n) (a1 b o e).1 (a1 b o e).2];exact n
  case th =>
   by_cases z:b=P
   .subst z;exact⟨_,ak _ a5⟩
   .exact⟨o,keep b o z e⟩
  case tu=>rw[Y b (λ z=>by rw[z,Z]at e;cases e) (lt b _ e).1 (lt b _ e).2];exact e
  case fz=>rw[Y b (λ z=>by rw[z,Z]at e;cases e) (lt b _ e).1 (lt b _ e).2];exact e
  case tb =>
   by_cases z:b=P
   .subst z;rw[Z]at e;cases e;exact⟨#[du pos.line,du pos.col,.ref B],by rw[zb (bH d0),zb (bH c3),zg]⟩
   .exact⟨#[],by rw[Y b z (lt b _ e).1 (lt b _ e).2,e];simp⟩
  case ok =>
   intro b o e;by_cases zf:b=h'.objs.size
   .subst zf;rw[zg]at e;cases e;exact av7 (aX _ rfl)
   .rw[zb zf]at e;by_cases zc:b=B
    .subst zc;rw[zg]at e;cases e;refine wl λ _ ua=>?_;obtain⟨c2,oc,vs,t,e1,e2,e3⟩:=a8;exact ua $ aN5 ⟨c2,oc,vs,t,e1,ak _ e2,e3⟩
    .rw[zb zc]at e;by_cases zp:b=P
     .subst zp;rw[zg]at e;cases e;exact ak _ a5
     .rw[zb zp]at e;have a3:∀ d u,H d=al u->(∀ ps,u≠.tbl ps)->upd (upd (upd H P (.tbl (ps++#[du pos.line,du pos.col,.ref B]))) B (ql B (X.env.qual ++ "<lambda>"))) h'.objs.size (aw4 h'.objs.size (cx "<lambda>" (X.env.qual ++ "<lambda>") params body scope (af6 X.env.cells scope.names []) ((X.mg "__name__").getD .none) (.ref B) J)) d=al u:=λ d u e nt=>by
       rw[Y d (λ z=>by rw[z,Z]at e;cases e;exact nt _ rfl) (lt d _ e).1 (lt d _ e).2];exact e
      refine(I.hok b o e).stay (λ d u hd q=>keep d u ?_ q) (λ d q=>a3 d _ q λ _=>by nofun) λ d xs q=>a3 d _ q λ _=>by nofun
      rintro rfl
      rcases hd with hd|hd
      .exact zp hd.symm
      .rw[Z]at hd;cases hd
 | some cv =>
  obtain⟨B,rfl,hq⟩:=b0 cv q;refine PySem.W.kla_makeFunctionHit (mg:=X.mg) hcl I.ok.glob a0 Uu hC oP ht q hb λ J h' tk hk hsz=>?_;refine⟨.ref h'.objs.size,_,I.laid (t':=tk) (λ b o e=>ak _ (hk b o e)) hsz (av7 (aX _ rfl)),rfl,hq h'.objs.size _ J (I.hok.fresh hsz)⟩
structure Caught (cl:yC)(N:yI)(kd:Str->Option cu)(W:St)(H1 H2:Hp):Prop where
 ne:∀ b,isC cl b≠bY->H2 b=H1 b
 free:∀ b,isC cl b=bY->H1 b=aT
 cells:Cells cl H2
 cap:∀(i:Nat) (x:Str) (v:V) (c:Addr),N[i]?=al x->W[i]?=al (al v)->(kd x=al .cell\/kd x=al .free)->cl.lookup x=al c->∃ o u,H2 c=al (.frz o (.own c))/\o.data=.cell (al u)/\RelV v u
 inj:∀ x y c,cl.lookup x=al c->cl.lookup y=al c->x=y
def ce3 (cl:yC)(N:yI)(kd:Str->Option cu)(sp:Sp)(t:TA):TE:=λ W H Q=>t W H λ vs H1=>∀ H2,Caught cl N kd W H1 H2->sp vs H2 (λ v H3=>Q v (ad0 cl H3)) E0
def bF3 {W:St}{us:yH}(F:FnOk X.prog X.w X.K X.mg X.base CX0 k f fd ps sp)(hr:Room k X.A)(hb:Binds X.K fd ps [])
  (a8:∀ x,X.fn x=bY) (I:Inv X Uu W H s) (r:Vals vs us) (h:∀ H2,Caught X.env.cells X.N X.env.kindOf W H H2->sp vs H2 (λ v Z=>Q v (ad0 X.env.cells Z)) E0):wpAny (model X.prog X.w) X.A (call (.ref f) us) (EP X Uu W Q) X.xe s:=by
 let H2:Hp:=λ b=>if isC X.env.cells b=bY then(s.heap.get? b).map λ o=>.frz o (.own b)else H b
 have B:∀ b,isC X.env.cells b≠bY->H2 b=H b:=λ b z=>gc z;have J:∀ b,isC X.env.cells b=bY->∃ o v,s.heap.get? b=al o/\o.data=.cell v/\H2 b=al (.frz o (.own b)):=λ b z=>by
  obtain⟨x,e⟩:=ag0.mp z;obtain⟨v,o,g,d⟩:=I.cell x b e;exact⟨o,v,g,d,by show(if _ then _ else _)=_;rw[ef z,g];rfl⟩
 have fr:∀ b,isC X.env.cells b=bY->H b=none:=λ b z=>by
  obtain⟨x,e⟩:=ag0.mp z;exact I.freeC x b e
 have up:∀ b,isC X.env.cells b=bY->X.s₀.heap.objs.size<=b:=λ b z=>by
  obtain⟨x,e⟩:=ag0.mp z;exact I.ok.cab x b (a8 x) e
 have a3:∀ b o,X.s₀.heap.get? b=al o->isC X.env.cells b≠true:=λ b o e z=>iS (az (aN e) (up b z)) (bP _);have a2:∀ b∈frs X.stack,isC X.env.cells b≠true:=λ b hb z=>by
  rcases aB.mp (I.stkSub b hb)with e|hb
  .obtain⟨x,e2⟩:=ag0.mp z;exact I.cne x b e2 e
  .obtain⟨_,o,ho,_⟩:=I.ok.funs.mem hb;exact a3 b o ho z
 have a6:HOk X.prog X.w H2 s.heap:=λ b o e=>by
  by_cases z:isC X.env.cells b=bY
  .obtain⟨ob,v,g,d,q⟩:=J b z;rw[q]at e;cases e;exact⟨g,ob,g⟩
  .rw[B b z]at e;have np:∀ c u,H c=al u->H2 c=al u:=λ c u q=>by rw[B c λ y=>by rw[fr c y]at q;cases q];exact q
   exact(I.hok b o e).stay (λ _ _ _ q=>q) (λ c q=>np c _ q) λ c xs q=>np c _ q
 have nb:∀ b o,X.base.get? b=al o->isC X.env.cells b≠true:=λ b o e=>a3 b o (I.ok.bs b o e).1;have e0:Env0 X.prog X.w X.K X.mg X.base X.A X.stack s H2:=⟨I.ok.frames,I.ok.mod,λ b o e=>⟨(I.bs b o e).1,by rw[B b (nb b o e)];exact(I.bs b o e).2⟩,aq I.ok.bsz I.sz,I.stack,λ b hb=>by rw[B b (a2 b hb)];exact I.stkFree b hb,a6,I.bare⟩
 have ca:Caught X.env.cells X.N X.env.kindOf W H H2:=⟨B,fr,λ x c e=>by
   obtain⟨o,v,g,d,q⟩:=J c (ag0.mpr ⟨x,e⟩);exact⟨o,v,q,d⟩,λ i x v c e1 e2 e3 e4=>by
   obtain⟨m,hn,hl⟩:=I.loc;have vis:Vis X.env.scope x:=e3.elim (λ z=>.inr (.inl z)) λ z=>.inr (.inr z);obtain⟨u,ru,lk⟩:=hl i x v e1 e2 vis;rcases lk with⟨z,_⟩|⟨_,c2,z1,z2⟩
   .simp_all
   .rw[e4]at z1;cases z1;obtain⟨o,w',g,d,q⟩:=J c (ag0.mpr ⟨x,e4⟩);obtain⟨o2,g2,d2⟩:=z2;rw[g]at g2;cases g2;exact⟨o,u,q,d2,ru⟩,I.ok.inj⟩
 have a5:=h H2 ca;have hl:=F.len _ _ _ _ a5;have a1:=hb s us I.kIn (by rw[aY,<-r.length];exact hl);rw[aY]at a1;refine j8 (fg (F.run X.A X.stack s H2 ⟨us,[]⟩ us vs _ E0 hr e0 a1 r a5) λ r s' hq=>?_);cases r with
 | error e=>exact bn hq
 | ok fl =>
  cases fl with
  | next=>exact bn hq
  | brk=>exact bn hq
  | cont=>exact bn hq
  | ret u =>
   obtain⟨v,Z,os,bare,un,a4,rv,q⟩:=hq;have a0:∀ b,isC X.env.cells b=bY->∃ o,s.heap.get? b=al o/\s'.heap.get? b=al o/\Z b=al (.frz o (.own b)):=λ b z=>by
    obtain⟨o,v,g,d,q2⟩:=J b z;have q3:=un.frzs b o _ q2;exact⟨o,g,(a4 b _ q3).1,q3⟩
   have Y:∀ b u,H b=al u->isC X.env.cells b≠true:=λ b u e y=>by simp_all
   refine⟨v,_,I.call' (H':=ad0 X.env.cells Z) (ch:=[]) os ⟨λ b o e n hb hx=>?k,λ b o e n hb hx=>?sl,λ b o e n hx=>?fr,λ b o e hx=>un.there b o e hx,λ b xs e=>?tu,λ b o u e=>?fz,λ b ps e=>?tb⟩ (λ b o e=>?hok) bare (λ b z=>iS z (by simp)),rv,q⟩
   case k =>
    by_cases z:isC X.env.cells b=bY
    .grind
    .exact un.keep b o e (by rw[B b z];exact n) hb hx
   case sl=>exact un.slot b o e (by rw[B b (a2 b hb)];exact n) hb hx
   case fr =>
    by_cases z:isC X.env.cells b=bY
    .exact ad0.cell z
    .exact ad0.none (un.free b o e (by rw[B b z];exact n) hx)
   case tu =>
    rw[ad0.ne (Y b _ e)];exact un.tups b xs (by rw[B b (Y b _ e)];exact e)
   case fz =>
    rw[ad0.ne (Y b _ e)];exact un.frzs b o u (by rw[B b (Y b _ e)];exact e)
   case tb =>
    rw[ad0.ne (Y b _ e)];exact un.tbls b ps (by rw[B b (Y b _ e)];exact e)
   case hok =>
    obtain⟨z,e3⟩:=ad0.some e;have np:∀ c u,Z c=al u->(∀ o w',u≠.frz o w')->ad0 X.env.cells Z c=al u:=λ c u q d=>by
     rw[ad0.ne λ y=>by grind];exact q
    exact(a4 b o e3).stay (λ _ _ _ q=>q) (λ c q=>np c _ q λ _ _=>by nofun) λ c xs q=>np c _ q λ _ _=>by nofun
def aM7 {p pos}{es:yL}(F:FnOk X.prog X.w X.K X.mg X.base CX0 k f Y ps sp)(hr:Room k X.A)(hg:Gl X x)(hm:X.mg x=al (.ref f))(hk:bJ X.K (.ref f)=bY)(hb:Binds X.K Y ps [])
  (B:∀ x,X.fn x=bY) (ha:PA X (e::es) t) (Uu:autoParam ((x==("__debug__":Str))=ce) Zq1._auto_1) (he:autoParam (a9 (e::es) X.env=(ce,eval e X.env)::a9 es X.env) Zq4._auto_1) (J:autoParam ((cQ pos (a9 es X.env)).any (·.1)=ce) Zq4._auto_1) :
  PE X (.Call (.Name x p) (e::es) [] pos) (ce3 X.env.cells X.N X.env.kindOf sp t):=by
 intro z s W H Q I h;refine cr (aj6 I hg hm ?_ Uu);refine eR I.ok.mod.kin hk (thn (ha pos z s W H _ I h) λ us s1 ⟨vs,H1,Z,r,q⟩=>⟨Z.kIn,?_⟩) he J;exact bF3 F hr hb B Z r q
def bI7 (K:ac)(H:Hp)(f:Addr):Prop:=(∃ fd,H f=al (aw4 f fd))\/∃ oc od fd sl,K.lookup f=al ⟨oc,od,.func fd,sl⟩
def bI7.at {W:St}(h:bI7 X.K H f)(I:Inv X z W H s):PySem.W.FnAt f s.heap:=by
 rcases h with⟨B,h⟩|⟨oc,od,B,sl,h⟩
 .exact⟨_,_,_,_,ay2 I.hok h⟩
 .exact⟨_,_,_,_,I.kIn _ _ h⟩
def bU2 (P:aF)(w:World)(K:ac)(mg:yD)(base:Heap)(k:Nat)(i:Nat)(t:TA):TE:=λ W H Q=>∃ f,W[i]?=al (al (.ref f))/\bI7 K H f/\t W H λ vs H1=>bI7 K H1 f/\∃ R sp,ClOk P w K mg base k R f sp/\R H1/\sp vs H1 Q E0
def cb7 {W:St}{us:yH}(F:ClOk X.prog X.w X.K X.mg X.base k R f sp)(hr:Room k X.A)(I:Inv X z W H s)(B:R H)(r:Vals vs us)(h:sp vs H Q E0) :
  wpAny (model X.prog X.w) X.A (call (.ref f) us) (EP X z W Q) X.xe s:=by
 refine j8 (fg (F.run X.A X.stack s H us vs Q hr I.env0 B r h) λ r s' hq=>?_);cases r with
 | error e=>exact bn hq
 | ok fl =>
  cases fl with
  | ret u=>exact I.after hq
  | next=>exact bn hq
  | brk=>exact bn hq
  | cont=>exact bn hq
def bs4 {X:Cx}{K}{mg:yD}{ pos}{es:yL}(hP:X.prog=P)(hw:X.w=w)(hK:X.K=K)(B:X.mg=mg)(Uu:X.base=base)(hr:Room k X.A)(hv:PE X (.Name x p) (bx0 i))(ha:PA X (e::es) t)
  (he:autoParam (a9 (e::es) X.env=(ce,eval e X.env)::a9 es X.env) Zq4._auto_1) (J:autoParam ((cQ pos (a9 es X.env)).any (·.1)=ce) Zq4._auto_1) :
  PE X (.Call (.Name x p) (e::es) [] pos) (bU2 P w K mg base k i t):=by
 subst hP hw hK B Uu;intro z s W H Q I h;obtain⟨f,hW,hf,ht⟩:=h;refine cr (thn (hv z s W H (λ v H'=>v=.ref f/\H'=H) I ⟨.ref f,hW,rfl,rfl⟩) λ u s0 ⟨v,H0,Y,r0,ev,eH⟩=>?_);subst ev;subst eH;cases r0;exact PySem.W.callWith_F (hf.at Y) (thn (ha pos z s0 W H0 _ Y ht) λ us s1 ⟨vs,H1,Z,r,hF,R,sp,F,hR,q⟩=>⟨hF.at Z,cb7 F hr Z hR r q⟩) he J
noncomputable def aE3 (K:ac)(names:yI):List (Str×Addr×Addr):=names.filterMap λ x=>(bB K x).map λ p=>(x,p)
def at4 {K}:y∈aE3 K names↔y.1∈names/\bB K y.1=al y.2:=by
 unfold aE3;rw[cK];constructor
 .rintro⟨x,hx,e⟩
  obtain⟨p,h,rfl⟩:=bq.mp e;exact⟨hx,h⟩
 .rintro⟨hx,e⟩
  exact⟨y.1,hx,by rw[e];rfl⟩
def bO1 (K:ac)(names:yI)(base:Heap):Prop:=∀ x∈names,∀ c P,bB K x=al (c,P)->bG base c P
def bF2 (K:ac)(names:yI)(H:Hp):Prop:=∀ x∈names,∀ c P,bB K x=al (c,P)->H P=al (.tbl #[])
noncomputable def bT4 (K:ac)(names:yI)(ts:List Addr):Bool:=names.all λ x=>match bB K x with
 | some (c,P)=>kY K c P&&ts.contains P
 | none=>bY
def az7 {K}(h:(bB K x).isSome=bY):bB K x=al (((bB K x).getD (0,0)).1,((bB K x).getD (0,0)).2):=by
 obtain⟨p,e⟩:=ci.mp h;rw[e];rfl
def cf2 (H:Hp)(P:Addr)(q:Str):Prop:=∃ ps:Array Value,H P=al (.tbl ps)/\jK ps.toList/\∀ pos cv,dz pos ps.toList=al cv->∃ c',cv=.ref c'/\H c'=al (ql c' q)
def TabsH (T:List (Addr×Str))(H:Hp):Prop:=∀ y∈T,cf2 H y.1 y.2
def ba5 (H H':Hp):Prop:=∀ b o,(∀ ps,o≠.tbl ps)->H b=al o->H' b=al o
def ba5.of (a:ag5 H z):ba5 H z:=λ c o _ h=>a c o h
def TabsH.keep (h:TabsH T H)(k:∀ b o,(∀ J,o≠.J J)->H b=al o->H' b=al o):TabsH T H':=λ y hy=>by
 obtain⟨ps,e,t,c⟩:=h y hy;refine⟨ps,k _ _ (λ _=>by nofun) e,t,λ pos z q=>?_⟩;obtain⟨B,e1,e2⟩:=c pos z q;exact⟨B,e1,k _ _ (λ _=>by unfold ql;nofun) e2⟩
def TabsH.same (h:TabsH T H)(s:ag5 H H'):TabsH T H':=h.keep λ b o _ e=>s b o e
theorem TabsH.new (h:TabsH T H)(n:H a=aT):TabsH T (upd H a o):=h.same ((ag5.refl H).new n)
def TabsH.put (h:TabsH T H)(n:H a=al (.J B)):TabsH T (upd H a o):=h.keep λ b u d e=>by
 rw[zb λ z=>by grind];exact e
def TabsH.init (h:∀ p∈T.map (·.1),H p=al (.tbl #[])):TabsH T H:=λ y hy =>
 ⟨#[],h _ (bv hy),trivial,λ pos z e=>by simp[dz]at e⟩
set_option tactic.hygienic true in
def codeAmong_add :∀(l:yH),jK l->dz pos (l++[du a,du b,c])=al B->dz pos l=al B\/B=c:=by
 intro l
 fun_induction jK l with
 | case1 =>
  intro _ e;simp only[ir,dz,du]at e;split at e
  .exact .inr (av e).symm
  .cases e
 | case2 x t y u z rest ih =>
  intro h e;simp only[dq,dz]at e ⊢;split at e
  .rename_i q
   left;rw[ef q];exact e
  .rename_i q;rw[gc q];exact ih h e
 | case3 l h1 h2=>simp_all
def bt3 (B:Caught cells N kd W Z H2)
  (hf:∃ pm Uu h,Z f=al (aw4 f (cx "<lambda>" q params body scope (af6 cells scope.names []) pm (.ref Uu) h))/\Z Uu=al (ql Uu q))
  (J:∀ x,scope.names.lookup x=al .free->∃ c,cells.lookup x=al c)
  (Y:∀(i:Nat) (x:Str) (v:V),fr[i]?=al x->cap[i]?=al v->scope.names.lookup x=al .free/\(kd x=al .cell\/kd x=al .free)/\∃ j:Nat,N[j]?=al x/\W[j]?=al (al v)) :
  aE7 H2 f q params body scope fr cap (af6 cells scope.names []):=by
 obtain⟨pm,Uu,h,h1,h2⟩:=hf;have up:∀ b o,Z b=al o->H2 b=al o:=λ b o e=>by
  rw[B.ne b λ z=>by rw[B.free b z]at e;cases e];exact e
 have sub:∀ x c,(af6 cells scope.names []).lookup x=al c->cells.lookup x=al c:=λ x c e=>by
  rcases clOf_mem (aK e)with z|z
  all_goals simp_all
 refine⟨pm,Uu,h,up _ _ h1,up _ _ h2,λ x c e=>B.cells x c (sub x c e),λ x y c e1 e2=>B.inj x y c (sub x c e1) (sub y c e2),λ x k=>?_,λ i x v e1 e2=>?_⟩
 .obtain⟨c,e⟩:=J x k;exact⟨c,qk e (aK k)⟩
 .refine wl λ _ ua=>?_;obtain⟨k,kk,j,e3,e4⟩:=Y i x v e1 e2;obtain⟨c,e⟩:=J x k;obtain⟨o,u,e5,e6,e7⟩:=B.cap j x v c e3 e4 kk e;exact ua ⟨c,o,u,qk e (aK k),e5,e6,e7⟩
def Caught.same {cells}(B:Caught cells N kd W h H2):ag5 h H2:=λ b o e=>by
 rw[B.ne b λ z=>by rw[B.free b z]at e;cases e];exact e
def Fun.okC {K}{st}(F:Fun K x qual st f Uu)(J:Uu.code=.ref c)(S:FnScope N ps (defScope st))(len:∀ vs H Q E,sp vs H Q E->vs.length=ps.length)
  (B:∀(A:aV) (z:List Env) (s:af) (H:Hp) (vs:List V) (Q:VK) (E:XK),Room k (A.deeper (fQ qual (defScope st) s.heap.objs.size f (.ref c)))->sp vs H Q E ->
   ∃ t,PSs (as8 CX0 P w K mg base N qual (defScope st) f (.ref c) A z s H E).nox (defBody st) t/\t { nx:=λ _ H'=>Q .N H',rt:=Q } (ai7 N vs) H):FnOk P w K mg base CX0 (k+1) f Uu ps sp:=by
 obtain⟨oc,od,kV,a1,pm,an,Z,ct,a0,rfl,lk,hc⟩:=F.ex;have e:=J;subst e;refine bM6 lk hc S len λ A z s H vs Q E hr Y=>?_;obtain⟨t,h,q⟩:=B A z s H vs Q E hr Y;exact⟨t,h.nox,q⟩
noncomputable def ch9 (lo:Int)(n:Nat):It:=⟨λ i _=>i<n,λ i H x H'=>H'=H/\x=.int (lo+i*2),λ i _=>n<=i⟩
def aH7 {K} it  Uu  n :Turn P w K tg (ch9 Uu n) [it] it (λ i h=>iR h it (Uu+(i)*2) ((n) - (i)) 2) where
 mem:=by simp
 obj:=λ i h st b hb=>by
  simp_all
 keep:=λ i h h' st k=>k it (by simp) _ st
 item:=by
  intro X hP hw hK hc i B s W H E I Y st hg;subst hP hw hK;obtain⟨f0,f1,f2,f3,f4,Z⟩:=Y it (by simp);have Ww:=mO (prog:=X.prog) (w:=X.w) (I.ok.hd hc) it Uu 2 n;refine Ww.item i s _ _ hg st λ v h' tk hv J kk=>?_;obtain⟨t,rfl⟩:=hv;have I1:Inv X B W H { s with heap:=h',toks:=tk }:=I.turned (λ b o hb e=>kk b o (by simp_all) e) f0 f1 f3 f4 Z;exact⟨_,rfl,bc0 J rfl rfl (by decide) ⟨.int (Uu+i*2),H,I1,⟨t,rfl⟩,⟨rfl,rfl⟩,J,λ b hb=>(Y b hb).1⟩⟩
 done:=by
  intro X hP hw hK hc i B s W H E I Y st hg;subst hP hw hK;obtain⟨f0,f1,f2,f3,f4,Z⟩:=Y it (by simp);exact hV (I.ok.hd hc) st (by have:n<=i:=hg;omega) λ h' eb=>⟨rfl,I.turned (λ b o hb e=>eb b o hb e) f0 f1 f3 f4 Z⟩
 self:=λ _ _ _ _ _ st h=>hZ st h
def ay7 :b8 a b 2=if a<b then(b - a - 1) / 2+1 else 0:=by
 unfold b8;rw[ef (by decide)]
def bk3 (ha:0<=a)(h:a<2^20)(hb:0<=b)(z:b<2^20):jT a b 2=true:=by
 unfold jT;rw[ay7];simp only[lB,ae,b7,li,show(2:Int) > 0 by decide,if_true];split<;>omega
def rowO (r:List (Option Int)):D:=.tp (r.map ct2)
def aW0 {K}(hc:X.calm=bY)(hK:X.K=K):ae5 X (.builtin "min") (λ xs H Q=>∃ a ns,xs=[.ref a]/\SqL K H a (ns.map V.int)/\ns≠[]/\∀ m∈ns,(∀ y∈ns,m<=y)->Q (.int m) H):=by
 subst hK;intro a0 s W H xs us Q I r h;obtain⟨a,ns,rfl,hS,Uu,q⟩:=h;obtain⟨u,rfl,ru⟩:=ai1 r;cases ru;obtain⟨its,Y,pl,hz⟩:=I.list hS;have hl:=Y.length;rw[aw]at hl;have a1:=jU.mpr Uu;refine call_min_walk (eZ pl.isList ?_);have J:a<s.heap.objs.size:=by obtain⟨o,_,e,_⟩:=pl;exact aN e
 have Ww:=mY (prog:=X.prog) (w:=X.w) (A:=X.A.in1) (I.ok.hd hc) s.heap.objs.size a (aH J) its.toArray
 let val:=λ i=>ns.getD i 0
 have B:∀ i v,its.toArray[i]?=al v->∃ t,v=Value.int (val i) t:=λ i v e=>by
  obtain⟨z,t,e1,e2⟩:=ay4 Y (by rw[dW]at e;exact e);refine⟨t,?_⟩;rw[e2];show Value.int z t=Value.int (ns.getD i 0) t;rw[cw,e1];rfl
 refine⟨_,_,_,_,_,_,_,rfl,Ww,⟨⟨_,aX _ rfl,rfl,rfl⟩,?_⟩,λ b hb=>?_,by simp_all,lY val B,λ v h' tk hP k=>?_⟩
 .obtain⟨o,e,r⟩:=pl.isList;exact⟨o,ak _ e,r⟩
 .skip
  rw[cj];rcases aB.mp hb with z|z
  .rw[z];exact dv _
  .have Z:=by simpa using z
   rw[Z];exact gE J
 .obtain⟨z,t,e1,e2⟩:=ay4 Y (by rw[dW]at hP;exact hP);subst e2;have hv:val (eB (λ i j=>decide (val i<val j)) (its.toArray.size - 1))=z:=by
   show ns.getD _ 0=z;rw[cw,e1];rfl
  refine⟨.int z,H,I.kept λ b o q=>k b o ?_ (ak _ q),⟨t,rfl⟩,q z (aE e1) λ y hy=>?_⟩
  .intro z;have Z:=by simpa using z
   exact iS (aN q) (by rw[Z];exact bP _)
  .obtain⟨j,hj,e3⟩:=d6.mp hy;have:=jA val (its.toArray.size - 1) j (by simp only[aJ];lia);rw[hv]at this;have e4:val j=y:=by
    show ns.getD j 0=y;rw[cw,au hj];exact e3
   lia
noncomputable def mx (a b:Int):Int:=if b > a then b else a
def bp3 :mx a b<=x↔a<=x/\b<=x:=by unfold mx;lia
noncomputable def sgn (s:Nat->Nat->Int):Nat->Nat->Option Int:=λ i j=>al (s i j)
def bd8 (n:Nat)(s t:Nat->Nat->Int)(i j:Nat):Int:=(minO ((am n).map λ k=>mx (s i k) (t k j))).getD 3
def aX4 (h:minO l=al m):m<=x↔∃ y∈l,y<=x:=by
 obtain⟨B,J⟩:=aC3 h;exact⟨λ z=>⟨m,B,z⟩,λ⟨y,hy,z⟩=>fu (J y hy) z⟩
def aE6 (h:l≠[]):∃ m,minO l=al m:=by
 cases e:minO l with
 | none=>exact iS (al1.mp e) h
 | some m=>exact⟨m,rfl⟩
def ax3 (hn:1<=n):bd8 n s t i j<=x↔∃ k,k<n/\s i k<=x/\t k j<=x:=by
 obtain⟨m,h⟩:=aE6 (l:=(am n).map λ k=>mx (s i k) (t k j)) (by
  intro z
  simp_all)
 unfold bd8;rw[h];show m<=x↔_;rw[aX4 h];constructor
 .rintro⟨y,hy,hx⟩
  obtain⟨k,hk,rfl⟩:=ao.mp hy;exact⟨k,bE.mp hk,bp3.mp hx⟩
 .rintro⟨k,hk,hx⟩
  exact⟨_,ao.mpr ⟨k,bE.mpr hk,rfl⟩,bp3.mpr hx⟩
def ax1 { b:Int}(h:∀ x,a<=x↔b<=x):a=b:=by
 have z:=(h b).mpr (cE _);have B:=(h a).mp (cE _);lia
def bv2 (hn:1<=n)(h:∀ i j,i<n->j<n->0<=s i j/\s i j<=3)(h':∀ i j,i<n->j<n->0<=t i j/\t i j<=3)(z:i<n)(hj:j<n):0<=bd8 n s t i j/\bd8 n s t i j<=3:=by
 constructor
 .obtain⟨k,hk,B,J⟩:=(ax3 hn (s:=s) (t:=t) (i:=i) (j:=j)).mp (cE _);have:=h i k z hk;lia
 .exact(ax3 hn).mpr ⟨0,by lia,(h i 0 z (by omega)).2,(h' 0 j (by omega) hj).2⟩
section
variable {X:Cx}
end
def mx3 (a b c:Int):Int:=mx (mx a b) c
def bz4 :mx3 a b c<=x↔a<=x/\b<=x/\c<=x:=by unfold mx3;rw[bp3,bp3,and_assoc]
def bc7 (hc:X.calm=bY):ae5 X (.builtin "max") (λ B H Q=>∃ i j k,B=[.int i,.int j,.int k]/\Q (.int (mx3 i j k)) H):=by
 intro z s W H B us Q I r h;obtain⟨i,j,k,rfl,q⟩:=h;cases r with
 | cons r1 r =>
  cases r with
  | cons r2 r =>
   cases r with
   | cons r3 r =>
    cases r;obtain⟨Uu,rfl⟩:=r1;obtain⟨J,rfl⟩:=r2;obtain⟨t3,rfl⟩:=r3;refine max_three_ints (I.ok.hd hc) λ h' tk kk=>⟨_,H,I.kept kk,?_,q⟩
    unfold mx3 mx;by_cases h1:j > i
    .rw[ef h1,ef h1];by_cases h2:k > j
     .rw[ef h2,ef h2];exact⟨_,rfl⟩
     .rw[gc h2,gc h2];exact⟨_,rfl⟩
    .rw[gc h1,gc h1];by_cases h2:k > i
     .rw[ef h2,ef h2];exact⟨_,rfl⟩
     .rw[gc h2,gc h2];exact⟨_,rfl⟩
def InT (n:Nat)(s:Nat->Nat->Int):Prop:=∀ i j,i<n->j<n->0<=s i j/\s i j<=3
noncomputable def rnd (x:Int):Int:=if x=0\/x=3 then x else 2
def sharp (n:Nat)(s:Nat->Nat->Int)(i j:Nat):Int:=(minO ((am n).map λ k=>mx3 (s i k) (rnd (s k k)) (s k j))).getD 3
def am3 (hn:1<=n):sharp n s i j<=x↔∃ k,k<n/\s i k<=x/\rnd (s k k)<=x/\s k j<=x:=by
 obtain⟨m,h⟩:=aE6 (l:=(am n).map λ k=>mx3 (s i k) (rnd (s k k)) (s k j)) (by
  intro z
  simp_all)
 unfold sharp;rw[h];show m<=x↔_;rw[aX4 h];constructor
 .rintro⟨y,hy,hx⟩
  obtain⟨k,hk,rfl⟩:=ao.mp hy;exact⟨k,bE.mp hk,bz4.mp hx⟩
 .rintro⟨k,hk,hx⟩
  exact⟨_,ao.mpr ⟨k,bE.mpr hk,rfl⟩,bz4.mpr hx⟩
def bx7 (h:0<=y)(h3:y<=3):0<=rnd y/\rnd y<=3:=by unfold rnd;lia
def bl4 (hn:1<=n)(h:InT n s):InT n (sharp n s):=λ i j z hj=>by
 constructor
 .obtain⟨k,hk,B,_⟩:=(am3 hn (s:=s) (i:=i) (j:=j)).mp (cE _);have:=h i k z hk;lia
 .exact(am3 hn).mpr ⟨0,by omega,(h i 0 z (by omega)).2,(bx7 (h 0 0 (by omega) (by omega)).1 (h 0 0 (by omega) (by omega)).2).2,(h 0 j (by omega) hj).2⟩
section
variable {n:Nat} {s:Nat->Nat->Int}
end
def cq4 (cells:yC)(P:Addr)(name q:Str)(params:bD)(body:yM)(scope:Scope)(pos:Pos)(i:Nat):TS:=λ D W H =>
 ∃ ps:Array Value,H P=al (.tbl ps)/\jK ps.toList /\
  (dz pos ps.toList=aT->∀ c' f doc pm ctv,H c'=aT->H f=aT->c'≠f ->
   D.nx (W.set i (al (.ref f))) (upd (upd (upd H P (.tbl (ps++#[du pos.line,du pos.col,.ref c']))) c' (ql c' q)) f (aw4 f (cV name q params body scope (af6 cells scope.names []) .none .none doc pm aT (.ref c') ctv)))) /\
  (∀ cv,dz pos ps.toList=al cv->∃ c',cv=.ref c'/\∀ f doc pm ctv,H f=aT->D.nx (W.set i (al (.ref f))) (upd H f (aw4 f (cV name q params body scope (af6 cells scope.names []) .none .none doc pm aT (.ref c') ctv))))
def cf5 {X}{params}{body:yM}{pos:Pos}(hN:X.N.Nodup)(hi:X.N[i]?=al name)(hx:Loc X.env.scope name)(Y:X.env.code=.ref c)(Cc:bG X.base c P)(hB:BM X.mg X.base)
  (c3:lamCheck scope X.env.scope=bY) (hq:autoParam (lL X.env name name=q) Zq4._auto_1) (d2:autoParam (params.defaults=[]) Zq4._auto_1) (c1:autoParam (params.kw_defaults=[]) Zq4._auto_1) (ha:autoParam (annTrees params aT X.env=[]) Zq4._auto_1) (hf:autoParam (X.fn name=bY\/X.env.scope.names.lookup name=al .local) Zq6._auto_1) :
  PS X (.FunctionDef name params body [] aT [] scope aT name pos) (cq4 X.env.cells P name q params body scope pos i):=by
 intro a0 s W H D I h;have c4:∀ y∈scope.names,y.2=.free->X.env.kindOf y.1=al .cell\/X.env.kindOf y.1=al .free:=λ y hy e=>by
  have z:=aI.mp c3 y hy;have z':X.env.scope.names.lookup y.1=al .cell\/X.env.scope.names.lookup y.1=al .free:=by simpa [e]using z
  exact z'
 obtain⟨ps,hP,ht,a6,b0⟩:=h;refine PySem.W.nestDef_K d2 c1 ha ?_;rw[hq];have fin:∀ {H2:Hp} {f:Addr} {s2:af},Inv X a0 W H2 s2->D.nx (W.set i (al (.ref f))) H2->wpAny (model X.prog X.w) X.A (f7 X.env name (.ref f)) (λ _ s3=>SP X a0 D .next s3) X.xe s2:=λ {H2 f s2} I2 q2=>am9 (v:=.ref f) I2 hN hi hx rfl (λ s3 I3=>⟨_,H2,I3,q2⟩) hf;have hcl:=qh (scope:=scope) (env:=X.env) λ y hy e=>I.ok.has y.1 (c4 y hy e);have oP:s.heap.get? P=al (ft ps):=I.hok P _ hP;have a1:s.heap.Ns aU X.mg:=I.mod.glob.keeps I.bk;have hC:bG s.heap c P:=Cc.keeps I.bk;have d0:aU≠P:=λ q=>by
  obtain⟨o,es,ep,e,d,_⟩:=a1;rw[q,oP]at e;cases e;cases d
 have hb:s.heap.BuiltinsAt X.mg P:=by
  obtain⟨bm,ob,b1,b2,b3,b4,b5,b6⟩:=hB;refine⟨bm,ob,b1,b2,λ q=>?_,λ q=>?_,I.bk _ _ b3,b4,b5,b6⟩
  .obtain⟨o,es,ep,e,d,_⟩:=I.mod.glob;rw[q,e]at b3;cases b3;rw[d]at b6;cases b6
  .have e:=I.bk _ _ b3;rw[q,oP]at e;cases e;cases b4
 cases qq:dz pos ps.toList with
 | none =>
  refine PySem.W.makeFunction_K (mg:=X.mg) hcl I.ok.glob a1 Y hC oP ht qq d0 hb λ B Uu J h' tk hx hge hlt a8 a5=>?_;have a4:P<s.heap.objs.size:=aN oP;have c5:B≠P:=ed (az a4 hge);have d3:h'.objs.size≠P:=ed (fq (az a4 hge) hlt);have d1:B≠h'.objs.size:=aH hlt;have hsz:s.heap.objs.size<=h'.objs.size:=aq hge (d8 hlt);have nP:∀ b,H b=aT->b≠P:=λ b n z=>by rw[z,hP]at n;cases n
  have lt:∀ b o,H b=al o->b≠B/\b≠h'.objs.size:=λ b o e=>⟨aH (az (I.hok.lt e) hge),aH (az (I.hok.lt e) hsz)⟩
  have a2:∀ b o,s.heap.get? b=al o->b≠B/\b≠h'.objs.size:=λ b o e=>⟨aH (az (aN e) hge),aH (az (aN e) hsz)⟩
  have keep:∀ b o,b≠P->s.heap.get? b=al o->(h'.push (PySem.W.fnMade name q params body scope (af6 X.env.cells scope.names []) J ((X.mg "__name__").getD .none) B Uu)).get? b=al o:=λ b o n e=>ak _ (hx b o n e);have Z:∀ b,b≠P->b≠B->b≠h'.objs.size->∀ o1 o2 o3,upd (upd (upd H P o1) B o2) h'.objs.size o3 b=H b:=λ b n1 n2 n3 o1 o2 o3=>by rw[zb n3,zb n2,zb n1]
  refine fin (H2:=upd (upd (upd H P (.tbl (ps++#[du pos.line,du pos.col,.ref B]))) B (ql B q)) h'.objs.size (aw4 h'.objs.size (cV name q params body scope (af6 X.env.cells scope.names []) .none .none J ((X.mg "__name__").getD .none) aT (.ref B) Uu))) (I.un (t':=tk) ⟨λ b o e n _ _=>keep b o (nP b n) e,λ b o e n _ _=>⟨o.slots,keep b o (nP b n) e⟩,λ b o e n _=>?fr,λ b o e _=>?th,λ b xs e=>?tu,λ b o u e=>?fz,λ b qs e=>?tb⟩ ?ok) (a6 qq B h'.objs.size J _ Uu (I.hok.fresh hge) (I.hok.fresh hsz) d1)
  case fr=>rw[Z b (nP b n) (a2 b o e).1 (a2 b o e).2];exact n
  case th =>
   by_cases z:b=P
   .subst z;exact⟨_,ak _ a5⟩
   .exact⟨o,keep b o z e⟩
  case tu=>rw[Z b (λ z=>by rw[z,hP]at e;cases e) (lt b _ e).1 (lt b _ e).2];exact e
  case fz=>rw[Z b (λ z=>by rw[z,hP]at e;cases e) (lt b _ e).1 (lt b _ e).2];exact e
  case tb =>
   by_cases z:b=P
   .subst z;rw[hP]at e;cases e;exact⟨#[du pos.line,du pos.col,.ref B],by rw[zb (bH d3),zb (bH c5),zg]⟩
   .exact⟨#[],by rw[Z b z (lt b _ e).1 (lt b _ e).2,e];simp⟩
  case ok =>
   intro b o e;by_cases zf:b=h'.objs.size
   .subst zf;rw[zg]at e;cases e;exact av7 (aX _ rfl)
   .rw[zb zf]at e;by_cases zc:b=B
    .subst zc;rw[zg]at e;cases e;refine wl λ _ ua=>?_;obtain⟨c2,oc,vs,t,e1,e2,e3⟩:=a8;exact ua $ aN5 ⟨c2,oc,vs,t,e1,ak _ e2,e3⟩
    .rw[zb zc]at e;by_cases zp:b=P
     .subst zp;rw[zg]at e;cases e;exact ak _ a5
     .rw[zb zp]at e;have a3:∀ d u,H d=al u->(∀ ps,u≠.tbl ps)->upd (upd (upd H P (.tbl (ps++#[du pos.line,du pos.col,.ref B]))) B (ql B q)) h'.objs.size (aw4 h'.objs.size (cV name q params body scope (af6 X.env.cells scope.names []) .none .none J ((X.mg "__name__").getD .none) aT (.ref B) Uu)) d=al u:=λ d u e nt=>by
       rw[Z d (λ z=>by rw[z,hP]at e;cases e;exact nt _ rfl) (lt d _ e).1 (lt d _ e).2];exact e
      refine(I.hok b o e).stay (λ d u hd q=>keep d u ?_ q) (λ d q=>a3 d _ q λ _=>by nofun) λ d xs q=>a3 d _ q λ _=>by nofun
      rintro rfl
      rcases hd with hd|hd
      .exact zp hd.symm
      .rw[hP]at hd;cases hd
 | some cv =>
  obtain⟨B,rfl,c0⟩:=b0 cv qq;refine PySem.W.makeFunction_hit (mg:=X.mg) hcl I.ok.glob a1 Y hC oP ht qq hb λ Uu J h' tk hk hsz=>?_;exact fin (I.laid (t':=tk) (λ b o e=>ak _ (hk b o e)) hsz (av7 (aX _ rfl))) (c0 h'.objs.size J _ Uu (I.hok.fresh hsz))
def aq7 (H:Hp)(f:Addr)(name qual:Str)(params:bD)(body:yM)(scope:Scope)(fr:yI)(cap:List V)(clos:yC):Prop :=
 ∃ doc pm c' ctv,H f=al (aw4 f (cV name qual params body scope clos .none .none doc pm aT (.ref c') ctv))/\H c'=al (ql c' qual)/\Cells clos H /\
  (∀ x y c,clos.lookup x=al c->clos.lookup y=al c->x=y)/\(∀ x,scope.names.lookup x=al .free->∃ c,clos.lookup x=al c)/\Cap clos H fr cap
def bs9 {body:yM}(J:Caught cells N kd W H1 H2)
  (hf:∃ h pm Y B,H1 f=al (aw4 f (cV name q params body scope (af6 cells scope.names []) .none .none h pm aT (.ref Y) B))/\H1 Y=al (ql Y q))
  (Uu:∀ x,scope.names.lookup x=al .free->∃ c,cells.lookup x=al c)
  (Z:∀(i:Nat) (x:Str) (v:V),fr[i]?=al x->cap[i]?=al v->scope.names.lookup x=al .free/\(kd x=al .cell\/kd x=al .free)/\∃ j:Nat,N[j]?=al x/\W[j]?=al (al v)) :
  aq7 H2 f name q params body scope fr cap (af6 cells scope.names []):=by
 obtain⟨h,pm,Y,B,h1,h2⟩:=hf;have up:∀ b o,H1 b=al o->H2 b=al o:=λ b o e=>by
  rw[J.ne b λ z=>by rw[J.free b z]at e;cases e];exact e
 have sub:∀ x c,(af6 cells scope.names []).lookup x=al c->cells.lookup x=al c:=λ x c e=>by
  rcases clOf_mem (aK e)with z|z
  all_goals simp_all
 refine⟨h,pm,Y,B,up _ _ h1,up _ _ h2,λ x c e=>J.cells x c (sub x c e),λ x y c e1 e2=>J.inj x y c (sub x c e1) (sub y c e2),λ x k=>?_,λ i x v e1 e2=>?_⟩
 .obtain⟨c,e⟩:=Uu x k;exact⟨c,qk e (aK k)⟩
 .refine wl λ _ ua=>?_;obtain⟨k,kk,j,e3,e4⟩:=Z i x v e1 e2;obtain⟨c,e⟩:=Uu x k;obtain⟨o,u,e5,e6,e7⟩:=J.cap j x v c e3 e4 kk e;exact ua ⟨c,o,u,qk e (aK k),e5,e6,e7⟩
def aq7.fn {K}(h:aq7 H f name qual params body scope fr cap z):bI7 K H f:=by
 obtain⟨J,Y,Z,Uu,B,_⟩:=h;exact .inl ⟨_,B⟩
end L2
end
noncomputable section
namespace L2
open PySem PySem.Spec PyProof.Rows Builtin
section
variable {P:aF} {w:World} {A:aV} {E:yB} {s:af}
def aJ1 {l:yK}{Q:yB}(B:s.heap.IsTupleIter it t i)(Uu:s.heap.IsTuple t l)(hv:l[i]?=al v)
  (k:∀ h',h'.IsTupleIter it t (i+1)->d9 it s.heap h'->Q v { s with heap:=h' }):wpAny (model P w) A (cA (.ref it)) Q E s:=by
 obtain⟨o,e1,e2,h⟩:=id B;obtain⟨p,p1,_,n,J⟩:=Uu;unfold cA;refine ai (dw B.typeIs cZ (dk cZ B.typeIs f6 ?_ (fS _)));show wpAny _ _ (field (.ref it) 0 >>= _) _ _ _;refine ai (eT e1 h rfl ?_)
 skip
 rw[gc (λ z=>nomatch z)]
 skip
 refine ai (eT e1 h rfl ?_)
 skip
 refine ai (dr p1 J ?_);simp only[dZ,hv];refine ai (wpAny_setField e1 h (by simp) (aG ⟨v,rfl,aG (k _ ⟨_,dU _ e1 (Obj.isFreed_of_fields (ke h _)),(Obj.cls_mapFields ..).trans e2,by rw[ke h];simp[du]⟩ (jV ..))⟩))
def aS3 {l:yK}{Q:yB}(hh:A.handled=aT)(h:s.heap.IsTupleIter it t i)(Uu:s.heap.IsTuple t l)(hv:l[i]?=aT)
  (k:∀ h' e,lh it s.heap h'->(∃ o,h'.get? e=al o/\o.cls=.type "StopIteration")->E (.ref e) { s with heap:=h' }):wpAny (model P w) A (cA (.ref it)) Q E s:=by
 obtain⟨o,e1,e2,B⟩:=id h;obtain⟨p,p1,_,n,J⟩:=Uu;unfold cA;refine ai (dw h.typeIs cZ (dk cZ h.typeIs f6 ?_ (fS _)));show wpAny _ _ (field (.ref it) 0 >>= _) _ _ _;refine ai (eT e1 B rfl ?_)
 skip
 rw[gc (λ z=>nomatch z)]
 skip
 refine ai (eT e1 B rfl ?_)
 skip
 refine ai (dr p1 J ?_);simp only[dZ,hv];refine ai (j3 (ai (wpAny_setField e1 B (by simp) ?_)))
 skip
 refine ai ?_;simp only[newExc];refine ai (cC ?_ (by size_fits));refine ai (wpAny_of_eq (by first|rfl|(simp only[];rfl)) (cC ?_ (by size_fits)));simp only[];refine ai (wpAny_handled ?_)
 first|rw[hh]|rw[hh]
 exact ai (aG (wpAny_throw (k _ _ (((jV ..).extBut.push _).push _) ⟨_,aX _ rfl,rfl⟩)))
end
structure Dw (P:aF)(w:World)(K:ac)(J:It)(it:Addr)(tn:Nat->Heap->Prop):Prop where
 obj:∀ i h,tn i h->∃ o,h.get? it=al o/\∀ v,o.data≠.cell v
 keep:∀ i h h',tn i h->(∀ o,h.get? it=al o->h'.get? it=al o)->tn i h'
 item:∀(X:Cx),X.prog=P->X.w=w->X.K=K->∀(A:aV) (i:Nat) (pins:yA) (s:af) (W:St) (H:Hp) (Q:yB) (E:yB),Inv X pins W H s->tn i s.heap->J.go i H ->
  (∀ x u h' tk,RelV x u->J.yld i H x H->tn (i+1) h'->d9 it s.heap h'->Q u { s with heap:=h',toks:=tk })->wpAny (model P w) A (cA (.ref it)) Q E s
 done:∀(X:Cx),X.prog=P->X.w=w->X.K=K->∀(A:aV) (i:Nat) (pins:yA) (s:af) (W:St) (H:Hp) (Q:yB) (E:yB),A.handled=aT->Inv X pins W H s->tn i s.heap->J.stop i H ->
  (∀ h' e,lh it s.heap h'->(∃ o,h'.get? e=al o/\o.cls=.type "StopIteration")->E (.ref e) { s with heap:=h' })->wpAny (model P w) A (cA (.ref it)) Q E s
def bJ7 {K} a it :Dw P w K (Itl K a) it (λ i h=>h.IsListIter it a i) where
 obj:=λ i h st=>by
  obtain⟨o,e,c,d⟩:=st
  simp_all
 keep:=λ i h h' st k=>st.at k
 item:=by
  intro X Z hw hK A i B s W H Q E I st Y k;subst Z hw hK;obtain⟨xs,x,hq,hx⟩:=Y;obtain⟨its,Uu,p,hz⟩:=I.list hq;obtain⟨u,hu,ru⟩:=Uu.get hx;exact wpAny_nextOf_list_item st p.isList (by simp_all) λ h' J sb=>k x u h' s.toks ru ⟨rfl,λ ys hy=>by rw[I.list_inj hy hq];exact hx⟩ J sb
 done:=by
  intro X Z hw hK A i B s W H Q E hA I st Y k;subst Z hw hK;obtain⟨xs,hq,hx⟩:=Y;obtain⟨its,Uu,p,hz⟩:=I.list hq;have hl:=Uu.length;exact wpAny_nextOf_list_end hA st p.isList (by simp;omega) k
def bW4 {K} a it :Dw P w K (Itt K a) it (λ i h=>h.IsTupleIter it a i) where
 obj:=λ i h st=>by
  obtain⟨o,e,c,d⟩:=st
  simp_all
 keep:=λ i h h' st k=>st.at k
 item:=by
  intro X Z hw hK A i B s W H Q E I st Y k;subst Z hw hK;obtain⟨xs,x,hq,hx⟩:=Y;obtain⟨its,Uu,p,hz⟩:=I.tuple hq;obtain⟨u,hu,ru⟩:=Uu.get hx;exact aJ1 st (p) (by simpa using hu) λ h' J sb=>k x u h' s.toks ru ⟨rfl,λ ys hy=>by rw[I.tuple_inj hy hq];exact hx⟩ J sb
 done:=by
  intro X Z hw hK A i B s W H Q E hA I st Y k;subst Z hw hK;obtain⟨xs,hq,hx⟩:=Y;obtain⟨its,Uu,p,hz⟩:=I.tuple hq;have hl:=Uu.length;exact aS3 hA st (p) (by simp;omega) k
def cf4 {K} x  t  it :Dw P w K (Its x) it (λ i h=>h.IsStrIter it (iZ x) x t i) where
 obj:=λ i h st=>by
  obtain⟨o,e,c,d⟩:=st
  simp_all
 keep:=λ i h h' st k=>by
  obtain⟨o,ho,r⟩:=st;exact⟨o,k _ ho,r⟩
 item:=by
  intro X hP hw hK A i Uu s W H Q E I st Z k;subst hP hw hK;have J:i<x.cps.size:=Z;have hc:x.cps[i]?=al x.cps[i]:=by simp[]
  unfold iZ at st k;cases ha:x.cps.all (·<128)
  .rw[ha]at st k;exact wpAny_nextOf_wide_item st hc λ h' B Y=>k (.str ⟨#[x.cps[i]]⟩) _ h' (s.toks+1) ⟨_,rfl⟩ ⟨rfl,_,hc,rfl⟩ B Y
  .rw[ha]at st k;exact wpAny_nextOf_ascii_item st hc λ h' B Y=>k (.str ⟨#[x.cps[i]]⟩) _ h' (s.toks+1) ⟨_,rfl⟩ ⟨rfl,_,hc,rfl⟩ B Y
 done:=by
  intro X hP hw hK A i Uu s W H Q E hA I st Z k;subst hP hw hK;have J:x.cps.size<=i:=Z;have hc:x.cps[i]?=none:=by simp[J]
  unfold iZ at st;cases ha:x.cps.all (·<128)
  .rw[ha]at st;exact wpAny_nextOf_wide_end hA st hc k
  .rw[ha]at st;exact wpAny_nextOf_ascii_end hA st hc k
section
variable {X:Cx} {pins:yA} {W:St} {H:Hp} {s:af} {A:aV} {E:yB} {J1 J2:It} {t1 t2:Nat->Heap->Prop} {z ti to i1 i2:Addr} {n:Nat} {a b:Value}
end
def Mkr (v:Value)(o:Obj)(h:Heap):Prop:=∀ P   w   A  (E:yB)  s  (Q:yB),(∀ b u,h.get? b=al u->s.heap.get? b=al u) ->
 Q (.ref s.heap.objs.size) { s with heap:=s.heap.push o }->wpAny (model P w) A (mr v) Q E s
def Sr (K:ac)(H:Hp)(x:V)(J:It):Prop:=(∃ a,x=.ref a/\(∃ xs,SqL K H a xs)/\J=Itl K a)\/(∃ a,x=.ref a/\(∃ xs,SqT K H a xs)/\J=Itt K a)\/∃ y,x=.str y/\J=Its y
def Sr.mk {W:St}(I:Inv X z W H s)(h:Sr X.K H x J)(r:RelV x u) :
  ∃(o:Obj) (tn:Addr->Nat->Heap->Prop),o.isFreed=ce/\Mkr u o s.heap/\(∀ it,Dw X.prog X.w X.K J it (tn it))/\∀ it h',h'.get? it=al o->tn it 0 h':=by
 rcases h with⟨a,e,⟨Uu,hq⟩,e'⟩|⟨a,e,⟨Uu,hq⟩,e'⟩|⟨y,e,e'⟩
 .subst e e';cases r;obtain⟨its,B,p,hz⟩:=I.list hq;exact⟨_,λ it i h=>h.IsListIter it a i,rfl,λ P w A E s' Q hk q=>eZ (p.isList.at λ o e=>hk _ _ e) q,λ it=>bJ7 a it,λ it h' e=>⟨_,e,rfl,rfl⟩⟩
 .subst e e';cases r;obtain⟨its,B,p,hz⟩:=I.tuple hq;exact⟨_,λ it i h=>h.IsTupleIter it a i,rfl,λ P w A E s' Q hk q=>j4 (Heap.IsTuple.at (p) λ o e=>hk _ _ e) q,λ it=>bW4 a it,λ it h' e=>⟨_,e,rfl,rfl⟩⟩
 .subst e e';obtain⟨t,rfl⟩:=r;exact⟨_,λ it i h=>h.IsStrIter it (iZ y) y t i,rfl,λ P w A E s' Q hk q=>wpAny_pyIter_strU q,λ it=>cf4 y t it,λ it h' e=>⟨_,e,rfl,rfl⟩⟩
end L2
end
noncomputable section
namespace L2
open PySem PySem.Spec PyProof.Rows Builtin
open AutoSeq1 (wpAny_loadPart')
section
variable {X:Cx} {pins:yA} {W:St} {H:Hp} {s:af} {A:aV} {E:yB} {J1:It} {t1:Nat->Heap->Prop} {z it:Addr} {n:Nat} {old:Value}
end
end L2
end
noncomputable section
namespace L2
open PySem PySem.Spec PyProof.Rows Builtin
open AutoSeq1 (wpAny_loadPart')
end L2
end
noncomputable section
namespace L2
open PySem PySem.Spec PyProof.Rows
def bz0 (ta:TA):TI:=λ W H R=>ta W H λ vs H1=>∃ i j,vs=[.int i,.int j,.int 2]/\(0<=i/\i<2^20/\0<=j/\j<2^20)/\R (ch9 i ((j - i+1) / 2).toNat) H1
def aS4 {tg   }{p pos}(hg:Gl X "range")(hm:X.mg "range"=aT)(ha:PA X [a,b,c] ta)(hs:autoParam (a9 [a,b,c] X.env=(ce,eval a X.env)::a9 [b,c] X.env) Zq4._auto_1)(Z:autoParam (a9 [b,c] X.env=[(ce,eval b X.env),(ce,eval c X.env)]) Zq4._auto_1) :
  PI X tg (.Call (.Name "range" p) [a,b,c] [] pos) (bz0 ta):=by
 intro Uu s W H R I h;refine Call_ (aF1 I hg hm boot_range (dX (thn (ha pos Uu s W H _ I h) λ us s1 ⟨vs,H1,I1,r1,Y⟩=>?_) hs (by rw[Z];rfl)));obtain⟨z,B,e,⟨Y,q2,q3,q4⟩,q⟩:=Y;subst e;cases r1 with
 | cons r rr =>
  cases rr with
  | cons r' rr =>
   cases rr with
   | cons r'' rr =>
    cases rr;obtain⟨t,rfl⟩:=r;obtain⟨t',rfl⟩:=r';obtain⟨J,rfl⟩:=r'';refine call_range_3 (by decide) ?_;refine j7 (mP ..) (bk3 Y q2 q3 q4) ?_;have I2:Inv X Uu W H1 { s1 with heap:=s1.heap.push { cls:=.type "range",data:=.fields #[.int z t,.int B t',.int 2 J] },toks:=s1.toks }:=I1.kept λ b o e=>ak _ e;have nn:0<=b8 z B 2:=by rw[ay7];lia
    refine⟨(s1.heap.push { cls:=.type "range",data:=.fields #[.int z t,.int B t',.int 2 J] }).objs.size,[(s1.heap.push { cls:=.type "range",data:=.fields #[.int z t,.int B t',.int 2 J] }).objs.size],_,_,H1,rfl,
     I2.kept λ b o e=>ak _ e,aH7 _ z (b8 z B 2).toNat,?_,λ b hb=>?_,?_⟩
    .skip
     have e1:z+((0:Nat))*2=z:=by simp
     have e2:(((b8 z B 2).toNat)) - ((0:Nat):Int)=b8 z B 2:=by lia
     rw[e1,e2];exact aX _ rfl
    .have e:b=(s1.heap.push { cls:=.type "range",data:=.fields #[.int z t,.int B t',.int 2 J] }).objs.size:=by simp_all
     subst e;exact I2.fpOk (aj _) (I2.hok.fresh (aj _))
    .rw[ay7]
     grind
def at9 (hr:Room k A):A.units+2<cLine:=Nat.lt_of_le_of_lt (Nat.add_le_add_left (by decide) _) hr.units
section
variable {κ:Type} [DecidableEq κ]
noncomputable def aF5 (kvs:List (κ×V))(k:κ):Option V:=(kvs.find? λ kv=>decide (kv.1=k)).map (·.2)
noncomputable def as4 (kvs:List (κ×V))(k:κ)(v:V):List (κ×V) :=
 if(kvs.any λ kv=>decide (kv.1=k))=bY then kvs.map (λ kv=>if kv.1=k then(kv.1,v)else kv)else kvs++[(k,v)]
def am5 {k:κ}(e:p.1=k):aF5 (p::r) k=al p.2:=by simp[aF5,e]
def am6 {k:κ}(e:¬ p.1=k):aF5 (p::r) k=aF5 r k:=by simp[aF5,e]
theorem ay5  k :∀ kvs:List (κ×V),(kvs.any λ h=>decide (h.1=k))=(aF5 kvs k).isSome
 | []=>rfl
 | p::r=>by
  rw[gT];by_cases e:p.1=k
  .simp only[am5 e,ij e,Bool.true_or,gk]
  .rw[am6 e,iF e,lX];exact ay5 k r
def jz  kvs (k:κ) v :(as4 kvs k v).length<=kvs.length+1:=by
 unfold as4;split
 .rw[aw];lia
 .rw[aM,aP,fT];lia
def az9.isSome_eq (r:az9 o u):o.isSome=u.isSome:=by
 cases o with
 | none=>cases u with
  | none=>rfl
  | some _=>exact(r).elim
 | some _=>cases u with
  | none=>exact(r).elim
  | some _=>rfl
theorem az9.getD (r:az9 o u)(h:RelV d d'):RelV (o.getD d) (u.getD d'):=by
 cases o with
 | none=>cases u with
  | none=>exact h
  | some _=>exact(r).elim
 | some _=>cases u with
  | none=>exact(r).elim
  | some _=>exact r
def KV.val (r:KV kvs vs)(k:κ):az9 (aF5 kvs k) (jL vs k):=by
 unfold KV at r
 induction r with
 | nil=>exact True.intro
 | @cons p q ps qs h t ih =>
  obtain⟨B,J⟩:=h;by_cases e:p.1=k
  .have e':=B.symm.trans e;have b:jL (q::qs) k=al q.2:=by simp[jL,e']
   rw[am5 e,b];exact J
  .have e':¬ q.1=k:=λ z=>e (B.trans z);have b:jL (q::qs) k=jL qs k:=by simp[jL,e']
   rw[am6 e,b];exact ih
theorem KV.any (r:KV kvs vs)(k:κ):(kvs.any λ z=>decide (z.1=k))=vs.any λ z=>decide (z.1=k):=by
 unfold KV at r
 induction r with
 | nil=>rfl
 | cons h t ih=>simp_all
def KV.repl (r:KV kvs vs)(k:κ)(Y:RelV y u) :
  KV (kvs.map λ B=>if B.1=k then(B.1,y)else B) (vs.map λ B=>if B.1=k then(B.1,u)else B):=by
 unfold KV at r ⊢
 induction r with
 | nil=>exact .nil
 | @cons p q ps qs h t ih =>
  rw[aR,aR];refine .cons ?_ ih;obtain⟨J,Uu⟩:=h;by_cases e:p.1=k
  .rw[ef e,ef (J.symm.trans e)];exact⟨J,Y⟩
  .rw[gc e,gc (λ z=>e (J.trans z))];exact⟨J,Uu⟩
def KV.put (r:KV kvs vs)(k:κ)(h:RelV y u):KV (as4 kvs k y) (stored vs k u):=by
 unfold as4 stored;rw[r.any k];by_cases e:(vs.any λ z=>decide (z.1=k))=bY
 .rw[ef e,ef e];exact r.repl k h
 .rw[gc e,gc e];exact mU r ⟨rfl,h⟩
theorem KV.length {vs:List (κ×Value)}(r:KV kvs vs):kvs.length=vs.length:=fD r
end
def aV2 (r:RelV (kV k) u):(zT P w).is k u=true:=by
 cases k with
 | inl i=>obtain⟨t,e⟩:=(r);subst e;exact aH2 P w i t
 | inr x=>obtain⟨t,e⟩:=(r);subst e;exact aI8 P w x t
def cf0 {P:aF}{w:World}(h:RelV (fV f) u):fIs f u=true:=by
 cases f with
 | none=>cases(h);rfl
 | some k=>exact aV2 (P:=P) (w:=w) h
theorem aC5 :∀ {ks} {us:yH},Vals (ks.map fV) us->ItemsAre (jf P w) ks us
 | [],_,r=>by rw[fk]at r;cases r;exact .nil
 | k::ks,_,r=>by
  rw[aR]at r;cases r with
  | cons h t=>exact .cons (cf0 (P:=P) (w:=w) h) (aC5 t)
theorem bV3 (ok:HOk P w H h):∀ {ks} {B} {us:yH},dm (NAt H) ks B->Vals B us->dm (NIs P w h) ks us
 | _,_,_,.nil,r=>by cases r;exact .nil
 | _,_,_,.cons (a:=k) q t,r=>by
  cases r with
  | cons z t1 =>
   refine .cons ?_ (bV3 ok t t1);cases k with
   | inl f=>cases q;exact cf0 (P:=P) (w:=w) z
   | inr l =>
    obtain⟨c,rfl,e⟩:=q;cases z;obtain⟨_,its,r,o,z,J,n,h3⟩:=(ok c _ e)
    exact⟨c,rfl,o,its.toArray,n,z,J,h3,by simpa using aC5 r⟩
abbrev KT (H:Hp):List (List NI×V)->List (List NI×Addr×Value)->Prop:=dm λ p q=>p.1=q.1/\NK H p.1 q.2.1/\RelV p.2 q.2.2
def KT.val (r:KT H kvs J) k :az9 (aF5 kvs k) ((atKey J k).map (·.2)):=by
 induction r with
 | nil=>exact True.intro
 | @cons p q ps qs h t ih =>
  obtain⟨B,_,Uu⟩:=h;by_cases e:p.1=k
  .have e':=B.symm.trans e;have b:atKey (q::qs) k=al q.2:=by simp[atKey,e']
   rw[am5 e,b];exact Uu
  .have e':¬ q.1=k:=λ z=>e (B.trans z);have b:atKey (q::qs) k=atKey qs k:=by simp[atKey,e']
   rw[am6 e,b];exact ih
def KT.repl (r:KT H kvs Y) k (Z:RelV y u) :
  KT H (kvs.map λ J=>if J.1=k then(J.1,y)else J) (Y.map (putAt k u)):=by
 induction r with
 | nil=>exact .nil
 | @cons p q ps qs h t ih =>
  rw[aR,aR];refine .cons ?_ ih;obtain⟨B,Uu,h3⟩:=h;unfold putAt;by_cases e:p.1=k
  .rw[ef e,ef (B.symm.trans e)];exact⟨B,Uu,Z⟩
  .rw[gc e,gc (λ z=>e (B.trans z))];exact⟨B,Uu,h3⟩
def KT.put (r:KT H kvs h) k (hb:NK H k b)(z:RelV y u) :
  KT H (as4 kvs k y) (storedH h k b u):=by
 have e:(kvs.any λ B=>decide (B.1=k))=(atKey h k).isSome:=by
  rw[ay5,(r.val k).isSome_eq,gH]
 unfold as4 storedH;rw[e];by_cases q:(atKey h k).isSome=bY
 .rw[ef q,ef q];exact r.repl k z
 .rw[gc q,gc q];exact mU r ⟨rfl,hb,z⟩
def KT.keeps (r:KT H kvs h)(ht:∀ b ys,H b=al (.tp ys)->H' b=al (.tp ys)):KT H' kvs h :=
 dm.mapP r λ _ _ z=>⟨z.1,z.2.1.mono ht,z.2.2⟩
section
variable {P:aF} {w:World} {H:Hp} {h:Heap} {a:Addr}
def ce9 (ok:HOk P w H h)(e:Rd H a u):ae4 P w H h a u:=e.ok ok
def bj9 (ok:HOk P w H h)(e:Rd H a (.dK kvs)):kvs.length<=a7/\(a==dD)=ce/\∃ vs,KV kvs vs/\h.DictOf (zT P w) a vs :=
 ce9 ok e
def bW3 (ok:HOk P w H h)(e:H a=al (.dK kvs)):kvs.length<=a7/\(a==dD)=ce/\∃ vs,KV kvs vs/\h.DictOf (zT P w) a vs:=bj9 ok (.inl e)
def aC8 (ok:HOk P w H h)(e:NK H ks a):(aA7 P w).is h ks a:=by
 obtain⟨J,e,p⟩:=e;obtain⟨_,its,r,o,z,B,n,h3⟩:=(ok a _ e)
 exact⟨o,its.toArray,n,z,B,h3,by simpa using bV3 ok p r⟩
def aY5 (ok:HOk P w H h)(e:Rd H a (.dT kvs)):kvs.length<=a7/\(a==dD)=ce /\
  ∃ B,KT H kvs B/\h.DictOfH (aA7 P w) a B:=by
 refine wl λ _ ua=>?_;obtain⟨z,y,B,r,o,es,ep,J,Uu,h3,Z,Y⟩:=(ce9 ok e)
 refine ua ⟨z,y,B,r,o,es,ep,J,Uu,h3,Z,λ x hx=>?_,Y⟩;have all:∀ {l} {m},KT H l m->∀ x∈m,(aA7 P w).is h x.1 x.2.1:=by
  intro l m q
  induction q with
  | nil=>simp_all
  | @cons p q ps qs hq t ih =>
   intro x hx;rcases aB.mp hx with e|hx
   .subst e;exact aC8 ok (by rw[<-hq.1];exact hq.2.1)
   .exact ih x hx
 exact all r x hx
def ck1 (ok:HOk P w H h)(e:H a=al (.dT kvs)):kvs.length<=a7/\(a==dD)=ce /\
  ∃ z,KT H kvs z/\h.DictOfH (aA7 P w) a z:=aY5 ok (.inl e)
end
def aF4 (H:Hp)(a:Addr)(y:V)(r:Option V):Prop :=
 (∃ kvs k,Rd H a (.dK kvs)/\y=kV k/\r=aF5 kvs k)\/∃ kvs k b,Rd H a (.dT kvs)/\y=.ref b/\NK H k b/\r=aF5 kvs k
def bP0 (H:Hp)(a:Addr)(y v:V)(H':Hp):Prop :=
 (∃ kvs k,H a=al (.dK kvs)/\y=kV k/\kvs.length<a7/\H'=upd H a (.dK (as4 kvs k v))) \/
 ∃ kvs k b,H a=al (.dT kvs)/\y=.ref b/\NK H k b/\kvs.length<a7/\H'=upd H a (.dT (as4 kvs k v))
def aF4.k {k}(e:H a=al (.dK kvs)):aF4 H a (kV k) (aF5 kvs k):=.inl ⟨kvs,k,.inl e,rfl,rfl⟩
def aF4.t {k}(e:H a=al (.dT kvs))(eb:NK H k b):aF4 H a (.ref b) (aF5 kvs k):=.inr ⟨kvs,k,b,.inl e,rfl,eb,rfl⟩
def bP0.k {k}(e:H a=al (.dK kvs))(h:kvs.length<a7):bP0 H a (kV k) v (upd H a (.dK (as4 kvs k v))):=.inl ⟨kvs,k,e,rfl,h,rfl⟩
def bP0.t {k}(e:H a=al (.dT kvs))(eb:NK H k b)(h:kvs.length<a7) :
  bP0 H a (.ref b) v (upd H a (.dT (as4 kvs k v))):=.inr ⟨kvs,k,b,e,rfl,eb,h,rfl⟩
section
variable {X:Cx} {pins:yA} {W:St} {H:Hp} {s:af} {a:Addr} {y v:V} {u r:Value} {o:Option V} {A:aV} {E:yB}
def Inv.big (I:Inv X pins W H s):dD<s.heap.objs.size:=by
 have h:=(I.mod.glob.keeps I.bk).lt;exact fq (by decide) h
def aF0 {Q:yB}(hu:A.units+2<cLine)(I:Inv X pins W H s)(g:aF4 H a y (al v))(ry:RelV y u)(h:∀ Uu s',Inv X pins W H s'->RelV v Uu->Q Uu s') :
  wpAny (model X.prog X.w) A (ie (.ref a) u) Q E s:=by
 rcases g with⟨kvs,k,e,Z,l⟩|⟨kvs,k,b,e,Z,eb,l⟩
 .subst Z;obtain⟨z,hd,vs,J,dd⟩:=bj9 I.hok e;obtain⟨Uu,hw,B⟩:=az9.some_of (by rw[l];exact J.val k);exact wpAny_getItem_of (aV2 ry) dd.mapOf hw (h Uu _ (I.tok _) B)
 .subst Z;cases(ry);obtain⟨z,hd,xs,J,dd⟩:=aY5 I.hok e;obtain⟨Uu,hw,B⟩:=az9.some_of (by rw[l];exact J.val k);obtain⟨p,hp,Y⟩:=bq.mp hw;refine wpAny_getItem_heap (hu) (aC8 I.hok eb) dd hp ?_;rw[Y];exact h Uu _ (I.tok _) B
def cr9 {Q:yB}(hu:A.units+2<cLine)(I:Inv X pins W H s)(g:aF4 H a y o)(Uu:RelV y u)(h:∀ s',Inv X pins W H s'->Q (.bool o.isSome) s') :
  wpAny (model X.prog X.w) A (dP .In u (.ref a)) Q E s:=by
 rcases g with⟨kvs,k,e,J,l⟩|⟨kvs,k,b,e,J,eb,l⟩
 .subst J;obtain⟨z,hd,vs,B,dd⟩:=bj9 I.hok e;refine wpAny_in_of (aV2 Uu) hd dd.mapOf ?_;rw[<-(B.val k).isSome_eq,<-l];exact h _ (I.tok _)
 .subst J;cases(Uu);obtain⟨z,hd,Y,B,dd⟩:=aY5 I.hok e;refine wpAny_in_heap (hu) (aC8 I.hok eb) hd dd ?_;have q:=(B.val k).isSome_eq;rw[gH]at q;rw[<-q,<-l];exact h _ (I.tok _)
def bd6 {Q:yB}(hu:A.units+2<cLine)(I:Inv X pins W H s)(g:aF4 H a y o)(Uu:RelV y u)(h:∀ s',Inv X pins W H s'->Q (.bool (!o.isSome)) s') :
  wpAny (model X.prog X.w) A (dP .NotIn u (.ref a)) Q E s:=by
 rcases g with⟨kvs,k,e,J,l⟩|⟨kvs,k,b,e,J,eb,l⟩
 .subst J;obtain⟨z,hd,vs,B,dd⟩:=bj9 I.hok e;refine wpAny_notIn_of (aV2 Uu) hd dd.mapOf ?_;rw[<-(B.val k).isSome_eq,<-l];exact h _ (I.tok _)
 .subst J;cases(Uu);obtain⟨z,hd,Y,B,dd⟩:=aY5 I.hok e;refine wpAny_notIn_heap (hu) (aC8 I.hok eb) hd dd ?_;have q:=(B.val k).isSome_eq;rw[gH]at q;rw[<-q,<-l];exact h _ (I.tok _)
def aG4 (I:Inv X pins W H s)(mu:Mut (H a))(hs:d9 a s.heap h')(h:∃ q,h'.get? a=al q)(new:ae4 X.prog X.w (upd H a ob) h' a ob) :
  Inv X pins W (upd H a ob) { s with heap:=h',toks:=t' } :=
 I.write mu (.inl rfl) (λ b q hb z=>(hs.2 b hb).trans z) h new
def bA2 (z:kvs.length<=a7)(hd:(a==dD)=ce)(h:KV kvs vs)(dd:h'.DictOf (zT P w) a vs) :
  ae4 P w H' h' a (.dK kvs):=⟨z,hd,vs,h,dd⟩
def aB8 (hu:A.units+2<cLine)(I:Inv X pins W H s)(g:bP0 H a y v H')(ry:RelV y u)(rv:RelV v r)(h:∀ s',Inv X pins W H' s'->Q () s') :
  wpAny (model X.prog X.w) A (setItem (.ref a) u r) Q E s:=by
 rcases g with⟨kvs,k,e,Uu,l,Y⟩|⟨kvs,k,b,e,Uu,eb,l,Y⟩
 .subst Uu Y;obtain⟨z,hd,vs,B,dd⟩:=bW3 I.hok e;have hz:vs.length<=a7:=by rw[<-B.length];exact z
  have Z:(as4 kvs k v).length<=a7:=by have:=jz kvs k v;lia
  refine wpAny_setItem_pairs (aV2 ry) dd λ h' J hs=>h _ ?_;have he:∃ q,h'.get? a=al q:=let⟨q,_,_,hq,_⟩:=J;⟨q,hq⟩
  exact aG4 I (by rw[e];exact True.intro) hs he (bA2 Z hd (B.put k rv) J)
 .subst Uu Y;cases(ry);obtain⟨z,hd,xs,B,dd⟩:=ck1 I.hok e;have hz:xs.length<=a7:=by rw[<-fD B];exact z
  have Z:(as4 kvs k v).length<=a7:=by have:=jz kvs k v;lia
  refine wpAny_setItem_heap (hu) (aC8 I.hok eb) dd λ h' J hs=>h _ ?_;obtain⟨q,es,ep,hq,h2,h3,h4,_,h5⟩:=J;refine aG4 I (by rw[e];exact True.intro) hs ⟨q,hq⟩ ⟨Z,hd,_,(B.put k eb rv).keeps λ c ys ec=>?_,q,es,ep,hq,h2,h3,h4,h5⟩;rw[zb (cl4 ec e (λ z=>nomatch z))];exact ec
end
section
variable {X:Cx} {pins:yA} {W:St} {H:Hp} {s:af} {a:Addr} {kvs:List (Key×V)} {k:Key} {u:Value} {A:aV} {E:yB}
end
def ao2 {W:St}(I:Inv X h W H s)(g:aF4 H a y o):s.TypeIs (.ref a) "dict":=by
 rcases g with⟨kvs,k,e,_,_⟩|⟨kvs,k,b,e,_,_,_⟩
 .obtain⟨_,_,vs,_,dd⟩:=bj9 I.hok e;exact dd.typeIs
 .obtain⟨_,_,z,_,dd⟩:=aY5 I.hok e;exact dd.typeIs
section
variable {X:Cx} {o i e value:Expr} {pos pos' tpos:Pos} {td ty tv:TE}
end
def aP4 (h:Heap)(hb:dD<h.objs.size):ae4 P w H (h.push { cls:=.type "dict",data:=.dict #[] }) h.objs.size (.dK []) :=
 ⟨cq _,beq_eq_false_iff_ne.mpr (bH (aH hb)),[],.nil,Heap.DictOf.new h⟩
def br4 (h:Heap)(hb:dD<h.objs.size):ae4 P w H (h.push { cls:=.type "dict",data:=.dict #[] }) h.objs.size (.dT []) :=
 ⟨cq _,beq_eq_false_iff_ne.mpr (bH (aH hb)),[],.nil,_,#[],0,aX _ rfl,⟨rfl,rfl,rfl⟩,rfl,rfl,gm⟩
def by2:TE:=λ _ H Q=>∀ p,H p=aT->Q (.ref p) (upd H p (.dK []))
def by9:TE:=λ _ H Q=>∀ p,H p=aT->Q (.ref p) (upd H p (.dT []))
section
variable {X:Cx} {pos:Pos}
def bu5:PE X (.Dict [] [] pos) by2:=λ z s W H Q I h =>
 kZ ⟨.ref s.heap.objs.size,_,I.laid (λ _ _ q=>ak _ q) (aj _) (aP4 s.heap I.big),rfl,h _ (I.hok.fresh (aj _))⟩
def bp0:PE X (.Dict [] [] pos) by9:=λ z s W H Q I h =>
 kZ ⟨.ref s.heap.objs.size,_,I.laid (λ _ _ q=>ak _ q) (aj _) (br4 s.heap I.big),rfl,h _ (I.hok.fresh (aj _))⟩
end
noncomputable def bf0:List (TE×TE)->St->Hp->(List (V×V)->Hp->Prop)->Prop
 | [],_,H,Q=>Q [] H
 | (tk,tv)::r,W,H,Q=>tk W H λ x H1=>tv W H1 λ y H2=>bf0 r W H2 λ ps H3=>Q ((x,y)::ps) H3
abbrev VV:List (V×V)->List (Value×Value)->Prop:=dm λ p q=>RelV p.1 q.1/\RelV p.2 q.2
def PPs (X:Cx)(pos:Pos)(keys:List (Option Expr))(values:yL)(trs:List (TE×TE)):Prop :=
 ∀ pins   s  (W:St)  H   Q ,Inv X pins W H s->bf0 trs W H Q ->
  wpAny (model X.prog X.w) X.A (evalPairs (pairTrees keys values X.env pos)) (λ vs s'=>∃ ps H',Inv X pins W H' s'/\VV ps vs/\Q ps H') X.xe s
def bE1 :PPs X pos [] [] []:=λ z s W H Q I h=>pairTrees_nil_walk ⟨[],H,I,.nil,h⟩
def bm8 (hk:PE X k tk)(hv:PE X v Uu)(hr:PPs X pos ks vs B) :
  PPs X pos (al k::ks) (v::vs) ((tk,Uu)::B):=λ z s W H Q I h =>
 pairTrees_cons_walk (thn (hk z s W H _ I h) λ u s1 ⟨x,H1,I1,rx,Y⟩=>thn (hv z s1 W H1 _ I1 Y) λ w2 s2 ⟨y,H2,I2,ry,q2⟩ =>
  thn (hr z s2 W H2 _ I2 q2) λ ws s3 ⟨ps,Z,I3,J,q3⟩=>⟨(x,y)::ps,Z,I3,.cons ⟨rx,ry⟩ J,q3⟩)
def aq5 (kvs more:List (Key×V)):List (Key×V):=more.foldl (λ acc kv=>as4 acc kv.1 kv.2) kvs
def KV.merge:∀ {more} {z} {kvs} {vs},KV more z->KV kvs vs->KV (aq5 kvs more) (merged vs z):=by
 intro more z kvs vs r;unfold KV at r
 induction r generalizing kvs vs with
 | nil=>intro q;exact q
 | @cons p q ps qs h t ih =>
  intro r0;have e:KV (as4 kvs p.1 p.2) (stored vs q.1 q.2):=by
   have:=r0.put p.1 h.2;rw[<-h.1];exact this
  exact ih e
theorem ah1:∀ more kvs ,(aq5 kvs more).length<=kvs.length+more.length
 | [],kvs=>by show kvs.length<=kvs.length+0;lia
 | p::r,kvs=>by
  have h:=ah1 r (as4 kvs p.1 p.2);have z:=jz kvs p.1 p.2;show(aq5 (as4 kvs p.1 p.2) r).length<=_
  grind
theorem au2 :∀ {kvs} {ws},VV (kvs.map λ B=>(kV B.1,B.2)) ws->∃ z,Carries (zT P w) ws z/\KV kvs z
 | [],_,r=>by rw[fk]at r;cases r;exact⟨[],True.intro,.nil⟩
 | p::kvs,_,r=>by
  rw[aR]at r;cases r with
  | @cons a b as bs h t =>
   obtain⟨z,c,q⟩:=au2 t;obtain⟨b1,b2⟩:=b;exact⟨(p.1,b2)::z,⟨aV2 h.1,rfl,c⟩,.cons ⟨rfl,h.2⟩ q⟩
def cd4 (trs:List (TE×TE)):TE:=λ W H Q=>∀ p,H p=aT->bf0 trs W (upd H p (.dK [])) λ ps H2=>H2 p=al (.dK [])/\∃ kvs,ps=kvs.map (λ kv=>(kV kv.1,kv.2))/\kvs.length<=15/\Q (.ref p) (upd H2 p (.dK (aq5 [] kvs)))
def bN8 (h:PPs X pos keys B J)(hall:keys.all (·.isSome)=bY)(hl:keys.length=B.length)(h0:keys≠[])
  (a0:keys.length<=15):PE X (.Dict keys B pos) (cd4 J):=by
 intro Y s W H Q I q;have hn:=I.hok.fresh (aj s.heap.objs.size);have I1:=I.laid (t':=s.toks) (λ _ _ q=>ak _ q) (aj _) (aP4 s.heap I.big);refine wpAny_Dict_walk (knd:=zT X.prog X.w) hall hl h0 a0 (thn (h Y _ W _ _ I1 (q _ hn)) λ ws s2 ⟨ps,H2,I2,Z,e,kvs,ep,lk,q2⟩=>?_);subst ep;refine wl λ _ ua=>?_;obtain⟨rs,c,rk⟩:=au2 Z;obtain⟨z,hd,a1,r0,dd⟩:=bW3 I2.hok e;cases r0;refine ua ⟨rs,c,dd,λ h' Uu hs=>⟨.ref s.heap.objs.size,_,?_,rfl,q2⟩⟩;have hz:(aq5 [] kvs).length<=a7:=by
  have h1:=ah1 kvs [];rw[fT]at h1;rw[fK];lia
 have he:∃ q,h'.get? s.heap.objs.size=al q:=let⟨q,_,_,hq,_⟩:=Uu;⟨q,hq⟩
 exact aG4 I2 (by rw[e];exact True.intro) hs he (bA2 hz hd (rk.merge .nil) Uu)
section
variable {X:Cx} {pins:yA} {W:St} {H:Hp} {s:af} {a:Addr} {y d:V} {u r:Value} {o:Option V} {A:aV} {E:yB}
end
section
variable {X:Cx} {o e f:Expr} {apos cpos:Pos} {td ty tx:TE}
end
section
variable {P:aF} {w:World} {A:aV} {E:yB} {s:af}
end
section
variable {X:Cx} {pins:yA} {W:St} {H:Hp} {s:af}
end
section
variable {prog:aF} {w:World} {A:aV} {R:kS->af->Prop} {I:Addr} {fp wr:List Addr} {n:Nat} {P:Nat->Value->Prop} {St:Nat->Heap->Prop} {kw:List (Str×Value)}
end
def XAt (h:Heap)(x Cc:Addr):Prop:=∃ ox,h.get? x=al ox/\ox.cls=Value.ref Cc
def XAt.type (I:XAt h x Cc):PySem.W.Looks M h (my (Value.ref x)) (Value.ref Cc):=by
 obtain⟨J,z,B⟩:=I;exact B▸mH (m8 z) m7
noncomputable def zD (h:Heap)(l:List Addr):Heap:={ h with objs:=h.objs.mapIdx λ i o=>if i∈l then { o with data:=.freed } else o }
def zz (hb:b∈l):(zD h l).get? b=none:=by
 unfold Heap.get? zD;simp only[iG];cases e:h.objs[b]? with
 | none=>rfl
 | some o=>simp only[bS,ef hb]
def qM (hb:b ∉ l):(zD h l).get? b=h.get? b:=by
 unfold Heap.get? zD
 simp_all
def qf :(zD h l).StaysIn h:=λ b o e=>by
 by_cases hb:b∈l
 .rw[zz hb]at e;cases e
 .rwa [qM hb]at e
def without_none (e:(zD h l).get? b=aT):b∈l\/h.get? b=none:=by
 by_cases hb:b∈l
 .exact .inl hb
 .rw[qM hb]at e;exact .inr e
theorem ar7 {h  :Heap}:∀ {l},h.FunFrames base l->(∀ b∈frs l,B.get? b=aT)->h.FunFrames B l
 | [],_,_=>True.intro
 | env::l,⟨k,⟨L,o,hf,_,ho,hd⟩,r⟩,hb=>by
  have J:frs (env::l)=L::frs l:=by unfold frs;rw[bu,hf]
  rw[J]at hb;exact⟨k,⟨L,o,hf,hb L (ar ..),ho,hd⟩,ar7 r λ b z=>hb b (ah _ z)⟩
def HOk.part (x:HOk P w H h)(k:∀ b u o,H b=al u->h.get? b=al o->h'.get? b=al o):HOk P w H h':=λ a o e =>
 (x a o e).stay (λ b u hb q=>by
  rcases hb with rfl|hb
  .exact k _ _ _ e q
  .exact k _ _ _ hb q) (λ _ q=>q) λ _ _ q=>q
def ae4.at_ (x:ae4 P w H h a o):∃ u,h.get? a=al u:=by
 cases o with
 | J xs=>obtain⟨_,_,_,_,e⟩:=x;exact⟨_,e⟩
 | tp xs=>obtain⟨_,_,_,ob,e,_⟩:=x;exact⟨_,e⟩
 | dK kvs=>obtain⟨_,_,_,_,o,_,_,e,_⟩:=x;exact⟨_,e⟩
 | dT kvs=>obtain⟨_,_,_,_,o,_,_,e,_⟩:=x;exact⟨_,e⟩
 | set S n=>obtain⟨o,_,_,_,e,_⟩:=x;exact⟨_,e⟩
 | ins Cc dx fs=>obtain⟨_,_,_,e,_⟩:=x;exact⟨_,e⟩
 | own y=>exact x
 | xd fs=>obtain⟨_,⟨_,_,_,e,_⟩,_⟩:=x;exact⟨_,e⟩
 | rng lo hi=>obtain⟨_,_,_,e⟩:=x;exact⟨_,e⟩
 | frz ob u=>obtain⟨e,_⟩:=x;exact⟨_,e⟩
 | tbl ps=>exact⟨_,(x)⟩
 | met f y=>exact⟨_,(x)⟩
 | ext C=>obtain⟨_,e,_⟩:=x;exact e
structure Fly (h0:Heap)(H:Hp)(h:Heap)(a Cc:Addr):Prop where
 new:h0.get? a=aT
 free:H a=aT
 at_:∃ a0 oe vs T oT ts,h.get? a=al oe/\(oe.cls=.ref Cc/\vs[0]?=al a0)/\oe.data=.fields vs/\vs[1]?=al (.ref T)/\h0.get? T=aT/\H T=aT/\T≠a/\h.get? T=al oT/\oT.data=.fields ts/\ts[3]?=al .none
section
variable {X:Cx} {pins:yA} {W:St} {H:Hp} {s:af} {a Cc:Addr} {a0:Value}
def bc2 (I:Inv X pins W H s)(J:X.ex=[])(a2:∀ b∈frs X.stack,b∈bs)(hb:∀ b∈bs,b∈frs X.stack\/(X.s₀.heap.get? b=aT/\H b=aT))(n0:X.s₀.heap.get? a=aT)(nH:H a=aT)(h:∀ b∈X.fs,b∈frs X.stack)
  (L:Heap.LeftW (zD s.heap bs) X.stack a (.ref Cc) a0 s.heap h'):Un X.fs [] X.H₀ H X.s₀.heap h'/\HOk X.prog X.w H h'/\Fly X.s₀.heap H h' a Cc:=by
 obtain⟨st,ff,tr,sl⟩:=L;have un:=I.base;rw[J]at un;have keep:=λ b o n e=>st b o (by rw[qM n];exact e);have slot:∀ b o,b∈frs X.stack->s.heap.get? b=al o->∃ sl,h'.get? b=al { o with slots:=sl }:=λ b o n e=>by
  obtain⟨_,o',e',d⟩:=I.stack.mem n
  simp_all
 have out:∀ b o,X.s₀.heap.get? b=al o->b ∉ frs X.stack->b ∉ bs:=λ b o e n z=>by
  rcases hb b z with q|⟨q,_⟩
  .exact n q
  .rw[e]at q;cases q
 have Y:∀ b o,X.s₀.heap.get? b=al o->b ∉ X.fs->b ∉ frs X.stack:=λ b o e n z=>by
  rcases aB.mp (I.stkSub b z)with q|q
  .subst q;exact iS (aN e) (lJ.mpr I.ok.above)
  .exact n q
 refine⟨⟨λ b o e n B nx=>?_,λ b o e n B nx=>?_,un.free,λ b o e nx=>?_,un.tups,un.frzs,un.tbls⟩,I.hok.part λ b u o e q=>?_,⟨n0,nH,?_⟩⟩
 .exact keep b o (out b o e (Y b o e B)) (un.keep b o e n B nx)
 .obtain⟨a1,e1⟩:=un.slot b o e n B nx;obtain⟨Uu,e2⟩:=slot b _ (h b B) e1;exact⟨Uu,e2⟩
 .obtain⟨o1,e1⟩:=un.there b o e nx;by_cases z:b∈frs X.stack
  .obtain⟨_,e2⟩:=slot b _ z e1;exact⟨_,e2⟩
  .exact⟨_,keep b o1 (out b o e z) e1⟩
 .refine keep b o (λ z=>?_) q;rcases hb b z with y|⟨_,y⟩
  .rw[I.stkFree b y]at e;cases e
  .rw[y]at e;cases e
 .refine wl λ _ ua=>?_;obtain⟨oe,vs,T,oT,ts,h1,h2,h3,h4,h5,h6,h7,Z,h9⟩:=tr;have key:X.s₀.heap.get? T=aT/\H T=none:=by
   rcases without_none h5 with z|z
   .rcases hb T z with y|y
    .obtain⟨_,o',e',d⟩:=ff.mem y
     simp_all
    .exact y
   .refine⟨?_,?_⟩
    .cases e:X.s₀.heap.get? T with
     | none=>rfl
     | some o=>obtain⟨o',e'⟩:=un.there T o e (by simp);rw[z]at e';cases e'
    .cases e:H T with
     | none=>rfl
     | some o=>obtain⟨u,e'⟩:=(I.hok T o e).at_;rw[z]at e';cases e'
  exact ua ⟨a0,oe,vs,T,oT,ts,h1,h2,h3,h4,key.1,key.2,h6,h7,Z,h9⟩
def bf2 {vs:yK}(I:Inv X pins W H s)(Y:X.ex=[])(h:X.stack=X.env::X.outer)(z:X.env.frame=al X.env.locals)(n0:X.s₀.heap.get? a=aT)(nH:H a=aT)
  (h1:s.heap.get? a=al Z) (h2:Z.cls=.ref Cc) (h3:Z.data=.fields vs) (h4:vs[1]?=al .none) (h5:vs[0]?=al a0) {E:yB}
  (k:∀ h',Un X.fs [] X.H₀ H X.s₀.heap h'->HOk X.prog X.w H h'->Fly X.s₀.heap H h' a Cc->Q () { s with heap:=h' }):wpAny (model X.prog X.w) X.A (leaving X.env (.ref a)) Q E s:=by
 have Uu:s.heap.FunFrames (zD s.heap (a::frs X.stack)) X.stack:=ar7 I.stack λ b hb=>zz (ah _ hb);have B:∀ b∈X.fs,b∈frs X.stack:=λ b hb=>by rw[h];unfold frs;rw[bu,z];exact ah _ hb
 have J:=I.ok.frames;rw[h]at J;refine wpAny_leaving_firstW (base:=zD s.heap (a::frs X.stack)) J (by simp_all) z h1 qf (zz (ar ..)) h3 h4 h5 λ h' L=>?_;rw[h2,<-h]at L;obtain⟨u,o,f⟩:=bc2 I Y (λ b hb=>ah _ hb) (λ b hb=>by
  grind) n0 nH B L
 simp_all
def aT1 (I:Inv X pins W H s)(Y:X.ex=[])(h:X.stack=X.env::X.outer)(z:X.env.frame=al X.env.locals)(F:Fly X.s₀.heap H s.heap a Cc){E:yB}
  (k:∀ h',Un X.fs [] X.H₀ H X.s₀.heap h'->HOk X.prog X.w H h'->Fly X.s₀.heap H h' a Cc->Q () { s with heap:=h' }):wpAny (model X.prog X.w) X.A (leaving X.env (.ref a)) Q E s:=by
 refine wl λ _ ua=>?_;obtain⟨n0,nH,a0,oe,vs,T,oT,ts,h1,h2,h3,h4,h5,h6,h7,h8,h9,Z⟩:=F;have Uu:s.heap.FunFrames (zD s.heap (a::T::frs X.stack)) X.stack:=ar7 I.stack λ b hb=>zz (ah _ (ah _ hb));have B:∀ b∈X.fs,b∈frs X.stack:=λ b hb=>by rw[h];unfold frs;rw[bu,z];exact ah _ hb
 have J:=I.ok.frames;rw[h]at J;refine ua ?_;refine wpAny_leaving_nextW J (by rw[<-h];exact Uu) z ⟨oe,vs,T,oT,ts,h1,h2,h3,h4,zz (by simp),h7,h8,h9,Z⟩ qf (zz (ar ..)) λ h' L=>?_;rw[<-h]at L;obtain⟨u,o,f⟩:=bc2 I Y (λ b hb=>ah _ (ah _ hb)) (λ b hb=>by
  rcases aB.mp hb with q|q
  .subst q;exact .inr ⟨n0,nH⟩
  .rcases aB.mp q with q|q
   .subst q;exact .inr ⟨h5,h6⟩
   .exact .inl q) n0 nH B L
 exact k h' u o f
end
def CX1 (P:aF)(w:World):CXT:=λ outer H s E e s'=>∃ a Cc H',e=.ref a/\s'.os=s.os/\fY s'.gens/\Un (frs outer) [] H H' s.heap s'.heap/\HOk P w H' s'.heap/\Fly s.heap H' s'.heap a Cc/\E e (al Cc) H'
def CX1.inv {W:St}(I:Inv X B W H s)(Uu:X.ex=[])(h:CX1 X.prog X.w X.stack H s E e s') :
  ∃ a Cc H',e=.ref a/\Inv X B W H' s'/\Fly X.s₀.heap H' s'.heap a Cc/\E e (al Cc) H':=by
 refine wl λ _ ua=>?_;obtain⟨a,Cc,H',rfl,os,bare,un,hok,F,q⟩:=h;have J:∀ b,s.heap.get? b=aT->X.s₀.heap.get? b=none:=λ b z=>by
  cases e:X.s₀.heap.get? b with
  | none=>rfl
  | some o=>obtain⟨o',e'⟩:=I.base.there b o e (by simp_all);lia
 obtain⟨n0,nH,a0,oe,vs,T,oT,ts,h1,h2,h3,Z,Y,h6,h7⟩:=F;exact ua ⟨a,Cc,H',rfl,I.call' os un hok bare (λ b z=>iS z (by simp)),⟨J _ n0,nH,a0,oe,vs,T,oT,ts,h1,h2,h3,Z,J _ Y,h6,h7⟩,q⟩
section
variable {P:aF} {w:World} {K:ac} {mg:yD} {base:Heap} {N:yI} {qual:Str} {scope:Scope} {f:Addr} {cd:Value} {A:aV} {outer:List Env} {s0:af} {H0:Hp} {E:XK}
def ci3:qo (CX1 P w) (as8 (CX1 P w) P w K mg base N qual scope f cd A outer s0 H0 E) E:=by
 intro z W H s e s' I h;obtain⟨a,Cc,H',rfl,J,F,q⟩:=CX1.inv I rfl h;exact aT1 J rfl rfl rfl F λ h' u o F'=>⟨a,Cc,H',rfl,J.os,J.bare,u,o,F',q⟩
def aU4 (X:Cx)(E:XK):Prop:=∀ pins  (W:St)  H   s   h'   a Cc  (args:yH),Inv X pins W H s->Heap.MadeExcOf s.heap h' a (.ref Cc) args->E (.ref a) (al Cc) H->X.xe (.ref a) { s with heap:=h' }
def cn2:aU4 (as8 (CX1 P w) P w K mg base N qual scope f cd A outer s0 H0 E) E:=by
 intro h W H s h' a Cc args I M q;have J:=I.kept (t':=s.toks) M.keeps;obtain⟨t,z,_⟩:=M.there;refine bf2 J rfl rfl rfl ?_ ?_ z rfl rfl rfl rfl λ Uu u o F=>⟨a,Cc,H,rfl,J.os,J.bare,u,o,F,q⟩
 .show s0.heap.get? a=aT;cases e:s0.heap.get? a with
  | none=>rfl
  | some o =>
   obtain⟨B,e'⟩:=I.base.there a o e (by show a ∉ ([]);simp);rw[M.new]at e';cases e'
 .cases e:H a with
  | none=>rfl
  | some o =>
   obtain⟨u,e'⟩:=(I.hok a o e).at_;rw[M.new]at e';cases e'
end
def ffx {p:Prop}(h:ce=bY):p:=k7 h
noncomputable def excTail:List Value:=[.type "ValueError",.type "Exception",.type "BaseException",.type "object"]
noncomputable def nsQ (K:ac)(N:Addr):Bool:=match K.lookup N with
 | some ⟨_,_,.dict es _,_⟩=>(es.all λ e=>match e.key with|.str _ _=>bY|_=>ce)&&lM.all λ n=>(nsFind es n).isNone
 | _=>ce
def bH9 (K:ac):List Value->Bool
 | .ref A::tl=>(match K.lookup A with|some ⟨_,_,.cls cd,_⟩=>nsQ K cd.ns|_=>ce)&&bH9 K tl
 | l=>l==excTail
def cn7 (K:ac)(Cc:Addr):Bool:=match K.lookup Cc with
 | some ⟨c,_,.cls cd,⟨[_,_,_,_,k4,_]⟩⟩=>c==.type "type"&&(!cd.hasDel&&(nsQ K cd.ns&&((match cd.mro with|m::tl=>m==.ref Cc&&bH9 K tl|[]=>ce)&&k4==al (.builtin "ValueError.__new__"))))
 | _=>ce
def bB5 {K}(h:nsQ K N=bY):∃ z,(∀ n∈lM,z n=aT)/\∀ h:Heap,K.In h->h.Ns N z:=by
 unfold nsQ at h;cases e:K.lookup N with
 | none=>simp_all
 | some o =>
  rw[e]at h;obtain⟨c,d,B,sl⟩:=o;cases B with
  | dict es ep =>
   have h:=(ae _ _).mp h;refine⟨nsFind es,λ n hn=>?_,λ J hK=>⟨_,es,ep,hK _ _ e,rfl,λ x hx=>?_,λ _=>rfl⟩⟩
   .simp_all
   .have:=Array.all_eq_true'.mp h.1 x hx;cases q:x.key with
    | str _ _=>exact⟨_,_,rfl⟩
    | _=>rw[q]at this;exact ffx this
  | _=>exact ffx h
theorem aO4 {K}:∀ {l:yH},bH9 K l=bY->∀ h:Heap,K.In h->OwnTailQ h excTail l
 | [],h,hp,hK=>by
  cases iN h
 | v::tl,h,hp,hK=>by
  cases v with
  | ref A =>
   obtain⟨z,B⟩:=(ae _ _).mp h;cases e:K.lookup A with
   | none=>simp_all
   | some o =>
    rw[e]at z;obtain⟨c,d,J,sl⟩:=o;cases J with
    | cls cd =>
     obtain⟨Uu,q,n⟩:=bB5 z;exact .own (hK _ _ e) (n hp hK) q (aO4 B hp hK)
    | _=>exact ffx z
  | type n =>
   cases iN h;exact .base
  | _=>cases iN h
structure ExcCls (K:ac)(Cc:Addr):Prop where
 obj:∃ bm N nm q bs hdct sn sub ab col dd k0 k1 k2 k3 k5 mN,K.lookup Cc=al (excClassObj nm q Cc N bs bm hdct sn sub ab col dd k0 k1 k2 k3 k5 "ValueError.__new__")/\(∀ n∈lM,mN n=aT)/\∀ h:Heap,K.In h->h.Ns N mN/\OwnTailQ h excTail bm
def bG2 {K}(h:cn7 K Cc=bY):ExcCls K Cc:=by
 unfold cn7 at h;cases e:K.lookup Cc with
 | none=>simp_all
 | some o =>
  rw[e]at h;obtain⟨c,dd,dt,⟨sl⟩⟩:=o;cases dt with
  | cls cd =>
   rcases sl with _|⟨k0,_|⟨k1,_|⟨k2,_|⟨k3,_|⟨k4,_|⟨k5,_|⟨k6,sl⟩⟩⟩⟩⟩⟩⟩
   case cons.cons.cons.cons.cons.cons.nil =>
    obtain⟨nm,bs,B,N,q,hdct,sn,sub,ab,col,J⟩:=cd;obtain⟨h1,h⟩:=(ae _ _).mp h;obtain⟨Uu,h⟩:=(ae _ _).mp h;obtain⟨h3,h⟩:=(ae _ _).mp h;obtain⟨z,h5⟩:=(ae _ _).mp h;cases B with
    | nil=>exact ffx z
    | cons m tl =>
     obtain⟨z,h6⟩:=(ae _ _).mp z;have e1:=iN h1;have e5:=iN h5;have Z:=iN z;subst e1 e5 Z;have Uu:=(fv _).mp Uu;subst Uu;obtain⟨mN,q',n⟩:=bB5 h3;exact⟨tl,N,nm,q,bs,hdct,sn,sub,ab,col,dd,k0,k1,k2,k3,k5,mN,e,q',λ Y hK=>⟨n Y hK,aO4 h6 Y hK⟩⟩
   all_goals exact ffx h
  | _=>exact ffx h
noncomputable def excI (K:ac)(Cc:Addr):Bool:=bU K (.ref Cc) (bX "__getattribute__")==al (al (.builtin "BaseException.__getattribute__"))&&(bU K (.ref Cc) (bX "__getattr__")==al aT&&(bU K (.ref Cc) (bX "__class__")==al (al (.builtin "object.__class__"))&&(PySem.W.specialIn K (.builtin "object.__class__") (bX "__get__")==al (al (.builtin "getset_descriptor.__get__"))&&(PySem.W.takesIn K (.builtin "object.__class__")==al bY&&PySem.W.mroIn K Cc (.type "object")==al bY))))
section
variable {X:Cx} {E:XK} {Cc:Addr} {x:Str}
def bw0 (T:aU4 X E)(hc:ExcCls X.K Cc)(hg:Gl X x)(Z:X.mg x=al (.ref Cc))(hh:X.A.handled=aT)(hd:(x==("__debug__":Str))=ce) :
  PS X (.Raise (al (.Call (.Name x np) [.Constant (.str y) j p] [] z)) aT pos) (λ D W H=>∀ a,E (.ref a) (al Cc) H):=by
 intro h s W H D I q;refine wl λ _ ua=>?_;obtain⟨bm,N,nm,Y,bs,hdct,sn,sub,ab,col,dd,k0,k1,k2,k3,k5,mN,e,hq,hN⟩:=hc.obj;have J:=hN _ I.kIn;refine ua ?_;refine wpAny_Raise_call_subT (nm:=nm) (q:=Y) (C:=Cc) (N:=N) (bs:=bs) (hdct:=hdct) (sn:=sn) (sub:=sub) (ab:=ab) (col:=col) (dd:=dd) (k0:=k0) (k1:=k1) (k2:=k2) (k3:=k3) (k5:=k5) i0 (OwnTail.hasType J.2.tail i0.hasBase) hh rfl (hq _ (ar ..)) ?_;refine thn (aH0 (v:=.ref Cc) hg Z rfl hd h s W H (λ v B=>v=.ref Cc/\B=H) I ⟨rfl,rfl⟩) λ u s1 ⟨v,B,I1,r,e1,e2⟩=>?_;subst e1 e2;refine⟨r,iV ?_⟩;have pa:PA X [.Constant (.str y) j p] (ao7 (tC (.str y)) aO3):=zR by6 af5;refine thn (pa z h s1 W B (λ vs H2=>vs.length=1/\H2=B) I1 ⟨rfl,rfl⟩) λ us s2 ⟨vs,H2,I2,r2,e3,Uu⟩=>?_;subst Uu;have hl:us.length=1:=by rw[<-r2.length];exact e3
 refine⟨rfl,by show us.length<=_;rw[hl];decide,I2.kIn _ _ e,(hN _ I2.kIn).1,(hN _ I2.kIn).2.tail,λ h' a M=>?_⟩;exact T h W H2 s2 h' a Cc us I2 M (q a)
end
structure Tr (X:Cx)(pins:yA)(W:St)(H:Hp)(s:af)(a Cc:Addr)(fl:Value):Prop where
 inv:Inv X pins W H s
 n0:X.s₀.heap.get? a=aT
 nH:H a=aT
 np:∀ p∈X.pn++pins,p.1≠a
 tr:∃ a0 oe vs T oT ts,s.heap.get? a=al oe/\(oe.cls=.ref Cc/\vs[0]?=al a0)/\oe.data=.fields vs/\vs[1]?=al (.ref T)/\X.s₀.heap.get? T=aT/\H T=aT/\(∀ p∈X.pn++pins,p.1≠T)/\T≠a/\s.heap.get? T=al oT/\oT.data=.fields ts/\ts[3]?=al fl
section
variable {X:Cx} {pins:yA} {W:St} {H:Hp} {s:af} {a Cc T:Addr} {fl fl' a0:Value} {h':Heap}
def Tr.stk (h:X.stack=X.env::X.outer)(z:X.env.frame=al X.env.locals):∀ b∈X.fs,b∈frs X.stack:=λ b hb=>by rw[h];unfold frs;rw[bu,z];exact ah _ hb
def Tr.moved (t:Tr X pins W H s a Cc fl)(Uu:X.ex=[])(c0:X.stack=X.env::X.outer)(a8:X.env.frame=al X.env.locals){ts:yK}(a4:X.s₀.heap.get? T=aT)(a5:H T=aT)(Y:∀ p∈X.pn++pins,p.1≠T)(b5:s.heap.get? T=al oT)(b2:oT.data=.fields ts)
  (st:(zD s.heap (a::T::frs X.stack)).StaysIn h') (ff:h'.FunFrames (zD s.heap (a::T::frs X.stack)) X.stack) (tr:h'.TracedAtW (zD s.heap (a::T::frs X.stack)) a (.ref Cc) a0 fl')
  (sl:∀ b o,s.heap.get? b=al o->(∀ vs,o.data≠.fields vs)->∃ sl,h'.get? b=al { o with slots:=sl }):Tr X pins W H { s with heap:=h' } a Cc fl':=by
 have I:=t.inv;have un:=I.base;rw[Uu]at un;have a3:=Tr.stk c0 a8;refine wl λ _ ua=>?_;obtain⟨b0,oe,vs,_,_,_,g1,_,g3,_⟩:=t.tr;have a1:∀ b,b∈a::T::frs X.stack->b=a\/b=T\/b∈frs X.stack:=λ b hb=>by
  simp_all
 have keep:=λ b o n1 n2 n3 e=>st b o (by
  rw[qM λ z=>(a1 b z).elim n1 λ z=>z.elim n2 n3];exact e)
 have slot:∀ b o,b∈frs X.stack->s.heap.get? b=al o->∃ sl,h'.get? b=al { o with slots:=sl }:=λ b o n e=>by
  obtain⟨_,o',e',d⟩:=I.stack.mem n
  simp_all
 have b1:∀ b o,X.s₀.heap.get? b=al o->b ∉ X.fs->b ∉ frs X.stack:=λ b o e n z=>by
  rcases aB.mp (I.stkSub b z)with q|q
  .subst q;exact iS (aN e) (lJ.mpr I.ok.above)
  .exact n q
 have B:∀ b o,X.s₀.heap.get? b=al o->b≠a/\b≠T:=λ b o e=>⟨λ z=>(by rw[z,t.n0]at e;cases e),λ z=>(by rw[z,a4]at e;cases e)⟩
 have c2:∀ b o,s.heap.get? b=al o->(∀ vs,o.data≠.fields vs)->b≠a/\b≠T:=λ b o e d=>⟨λ z=>(by simp_all),λ z=>(by simp_all)⟩
 have up:∀ b o,s.heap.get? b=al o->(∀ vs,o.data≠.fields vs)->∃ sl,h'.get? b=al { o with slots:=sl }:=sl;have a2:Inv X pins W H { s with heap:=h' }:=by
  refine⟨I.ok,I.os,I.bare,?_,?_,λ x c e=>?_,I.free,I.freeC,λ p Z=>?_,I.hok.part λ b u o e q=>?_,I.len⟩
  .rw[Uu];refine⟨λ b o e n nf nx=>?_,λ b o e n nf nx=>?_,un.free,λ b o e nx=>?_,un.tups,un.frzs,un.tbls⟩
   .exact keep b o (B b o e).1 (B b o e).2 (b1 b o e nf) (un.keep b o e n nf nx)
   .obtain⟨b3,e1⟩:=un.slot b o e n nf nx;obtain⟨J,e2⟩:=slot b _ (a3 b nf) e1;exact⟨J,e2⟩
   .obtain⟨o1,e1⟩:=un.there b o e nx;by_cases z:b∈frs X.stack
    .obtain⟨_,e2⟩:=slot b _ z e1;exact⟨_,e2⟩
    .exact⟨_,keep b o1 (B b o e).1 (B b o e).2 z e1⟩
  .refine wl λ _ ua=>?_;obtain⟨m,⟨o,es,ep,ho,hd,hr⟩,hl⟩:=I.loc;obtain⟨b3,e1⟩:=up _ o ho (λ vs z=>by lia);refine ua ⟨m,⟨_,es,ep,e1,hd,hr⟩,λ i x v h1 h2 h3=>?_⟩;obtain⟨u,r,lk⟩:=hl i x v h1 h2 h3;refine⟨u,r,?_⟩;rcases lk with z|⟨z1,c,z2,oc,z3,z4⟩
   .exact .inl z
   .obtain⟨J,e2⟩:=up c oc z3 (λ vs z=>by rw[z4]at z;cases z);exact .inr ⟨z1,c,z2,_,e2,z4⟩
  .obtain⟨v,oc,z3,z4⟩:=I.cell x c e;obtain⟨J,e2⟩:=up c oc z3 (λ vs z=>by rw[z4]at z;cases z);exact⟨v,_,e2,z4⟩
  .obtain⟨q1,q2,q3,q4,q5⟩:=I.pin p Z;refine⟨keep _ _ (t.np p Z) (Y p Z) (λ z=>?_) q1,q2,q3,q4,q5⟩;rcases aB.mp (I.stkSub _ z)with q|q
   .exact q3 q
   .exact q4 q
  .refine keep b o (λ z=>?_) (λ z=>?_) (λ z=>?_) q
   .rw[z,t.nH]at e;cases e
   .rw[z,a5]at e;cases e
   .rw[I.stkFree b z]at e;cases e
 refine ua ⟨a2,t.n0,t.nH,t.np,?_⟩;obtain⟨b4,c1,h,a6,b6,h1,h2,h3,h4,h5,h6,h7,h8,h9⟩:=tr;have key:X.s₀.heap.get? h=aT/\H h=aT/\∀ p∈X.pn++pins,p.1≠h:=by
  rcases without_none h5 with z|z
  .rcases a1 h z with y|y|y
   .exact iS y h6
   .subst y;exact⟨a4,a5,Y⟩
   .obtain⟨_,o',e',d⟩:=ff.mem y
    simp_all
  .refine⟨?_,?_,λ p Z y=>?_⟩
   .cases e:X.s₀.heap.get? h with
    | none=>rfl
    | some o=>obtain⟨o',e'⟩:=un.there h o e (by simp);lia
   .cases e:H h with
    | none=>rfl
    | some o=>obtain⟨u,e'⟩:=(I.hok h o e).at_;rw[z]at e';cases e'
   .have:=(I.pin p Z).1;lia
 exact⟨a0,b4,c1,h,a6,b6,h1,h2,h3,h4,key.1,key.2.1,key.2.2,h6,h7,h8,h9⟩
def Tr.noted (t:Tr X pins W H s a Cc .none)(Uu:X.ex=[])(h:X.stack=X.env::X.outer)(z:X.env.frame=al X.env.locals){E:yB}
  (k:∀ h' fl,Tr X pins W H { s with heap:=h' } a Cc fl->Q () { s with heap:=h' }):wpAny (model X.prog X.w) X.A (kW (.ref a) X.env) Q E s:=by
 have I:=t.inv;refine wl λ _ ua=>?_;obtain⟨a0,oe,vs,T,oT,ts,h1,h2,h3,h4,h5,h6,Z,h7,h8,h9,Y⟩:=t.tr;have J:s.heap.FunFrames (zD s.heap (a::T::frs X.stack)) X.stack:=ar7 I.stack λ b hb=>zz (ah _ (ah _ hb));have B:=I.ok.frames;rw[h]at B;refine ua ?_;refine wpAny_noteFrame_onW B (by rw[<-h];exact J) z ⟨oe,vs,T,oT,ts,h1,h2,h3,h4,zz (by simp),h7,h8,h9,Y⟩ qf (zz (ar ..)) λ h' L=>?_;rw[<-h]at L;obtain⟨st,ff,tr,sl⟩:=L;exact k h' _ (t.moved Uu h z h5 h6 Z h8 h9 st ff tr sl)
def Tr.down (t:Tr X pins W H s a Cc fl)(z:X.ex=[])(Y:X.stack=X.env::X.outer)(B:X.env.frame=al X.env.locals){E:yB}
  (k:∀ h',Tr X pins W H { s with heap:=h' } a Cc .none->Q () { s with heap:=h' }):wpAny (model X.prog X.w) A (l9 (.ref a) aT) Q E s:=by
 have I:=t.inv;refine wl λ _ ua=>?_;obtain⟨a0,oe,vs,T,oT,ts,h1,h2,h3,h4,h5,h6,Uu,h7,Z,h9,J⟩:=t.tr;have h:s.heap.FunFrames (zD s.heap (a::T::frs X.stack)) X.stack:=ar7 I.stack λ b hb=>zz (ah _ (ah _ hb));refine ua ?_;refine wpAny_setFlight_noneW qf h ⟨oe,vs,T,oT,ts,h1,h2,h3,h4,zz (by simp),h7,Z,h9,J⟩ λ h' st ff tr sl=>?_;exact k h' (t.moved z Y B h5 h6 Uu Z h9 st ff tr.at λ b o e d=>⟨o.slots,sl b o e d⟩)
def CX1.tr (I:Inv X pins W H s)(B:X.ex=[])(h:CX1 X.prog X.w X.stack H s E e s') :
  ∃ a Cc H',e=.ref a/\Tr X pins W H' s' a Cc .none/\E e (al Cc) H':=by
 have h0:=h;refine wl λ _ ua=>?_;obtain⟨a,Cc,H',rfl,os,bare,un,hok,F,q⟩:=h;obtain⟨a',Cc',a1,e,J,G,q'⟩:=CX1.inv I B h0;have Uu:∀ b,s.heap.get? b=aT->X.s₀.heap.get? b=none:=λ b z=>by
  cases e:X.s₀.heap.get? b with
  | none=>rfl
  | some o=>obtain⟨o',e'⟩:=I.base.there b o e (by simp_all);lia
 have pn:∀ b,s.heap.get? b=aT->∀ p∈X.pn++pins,p.1≠b:=λ b z p hp y=>by
  have:=(I.pin p hp).1;lia
 obtain⟨n0,nH,a0,oe,vs,T,oT,ts,h1,h2,h3,Z,Y,h6,h7⟩:=F;exact ua ⟨a,Cc,H',rfl,⟨I.call' os un hok bare (λ b z=>iS z (by simp)),Uu _ n0,nH,pn _ n0,a0,oe,vs,T,oT,ts,h1,h2,h3,Z,Uu _ Y,h6,pn _ Y,h7⟩,q⟩
end
noncomputable abbrev Cx.hnd (X:Cx)(a:Addr)(oe:Obj):Cx:={ X with A:=X.A.mark (al (.ref a)),calm:=ce,pn:=(a,oe)::X.pn,xe:=λ _ _=>False }
section
variable {X:Cx} {pins:yA} {W:St} {H:Hp} {s:af} {a Cc:Addr} {oe:Obj} {fl:Value}
theorem Cx.Ok.hnd (ok:X.Ok)(a:Addr)(h:Obj):(X.hnd a h).Ok:=⟨ok.mod,ok.kind,ok.glob,ok.blt,ok.above,ok.inj,ok.has,ok.cab,(λ z=>by cases z),ok.frames,ok.stk,ok.exf,ok.bs,ok.bsz,ok.noex,ok.exfs,ok.funs,ok.frf⟩
def Inv.apart (I:Inv X pins W H s){vs:yK}(e:s.heap.get? b=al o)(d:o.data=.fields vs):b≠X.env.locals/\b ∉ X.fs/\∀ v,o.data≠.cell v:=by
 refine⟨λ z=>?_,λ z=>?_,λ v z=>by lia⟩
 .obtain⟨m,⟨h,es,ep,ho,hd,_⟩,_⟩:=I.loc;lia
 .obtain⟨_,h,e',d'⟩:=I.funs.mem z
  simp_all
theorem Inv.hnd {vs:yK}(I:Inv X pins W H s)(e:s.heap.get? a=al oe)(n:H a=aT)(d:oe.data=.fields vs):Inv (X.hnd a oe) pins W H s :=
 ⟨I.ok.hnd a oe,I.os,I.bare,I.base,I.loc,I.cell,I.free,I.freeC,λ p h=>by
  rcases aB.mp h with z|z
  .subst z;exact⟨e,n,I.apart e d⟩
  .exact I.pin p z,I.hok,I.len⟩
def Inv.unhnd (ok:X.Ok)(I:Inv (X.hnd a oe) pins W H s):Inv X pins W H s:=⟨ok,I.os,I.bare,I.base,I.loc,I.cell,I.free,I.freeC,λ p h=>I.pin p (ah _ h),I.hok,I.len⟩
def Tr.own (t:Tr X pins W H s a Cc fl):∃ h vs,s.heap.get? a=al h/\h.cls=.ref Cc/\h.data=.fields vs:=by
 obtain⟨a0,h,vs,T,J,ts,z,B,h3,_⟩:=t.tr;exact⟨h,vs,z,B.1,h3⟩
def Tr.again (t:Tr X pins W H s a Cc fl){Q:V->Hp->Prop}(he:∀ h,PE (X.hnd a h) e (tC v)){E:yB}{R:yB}
  (k:∀ u s',RelV v u->Tr X pins W H s' a Cc fl->R u s'):wpAny (model X.prog X.w) (X.A.mark (al (.ref a))) (eval e X.env) R E s:=by
 refine wl λ _ ua=>?_;obtain⟨a0,h,vs,T,B,ts,h1,h2,h3,h4,h5,h6,Z,h7,h8,h9,Y⟩:=t.tr;have I:=t.inv;have J:Inv (X.hnd a h) ((T,B)::pins) W H s:=(I.hnd h1 t.nH h3).pins_of λ p hp=>by
  rcases aB.mp hp with z|z
  .subst z;exact⟨h8,h6,I.apart h8 h9⟩
  .exact I.pin p (aQ _ z)
 refine ua ?_;refine bF (he h ((T,B)::pins) s W H (λ w H1=>w=v/\H1=H) J ⟨rfl,rfl⟩) (λ u s1 ⟨w,H1,Uu,r,e1,e2⟩=>?_) (λ _ _ z=>bn z);subst e1 e2;refine k u s1 r ⟨(Uu.pins_of λ p hp=>Uu.pin p (aQ _ (ah _ hp))).unhnd I.ok,t.n0,t.nH,t.np,a0,h,vs,T,B,ts,(Uu.pin (a,h) (ar ..)).1,h2,h3,h4,h5,h6,Z,h7,(Uu.pin (T,B) (aQ _ (ar ..))).1,h9,Y⟩
end
section
variable {prog:aF} {w:World} {A:aV} {R:kS->af->Prop} {I:Addr} {fp wr:List Addr} {n:Nat} {P:Nat->Value->Prop} {St:Nat->Heap->Prop} {h₀:Heap}
end
section
variable {X:Cx} {pins:yA} {W:St} {H:Hp} {s:af} {a Cc:Addr} {oe:Obj} {fl:Value}
def aY0 {h:yM}{rest}{D}(t:Tr X pins W H s a Cc .none)(B:X.ex=[])(Uu:X.stack=X.env::X.outer)(J:X.env.frame=al X.env.locals)
  (hc:ExcCls X.K Cc) (hg:Gl X x) (hm:X.mg x=al (.ref Cc)) (hd:(x==("__debug__":Str))=ce)
  (hb:∀ Z,Z.cls=.ref Cc->PSs (X.hnd a Z) (b₀::h) th) (hq:th { nx:=λ _ _=>False,rt:=D.rt } W H) :
  wpAny (model X.prog X.w) X.A (kW (.ref a) X.env) (λ _ s₂=>wpAny (model X.prog X.w) X.A (l9 (.ref a) aT) (λ _ s₃=>wpAny (model X.prog X.w) X.A (handleBy (.ref a) X.env (.ExceptHandler (al (.Name x np)) aT (b₀::h) pos::rest)) (SP X pins D) X.xe s₃) X.xe s₂) X.xe s:=by
 refine wl λ _ ua=>?_;obtain⟨bm,N,nm,q,bs,hdct,sn,sub,ab,col,dd,k0,k1,k2,k3,k5,mN,e,a5,a0⟩:=hc.obj;refine ua ?_;refine t.noted B Uu J λ h2 fl t2=>t2.down B Uu J λ h3 t3=>?_;refine handleBy_own (bmB:=excTail) (newId := "ValueError.__new__") (mg:=X.mg) (x:=x) (C:=Cc) rfl ?_;refine t3.again (Q:=λ _ _=>True) (v:=.ref Cc) (λ Z=>aH0 (X:=X.hnd a Z) hg hm rfl hd) λ u s4 r t4=>?_;have K4:=a0 _ t4.inv.kIn;obtain⟨a8,b0,a6,a1,b2⟩:=t4.own;refine⟨r,⟨hm,bm,N,nm,q,bs,hdct,sn,sub,ab,col,dd,k0,k1,k2,k3,k5,mN,t4.inv.kIn _ _ e,K4.1,a5,K4.2⟩,⟨a8,a6,a1⟩,?_⟩;refine t4.down B Uu J λ h5 t5=>?_;obtain⟨Y,b1,a4,a2,a3⟩:=t5.own;have J7:Inv (X.hnd a Y) pins W H { s4 with heap:=h5 }:=t5.inv.hnd a4 t5.nH a3;refine bF (hb Y a2 pins _ _ H { nx:=λ _ _=>False,rt:=D.rt } J7 hq) (λ f s8 z=>?_) (λ _ _ z=>bn z);cases f with
 | next=>obtain⟨_,_,_,z⟩:=z;simp_all
 | brk=>obtain⟨_,_,_,z⟩:=z;simp_all
 | cont=>obtain⟨_,_,_,z⟩:=z;simp_all
 | ret u8 =>
  obtain⟨v8,W8,H8,J8,r8,q8⟩:=z;exact⟨v8,W8,H8,J8.unhnd t5.inv.ok,r8,q8⟩
end
theorem PG.nox (h:PG X.nox e t):PG X e t:=λ B s W H v u Q I r hw =>
 bF (h B s W H v u Q (I.wish _) r hw) (λ _ _ ⟨W',H',J,q⟩=>⟨W',H',J.unwish,q⟩) λ _ _ z=>bn z
theorem PI.nox (h:PI X.nox tg e t):PI X tg e t:=λ B s W H R I hw =>
 bF (h B s W H R (I.wish _) hw) (λ _ _ z=>bF z (λ _ _ z=>by
  obtain⟨it,Y,tn,J,H2,e,I2,T,Uu,Z,q⟩:=z;exact⟨it,Y,tn,J,H2,e,I2.unwish,T,Uu,Z,q⟩) λ _ _ z=>bn z) λ _ _ z=>bn z
section
variable {X:Cx} {pins:yA} {W:St} {H:Hp} {s:af} {a Cc D':Addr} {oe:Obj} {fl:Value}
end
section
open PySem.AutoSeq1 (wpAny_loadPart')
open PySem.MeetsSeq PySem.MeetsSeq2 PySem.MeetsSeq3 PySem.SeqAt
end
section
variable {A:aV} {s:af}
end
section
variable {prog:aF} {w:World} {A:aV} {E:yB} {s:af} {x y:Str} {t u:Tok}
end
section
variable {X:Cx} {a:Addr} {oe:Obj}
end
def KV.get :∀ {l} {m} {i:Nat} {k:κ} {v},KV l m->l[i]?=al (k,v)->∃ u,m[i]?=al (k,u)/\RelV v u:=by
 intro l m i k v r
 induction r generalizing i with
 | nil=>intro e;simp at e
 | cons h t ih =>
  intro e;cases i with
  | zero=>cases(av e);exact⟨_,congrArg al (gW h.1.symm rfl),h.2⟩
  | succ i=>exact ih (by simpa using e)
section
variable {X:Cx} {pins:yA} {W:St} {H:Hp} {s:af}
end
def Jk (a:Addr)(o:Obj)(kvs:List (Key×V)):It:=⟨λ i H=>H a=al (.frz o (.dK kvs))/\i<kvs.length,
 λ i H x H'=>H'=H/\∃ k v,kvs[i]?=al (k,v)/\x=kV k,λ i H=>H a=al (.frz o (.dK kvs))/\kvs.length<=i⟩
section
variable {X:Cx} {tg:Expr}
def cm8 (tl:TE):TI:=λ W H R=>tl W H λ x H1=>∃ a kvs,x=.ref a/\H1 a=al (.dK kvs)/\∀ o,R (Jk a o kvs) (upd H1 a (.frz o (.dK kvs)))
end
end L2
end
noncomputable section
namespace L2
open PySem PyProof.Rows
noncomputable def kk (p:Keyed):Int:=numOf p.1
section
variable {prog:aF} {w:World} {A:aV} {E:yB} {s:af}
end
end L2
end
noncomputable section
namespace L2
open PySem PyProof.Rows
abbrev Srt (κ:Keyed->Int)(l:List Keyed):Prop:=l.Pairwise λ x y=>κ x<=κ y
def Mg (κ:Keyed->Int)(A B out:List Keyed)(i j:Nat):Prop :=
 out.Perm (A.take i++B.take j)/\Srt κ out/\(∀ x∈out,∀ y∈A.drop i,κ x<=κ y)/\∀ x∈out,∀ y∈B.drop j,κ x<=κ y
section
variable {κ:Keyed->Int} {A B out:List Keyed} {i j k:Nat}
def Mg.add (h:Mg κ A B out i j)(J:Srt κ A) k (hk:∀ x∈(A.drop i).take k,∀ y∈B.drop j,κ x<=κ y):Mg κ A B (out++(A.drop i).take k) (i+k) j:=by
 obtain⟨p,s,b1,b2⟩:=h;have e:A.drop i=(A.drop i).take k++A.drop (i+k):=by rw[<-List.drop_drop,iH]
 have z:Srt κ (A.drop i):=J.sublist (kG _ _);rw[e]at z;obtain⟨s1,_,s3⟩:=i3.mp z;refine⟨?_,i3.mpr ⟨s,s1,λ x hx y hy=>b1 x hx y (fM hy)⟩,λ x hx y hy=>?_,λ x hx y hy=>?_⟩
 .rw[List.take_add,bo];refine(p.append_right _).trans ?_;rw[bo];exact List.Perm.append_left _ List.perm_append_comm
 .rcases aZ.mp hx with hx|hx
  .exact b1 x hx y (by rw[e];exact aQ _ hy)
  .exact s3 x hx y hy
 .rcases aZ.mp hx with hx|hx
  .exact b2 x hx y hy
  .exact hk x hx y hy
def Mg.fin (h:Mg κ A B out i j)(z:A.length<=i)(hj:B.length<=j):out.Perm (A++B)/\Srt κ out:=by
 obtain⟨p,s,_⟩:=h;rw[cS z,cS hj]at p;exact⟨p,s⟩
def aN1 (s:Srt κ A)(h:A[i]?=al x):∀ y∈A.drop i,κ x<=κ y:=by
 have e:A.drop i=x::A.drop (i+1):=by
  obtain⟨B,e⟩:=ag.mp h;rw[cI B,e]
 have z:Srt κ (A.drop i):=s.sublist (kG _ _)
 simp_all
def aL3 (h:A[i]?=al x):(A.drop i).take 1=[x]:=by
 obtain⟨z,e⟩:=ag.mp h;rw[cI z,e];rfl
def Mg.one (h:Mg κ A B out i j)(Y:Srt κ A)(Uu:Srt κ B)(hx:A[i]?=al x)(hy:B[j]?=al y)(J:κ x<=κ y):Mg κ A B (out++[x]) (i+1) j:=by
 have:=h.add Y 1 λ z hz u hu=>by
  rw[aL3 hx]at hz;cases aO.mp hz;exact fu J (aN1 Uu hy u hu)
 rwa [aL3 hx]at this
def Mg.more (h:Mg κ A B out i j)(Uu:Srt κ A)(J:Srt κ B)(hy:B[j]?=al y)(hk:∀ x∈(A.drop i).take k,κ x<=κ y):Mg κ A B (out++(A.drop i).take k) (i+k) j :=
 h.add Uu k λ z hz u hu=>fu (hk z hz) (aN1 J hy u hu)
end
section
variable {prog:aF} {w:World} {A:aV} {E:yB} {s:af}
def Sm (st st':k8):Prop:=arrOf st'=arrOf st/\mn st'=mn st/\eF st'=eF st/\failedOf st'=failedOf st
def Sm.refl  st :Sm st st:=⟨rfl,rfl,rfl,rfl⟩
theorem Sm.trans (h:Sm a b)(g:Sm b c):Sm a c:=⟨g.1.trans h.1,g.2.1.trans h.2.1,g.2.2.1.trans h.2.2.1,g.2.2.2.trans h.2.2.2⟩
section
variable {a b:Array Keyed} (sa:Srt kk a.toList) (sb:Srt kk b.toList) (hl:∀ x∈b.toList,∀ i,i+1=a.size->∀ y∈a.toList.drop i,kk x<=kk y)
include sa sb
end
def tl {a:Array Keyed}{i:Nat}(h:a[i]?=al p):a.toList[i]?=al p:=by rw[iI];exact h
end
end L2
end
noncomputable section
namespace L2
open PySem PyProof.Rows
section
variable {a b:Array Keyed}
variable (sa:Srt kk a.toList) (sb:Srt kk b.toList) (hf:∀ x∈a.toList,∀ y,b[0]?=al y->kk y<=kk x)
include sa sb
end
section
variable {prog:aF} {w:World} {A:aV} {E:yB} {s:af}
end
end L2
end
noncomputable section
namespace L2
open PySem PyProof.Rows
section
variable {prog:aF} {w:World} {A:aV} {E:yB} {s:af}
end
end L2
end
noncomputable section
namespace L2
open PySem PyProof.Rows
structure SB (P:Array (Nat×Nat×Nat))(a₀:Array Keyed)(lo:Nat)(st:k8):Prop where
 perm:(arrOf st).Perm a₀
 kind:eF st=oneType'
 failed:failedOf st=aT
 pend:mn st=P
 pre:∀ i,i<lo->(arrOf st)[i]?=a₀[i]?
section
variable {prog:aF} {w:World} {A:aV} {E:yB} {s:af} {P:Array (Nat×Nat×Nat)} {a₀:Array Keyed} {lo:Nat}
theorem SB.size {st}(h:SB P a₀ lo st):(arrOf st).size=a₀.size:=h.perm.size_eq
def SB.lt {st}(J:SB P a₀ lo st)(h0:IntKeys a₀)(B:i<a₀.size)(hj:j<a₀.size)
  (h:Q (al (decide (K (arrOf st) i<K (arrOf st) j))) st):wpS (model prog w) A E s (ltAt' i j) Q st:=by
 have at_:∀ i,i<a₀.size->∃ t q,(arrOf st)[i]?=al (.int (K (arrOf st) i) t,q):=λ i B=>by
  have z:i<(arrOf st).size:=by rw[J.size];exact B
  obtain⟨n,t,hn⟩:=h0 _ ((Array.perm_iff_toList_perm.mp J.perm).mem_iff.mp (aE (tl (gq z))));refine⟨t,(arrOf st)[i].2,?_⟩;have e2:(arrOf st)[i]=(.int n t,(arrOf st)[i].2):=gW hn rfl;rw[gq z,K_eq z,e2];rfl
 obtain⟨t,p,e1⟩:=at_ i B;obtain⟨u,q,e2⟩:=at_ j hj;exact wpS_ltAt J.kind e1 e2 h
end
end L2
end
noncomputable section
namespace L2
open PySem PyProof.Rows
section
variable {prog:aF} {w:World} {A:aV} {E:yB} {s:af} {P:Array (Nat×Nat×Nat)} {a₀:Array Keyed} {lo:Nat}
end
end L2
end
noncomputable section
namespace L2
open PySem PyProof.Rows
section
variable {prog:aF} {w:World} {A:aV} {E:yB} {s:af} {a₀:Array Keyed}
end
end L2
end
noncomputable section
namespace L2
open PySem PyProof.Rows
section
variable {prog:aF} {w:World} {A:aV} {E:yB} {s:af}
end
end L2
end
noncomputable section
namespace L2
open PySem PySem.Spec PyProof.Rows
section
variable {X:Cx} {o e f:Expr} {apos cpos:Pos} {td ty tx:TE}
end
end L2
end
noncomputable section
namespace DV
set_option genInjectivity true in
inductive D where
 | N|T (b:Bool)|int (i:Int)|str (x:List Nat)|tp (l:List D)|ref (n:Nat)|fn (f:String)|clo (f:String) (cs:List D)
noncomputable abbrev D.ctorIdx (x:D):Nat:=D.casesOn x 0 (λ _=>1) (λ _=>2) (λ _=>3) (λ _=>4) (λ _=>5) (λ _=>6) (λ _ _=>7)
noncomputable instance:DecidableEq D:=λ a b=>eX (a=b)
noncomputable instance (x:D):Decidable (x=.N):=match x with
 | .N=>.isTrue rfl
 | .T _=>.isFalse nofun
 | .int _=>.isFalse nofun
 | .str _=>.isFalse nofun
 | .tp _=>.isFalse nofun
 | .ref _=>.isFalse nofun
 | .fn _=>.isFalse nofun
 | .clo _ _=>.isFalse nofun
inductive O where
 | J (l:List D)|ro (l:List D)|dc (l:List (D×D))|ins (c:String) (fs:List (D×D))|dit (l:List (D×D))|dicF (l:List (D×D))
noncomputable abbrev O.ctorIdx (x:O):Nat:=O.casesOn x (λ _=>0) (λ _=>1) (λ _=>2) (λ _ _=>3) (λ _=>4) (λ _=>5)
noncomputable instance:DecidableEq O:=λ a b=>eX (a=b)
abbrev Sto:=List O
noncomputable def O.kd:O->Nat
 | .J _=>0|.ro _=>1|.dc _=>2|.ins _ _=>3|.dit _=>4|.dicF _=>2
set_option genInjectivity true in
inductive R (α:Type) where
 | ok (a:α) (s:Sto)|exc (e:D) (s:Sto)|B
noncomputable abbrev R.ctorIdx {α:Type} (x:R α):Nat:=R.casesOn x (λ _ _=>0) (λ _ _=>1) 2
noncomputable abbrev M  α :=Sto->R α
noncomputable def R.bind (r:R α)(f:α->Sto->R β):R β:=match r with
 | .ok a s=>f a s
 | .exc e s=>.exc e s
 | .B=>.B
@[simp] theorem R.bind_ok  a   s  (f:α->Sto->R β):(R.ok a s).bind f=f a s:=rfl
@[simp] theorem R.bind_bad (f:α->Sto->R β):(R.B).bind f=.B:=rfl
@[simp] theorem R.bind_exc  e   s  (f:α->Sto->R β):(R.exc e s).bind f=.exc e s:=rfl
def R.bind_inv {r:R α}{b:β}(h:r.bind f=.ok b t):∃ a s,r=.ok a s/\f a s=.ok b t:=by
 cases r with
 | ok a s=>exact⟨a,s,rfl,h⟩
 | exc e s=>cases h
 | B=>cases h
@[simp] theorem R.bind_assoc (r:R α)  f  (g:β->Sto->R γ):(r.bind f).bind g=r.bind λ a s=>(f a s).bind g:=by cases r<;>rfl
mutual
noncomputable def D.bnd (n:Nat):D->Bool
 | .tp l=>D.bndL n l
 | .ref k=>decide (k<n)
 | .clo _ l=>D.bndL n l
 | _=>bY
noncomputable def D.bndL (n:Nat):List D->Bool
 | []=>bY
 | d::l=>D.bnd n d&&D.bndL n l
end
def O.bnd (n:Nat):O->Bool
 | .J l=>D.bndL n l
 | .ro l=>D.bndL n l
 | .dc l=>D.bndL n (l.map (·.1))&&D.bndL n (l.map (·.2))
 | .ins _ l=>D.bndL n (l.map (·.1))&&D.bndL n (l.map (·.2))
 | .dicF l=>D.bndL n (l.map (·.1))&&D.bndL n (l.map (·.2))
 | .dit l=>D.bndL n (l.map (·.1))&&D.bndL n (l.map (·.2))
mutual
noncomputable def D.plain:D->Bool
 | .N=>bY|.int _=>bY|.str _=>bY
 | .tp l=>D.plainL l
 | _=>ce
noncomputable def D.plainL:List D->Bool
 | []=>bY
 | d::l=>D.plain d&&D.plainL l
end
mutual
noncomputable def D.ncl:D->Bool
 | .tp l=>D.nclL l
 | .clo _ _=>ce
 | _=>bY
noncomputable def D.nclL:List D->Bool
 | []=>bY
 | d::l=>D.ncl d&&D.nclL l
end
def O.ncl:O->Bool
 | .J l=>D.nclL l
 | .ro l=>D.nclL l
 | .dc l=>D.nclL (l.map (·.2))
 | .dit l=>D.nclL (l.map (·.2))
 | .dicF l=>D.nclL (l.map (·.2))
 | .ins _ l=>D.nclL (l.map (·.2))
noncomputable def D.key:D->Bool
 | .int _=>bY|.str _=>bY|_=>ce
noncomputable def D.hdI:List D->Bool
 | .int _::_=>bY|.N::_=>bY|.tp _::_=>bY|_=>ce
noncomputable def D.keyF:D->Bool
 | .int _=>bY|.N=>bY|.str x=>decide (x.length<=1000)|_=>ce
def D.keyS:D->Bool
 | .tp l=>D.hdI l&&(l.all D.keyF&&decide (l.length<=1000))|d=>D.keyF d
def D.keyT:D->Bool
 | .tp l=>D.hdI l&&(l.all D.keyS&&decide (l.length<=1000))|_=>ce
noncomputable def LIM:Nat:=1000000
@[irreducible] noncomputable def BIG:Nat:=2^60000
@[irreducible] noncomputable def DIVL:Nat:=2^4096
set_option genCtorIdx true in
inductive BOp where
 | add|sub|mul|fdiv|mod|pow|shl|shr|band|bor
 deriving DecidableEq
set_option genCtorIdx true in
inductive COp where
 | eq|ne|lt|le|gt|ge|isin|notin
 deriving DecidableEq
set_option genCtorIdx true in
inductive Cn where
 | N|T (b:Bool)|int (i:Int)|str (x:List Nat)
 deriving DecidableEq
noncomputable def Cn.d:Cn->D
 | .N=>.N|.T b=>.T b|.int i=>.int i|.str x=>.str x
set_option genCtorIdx true in
inductive Bi where
 | len|abs|int|str|min2|max2|max3|min3|isInt|isBool|isStr|isTup|isList|ord
 deriving DecidableEq
set_option genCtorIdx true in
inductive Mk where
 | tuple|list|all|any|sum|min|max|sorted|lenset
 deriving DecidableEq
set_option genCtorIdx true in
inductive Mt where
 | append|partition
 deriving DecidableEq
set_option genCtorIdx true in
inductive Tg where
 | Y (i:Nat)|tp (is:List Nat)
 deriving DecidableEq
mutual
inductive E where
 | X (i:Nat)|K (c:Cn)|gl (x:String)
 | G (op:BOp) (a b:E)|not (a:E)
 | Z (op:COp) (a b:E)
 | isN (a:E)|notN (a:E)
 | and (a b:E)|or (a b:E)|ite (c a b:E)
 | tp (es:Es)|J (es:Es)|dc (ks vs:Es)|dicT
 | ix (a b:E)|slU (a hi:E)
 | call (f:String) (as:As)|callC (f:String) (as:As)|callV (i:Nat) (es:Es)
 | bi (b:Bi) (es:Es)|mk (k:Mk) (l:L)|mkD (k:Mk) (l:L) (d:E)
 | me (m:Mt) (o:E) (es:Es)
 | attr (o:E) (f:List Nat)|new (c:String) (as:As)|mcall (o:E) (m:String) (as:As)
inductive Es where
 | nil|cons (e:E) (es:Es)
inductive As where
 | nil|ex (e:E) (as:As)|lam (id:String) (caps:List Nat) (as:As)|fn (f:String) (as:As)
inductive I where
 | seq (e:E)|rg (a:E)|rng3 (a b:E) (c:Int)|keys (e:E)
inductive L where
 | comp (tg:Tg) (it:I) (e:E) (caps:yE)|compIf (tg:Tg) (it:I) (c e:E) (caps:yE)|disp (es:Es)|seq (e:E)|compK (tg:Tg) (e b:E) (caps:yE)
end
noncomputable abbrev E.ctorIdx (x:E):Nat:=E.casesOn x (λ _=>0) (λ _=>1) (λ _=>2) (λ _ _ _=>3) (λ _=>4) (λ _ _ _=>5) (λ _=>6) (λ _=>7) (λ _ _=>8) (λ _ _=>9) (λ _ _ _=>10) (λ _=>11) (λ _=>12) (λ _ _=>13) 14 (λ _ _=>15) (λ _ _=>16) (λ _ _=>17) (λ _ _=>18) (λ _ _=>19) (λ _ _=>20) (λ _ _=>21) (λ _ _ _=>22) (λ _ _ _=>23) (λ _ _=>24) (λ _ _=>25) (λ _ _ _=>26)
noncomputable abbrev As.ctorIdx (x:As):Nat:=As.casesOn x 0 (λ _ _=>1) (λ _ _ _=>2) (λ _ _=>3)
noncomputable abbrev I.ctorIdx (x:I):Nat:=I.casesOn x (λ _=>0) (λ _=>1) (λ _ _ _=>2) (λ _=>3)
mutual
inductive S where
 | A (tg:Tg) (e:E)|setIx (o i e:E)|aug (i:Nat) (e:E)|ex (e:E)|ret (e:E)|retN
 | ite (c:E) (a b:Ss)|whl (c:E) (b:Ss)|fo (tg:Tg) (it:I) (b:Ss)|raise|und (i:Nat)|setA (o:E) (f:List Nat) (e:E)
inductive Ss where
 | nil|cons (s:S) (ss:Ss)
end
noncomputable abbrev S.ctorIdx (x:S):Nat:=S.casesOn x (λ _ _=>0) (λ _ _ _=>1) (λ _ _=>2) (λ _=>3) (λ _=>4) 5 (λ _ _ _=>6) (λ _ _=>7) (λ _ _ _=>8) 9 (λ _=>10) (λ _ _ _=>11)
noncomputable abbrev Ss.ctorIdx (x:Ss):Nat:=Ss.casesOn x 0 (λ _ _=>1)
abbrev Env:=List (Option D)
noncomputable def af9 (o:O):M D:=λ s=>.ok (.ref s.length) (s++[o])
noncomputable def pur (d:D):M D:=λ s=>.ok d s
noncomputable def bad :M α:=λ _=>.B
def mulOk (a b:Int):Bool:=decide (a.natAbs<2^64)||decide (b.natAbs<2^64)||(decide (a.natAbs<BIG)&&decide (b.natAbs<BIG))
noncomputable def rep:Nat->List Nat->List Nat
 | 0,_=>[]
 | n+1,a=>a++rep n a
def al8:BOp->D->D->M D
 | .add,.int a,.int b=>pur (.int (a+b))
 | .add,.str a,.str b=>if a.length+b.length<=LIM then pur (.str (a++b))else bad
 | .add,.ref a,.ref b=>λ s=>match s[a]?,s[b]? with
  | some (.J l),al (.J m)=>if l.length+m.length<=LIM then af9 (.J (l++m)) s else .B
  | _,_=>.B
 | .sub,.int a,.int b=>pur (.int (a - b))
 | .mul,.int a,.int b=>if mulOk a b then pur (.int (a*b))else bad
 | .fdiv,.int a,.int b=>if 0<b/\b<(DIVL)then pur (.int (a / b))else bad
 | .mod,.int a,.int b=>if 0<b then pur (.int (a % b))else bad
 | .pow,.int a,.int b=>if 0<=b/\b<=1000000/\a.natAbs<2^64 then pur (.int (a^b.toNat))else bad
 | .bor,.int a,.int b=>if 0<=a/\0<=b then pur (.int ((a.toNat ||| b.toNat)))else bad
 | _,_,_=>bad
noncomputable def kd (s:Sto):D->Nat
 | .N=>0|.T _=>1|.int _=>1|.str _=>2|.tp _=>3
 | .ref r=>match s[r]? with|some (.J _)=>4|_=>9
 | _=>9
noncomputable def aF9 (a b:Nat):Bool:=a==9||b==9||a==b
noncomputable def b2i (b:Bool):Int:=if b then 1 else 0
def be3:D->D->Option Bool
 | .N,.N=>al bY
 | .T a,.T b=>al (a==b)
 | .int a,.int b=>al (a==b)
 | .T a,.int b=>al (b2i a==b)
 | .int a,.T b=>al (a==b2i b)
 | .str a,.str b=>al (a==b)
 | _,_=>aT
def af2 (s:Sto)(a b:D):Option Bool:=match be3 a b with
 | some z=>al z
 | none=>if aF9 (kd s a) (kd s b)then aT else al ce
noncomputable def eqL (f:D->D->Option Bool):List D->List D->Option Bool
 | [],[]=>al bY
 | [],_::_=>al ce
 | _::_,[]=>al ce
 | a::l,b::m=>match f a b,eqL f l m with
  | some x,al y=>al (x&&y)
  | _,_=>aT
def eqv (s:Sto):Nat->D->D->Option Bool
 | 0,a,b=>af2 s a b
 | n+1,a,b=>match a,b with
  | .tp l,.tp m=>eqL (eqv s n) l m
  | .ref x,.ref y=>match s[x]?,s[y]? with
   | some (.J l),al (.J m)=>if l.length=m.length then eqL (eqv s n) l m else al ce
   | _,_=>aT
  | a,b=>af2 s a b
noncomputable def DEEP:Nat:=30
def eqM (a b:D):M D:=λ s=>match eqv s DEEP a b with
 | some r=>.ok (.T r) s
 | none=>.B
def inL (s:Sto)(x:D):List D->Option Bool
 | []=>al ce
 | y::l=>match eqv s DEEP y x,inL s x l with
  | some a,al b=>al (a||b)
  | _,_=>aT
noncomputable def look (k:D):List (D×D)->Option D
 | []=>aT
 | (a,v)::l=>if a=k then al v else look k l
def inM (a b:D):M Bool:=λ s=>match b with
 | .ref r=>match s[r]? with
  | some (.J l)=>match inL s a l with|some r=>.ok r s|none=>.B
  | some (.dc l)=>if a.key then .ok (look a l).isSome s else .B
  | some (.dit l)=>if a.keyT then .ok (look a l).isSome s else .B
  | _=>.B
 | _=>.B
noncomputable def bo5:D->Option (Int×List Nat)
 | .tp [.int i,.str x]=>al (i,x)
 | _=>aT
def cq7 (f:Int->List Nat->Int->List Nat->Bool)(a b:D):M D:=λ s=>match bo5 a,bo5 b with
 | some (i,x),al (j,y)=>.ok (.T (f i x j y)) s
 | _,_=>.B
def js:COp->D->D->M D
 | .eq,a,b=>eqM a b
 | .ne,a,b=>λ s=>match eqv s DEEP a b with|some r=>.ok (.T (!r)) s|none=>.B
 | .lt,.int a,.int b=>pur (.T (decide (a<b)))
 | .le,.int a,.int b=>pur (.T (decide (a<=b)))
 | .gt,.int a,.int b=>pur (.T (decide (b<a)))
 | .ge,.int a,.int b=>pur (.T (decide (b<=a)))
 | .isin,a,b=>λ s=>(inM a b s).bind λ r s=>.ok (.T r) s
 | .notin,a,b=>λ s=>(inM a b s).bind λ r s=>.ok (.T (!r)) s
 | _,_,_=>bad
noncomputable def ixn (n:Nat)(i:Int):Option Nat:=if 0<=i then(if i<n then al i.toNat else aT)else if -(n)<=i then al (i+n).toNat else aT
noncomputable def sbd (n:Nat)(i:Int):Nat:=if 0<=i then min i.toNat n else(i+n).toNat
def loB (n:Nat):Option Int->Nat
 | none=>0
 | some i=>sbd n i
def hiB (n:Nat):Option Int->Nat
 | none=>n
 | some i=>sbd n i
def az8 {α:Type}(l:List α)(lo hi:Option Int):List α:=(l.drop (loB l.length lo)).take (hiB l.length hi - loB l.length lo)
def ixM (a b:D):M D:=λ s=>match a,b with
 | .tp l,.int i=>match(ixn l.length i).bind λ j=>l[j]? with|some d=>.ok d s|none=>.B
 | .str l,.int i=>match(ixn l.length i).bind λ j=>l[j]? with|some c=>.ok (.str [c]) s|none=>.B
 | .ref r,b=>match s[r]? with
  | some (.J l)=>match b with
   | .int i=>match(ixn l.length i).bind λ j=>l[j]? with|some d=>.ok d s|none=>.B
   | _=>.B
  | some (.ro l)=>match b with
   | .int i=>match(ixn l.length i).bind λ j=>l[j]? with|some d=>.ok d s|none=>.B
   | _=>.B
  | some (.dc l)=>if b.key then match look b l with|some d=>.ok d s|none=>.B else .B
  | some (.dit l)=>if b.keyT then match look b l with|some d=>.ok d s|none=>.B else .B
  | _=>.B
 | _,_=>.B
def slM (a:D)(lo hi:Option Int):M D:=λ s=>match a with
 | .tp l=>.ok (.tp (az8 l lo hi)) s
 | .str l=>.ok (.str (az8 l lo hi)) s
 | .ref r=>match s[r]? with
  | some (.J l)=>af9 (.J (az8 l lo hi)) s
  | _=>.B
 | _=>.B
noncomputable def az5:List D->Option (List Bool)
 | []=>al []
 | .T b::l=>(az5 l).map (b::·)
 | _=>aT
noncomputable def qe:List D->Option (List Int)
 | []=>al []
 | .int i::l=>(qe l).map (i::·)
 | _=>aT
noncomputable def at5:List D->Option (List (List Nat))
 | []=>al []
 | .str i::l=>(at5 l).map (i::·)
 | _=>aT
noncomputable def bN3 (d:D):M D:=λ s=>match d with
 | .tp l=>.ok (.int l.length) s
 | .str l=>.ok (.int l.length) s
 | .ref r=>match s[r]? with
  | some (.J l)=>.ok (.int l.length) s
  | some (.ro l)=>.ok (.int l.length) s
  | _=>.B
 | _=>.B
noncomputable def isK (k:Nat)(d:D):M D:=λ s=>match d with
 | .N=>.ok (.T ce) s
 | .T _=>.ok (.T (k==1||k==2)) s
 | .int _=>.ok (.T (k==1)) s
 | .str _=>.ok (.T (k==3)) s
 | .tp _=>.ok (.T (k==4)) s
 | .ref r=>match s[r]? with
  | some (.J _)=>.ok (.T (k==5)) s
  | _=>.B
 | _=>.B
def bi1 (f:D->M D):List D->M D
 | [d]=>f d
 | _=>bad
def bO3:List D->M D
 | [.str [c]]=>λ s=>if 48<=c/\c<=57 then .ok (.int ((c - 48:Nat))) s else .B
 | _=>bad
def bH1:List D->M D
 | [.int i]=>λ s=>if 0<=i/\i<=9 then .ok (.str [48+i.toNat]) s else .B
 | [.str w]=>λ s=>.ok (.str w) s
 | _=>bad
def bi:Bi->List D->M D
 | .len,l=>bi1 bN3 l
 | .abs,l=>λ s=>match qe l with|some [i]=>.ok (.int (if i<0 then -i else i)) s|_=>.B
 | .int,l=>λ s=>match az5 l with|some [b]=>.ok (.int (if b then 1 else 0)) s|some _=>.B|none=>bO3 l s
 | .str,l=>bH1 l
 | .min2,l=>λ s=>match qe l with|some [a,b]=>.ok (.int (if b<a then b else a)) s|_=>.B
 | .max2,l=>λ s=>match qe l with|some [a,b]=>.ok (.int (if b > a then b else a)) s|_=>.B
 | .max3,l=>λ s=>match qe l with|some [a,b,c]=>.ok (.int (max (max a b) c)) s|_=>.B
 | .isInt,l=>bi1 (isK 1) l
 | .isBool,l=>bi1 (isK 2) l
 | .isStr,l=>bi1 (isK 3) l
 | .isTup,l=>bi1 (isK 4) l
 | .isList,l=>bi1 (isK 5) l
 | _,_=>bad
noncomputable def minI:List Int->Option Int
 | []=>aT
 | a::l=>al (l.foldl min a)
noncomputable def cs0:List Int->Option Int
 | []=>aT
 | a::l=>al (l.foldl max a)
noncomputable def ins (a:Int):List Int->List Int
 | []=>[a]
 | b::l=>if a<=b then a::b::l else b::ins a l
def bU8:List Int->List Int
 | []=>[]
 | a::l=>ins a (bU8 l)
noncomputable def cu7 (is:List Int):Bool:=is.all (λ i=>decide (-1000000000<=i/\i<=1000000000))&&decide (is.length<=1000000)
def mk:Mk->List D->M D
 | .tuple,l=>λ s=>.ok (.tp l) s
 | .list,l=>af9 (.J l)
 | .all,l=>λ s=>match az5 l with|some bs=>.ok (.T (bs.all id)) s|none=>.B
 | .any,l=>λ s=>match az5 l with|some bs=>.ok (.T (bs.any id)) s|none=>.B
 | .sum,l=>λ s=>match qe l with|some is=>if cu7 is then .ok (.int is.sum) s else .B|none=>.B
 | .min,l=>λ s=>match(qe l).bind minI with|some m=>.ok (.int m) s|none=>.B
 | .max,l=>λ s=>match(qe l).bind cs0 with|some m=>.ok (.int m) s|none=>.B
 | .sorted,l=>λ s=>match qe l with|some is=>af9 (.J ((bU8 is).map D.int)) s|none=>.B
 | .lenset,l=>bad
def mkD (k:Mk)(l:List D)(d:D):M D:=λ s=>match k with
 | .min=>match qe l with|some is=>(match minI is with|some m=>.ok (.int m) s|none=>.ok d s)|none=>.B
 | .max=>match qe l with|some is=>(match cs0 is with|some m=>.ok (.int m) s|none=>.ok d s)|none=>.B
 | _=>.B
def al9 (k v:D)(l:List (D×D)):List (D×D):=if(look k l).isSome then l.map (λ p=>if p.1=k then(p.1,v)else p)else l++[(k,v)]
def setIx (o i v:D):Sto->R Unit:=λ s=>match o with
 | .ref r=>match s[r]? with
  | some (.J l)=>match i with
   | .int i=>match ixn l.length i with|some j=>.ok () (s.set r (.J (l.set j v)))|none=>.B
   | _=>.B
  | some (.dc l)=>if i.key&&decide (l.length<LIM)then .ok () (s.set r (.dc (al9 i v l)))else .B
  | some (.dit l)=>if i.keyT&&decide (l.length<LIM)then .ok () (s.set r (.dit (al9 i v l)))else .B
  | _=>.B
 | _=>.B
def meth:Mt->D->List D->M D
 | .append,.ref r,[d]=>λ s=>match s[r]? with
  | some (.J l)=>if l.length<LIM then .ok .N (s.set r (.J (l++[d])))else .B
  | _=>.B
 | _,_,_=>bad
structure Fns where
 call:String->List D->M D
 lam:String->List D->List D->M D
 con:String->Option D
 xcall:String->List D->Sto->Option (String×Sto)
 xc:String->Bool
 xt:String->Bool
 cdc:String->Option (List (List Nat×List Nat))
 kd:String->Bool
 mcall:String->String->List D->M D
 new:String->List D->M D
 att:String->List Nat->Bool
 xm:String->String->List D->Sto->Option (String×Sto)
noncomputable def aH4 (U:Env)(i:Nat):M D:=λ s=>match U[i]? with|some (al d)=>.ok d s|_=>.B
noncomputable def ag8 (U:Env):List Nat->Option (List D)
 | []=>al []
 | i::is=>match U[i]?,ag8 U is with|some (al d),al l=>al (d::l)|_,_=>aT
noncomputable def zN (U:Env)(caps:yE):Env:=caps.map λ o=>match o with|none=>aT|some j=>(U[j]?).join
noncomputable def as6 (U:Env)(i:Nat)(d:D):Option Env:=if i < U.length then al (U.set i (al d))else aT
noncomputable def aj2 (U:Env)(i:Nat):Option Env:=if i < U.length then al (U.set i aT)else aT
def ap9 (U:Env):List Nat->List D->Option Env
 | [],[]=>al U
 | i::is,d::l=>(as6 U i d).bind λ U=>ap9 U is l
 | _,_=>aT
def jd (U:Env):Tg->D->Option Env
 | .Y i,d=>as6 U i d
 | .tp is,.tp l=>ap9 U is l
 | _,_=>aT
structure Sq where
 its:List D
 src:List Nat
noncomputable def aA0 (d:D):M Sq:=λ s=>match d with
 | .tp l=>.ok ⟨l,[]⟩ s
 | .str l=>.ok ⟨l.map λ c=>.str [c],[]⟩ s
 | .ref r=>match s[r]? with
  | some (.J l)=>.ok ⟨l,[r]⟩ s
  | some (.ro l)=>.ok ⟨l,[]⟩ s
  | _=>.B
 | _=>.B
noncomputable def aW7 (d:D):M Sq:=λ s=>match d with
 | .ref r=>match s[r]? with
  | some (.dc l)=>if l.all (λ p=>p.1.keyF)then .ok ⟨l.map (·.1),[r]⟩ (s.set r (.dicF l))else .B
  | _=>.B
 | _=>.B
noncomputable def cj5 (s:Sto)(src:List Nat):Bool:=src.all λ r=>match s[r]? with|some (.dicF _)=>ce|_=>bY
noncomputable def co2 (src:List Nat)(a:α):Sto->R α:=λ s=>match src with
 | [r]=>match s[r]? with
  | some (.dicF l)=>.ok a (s.set r (.dc l))
  | _=>.B
 | _=>.B
def cq3 (l m:List (D×D)):List (D×D):=m.foldl (λ a p=>al9 p.1 p.2 a) l
def aq1 (f:List Nat)(x:D):M D:=λ s=>match x with
 | .ref r=>match s[r]? with
  | some (.ins _ fs)=>match look (.str f) fs with|some d=>.ok d s|none=>.B
  | _=>.B
 | _=>.B
noncomputable def at0 (k v:D):List (D×D)->List (D×D)
 | []=>[(k,v)]
 | (a,x)::r=>if a=k then(a,v)::r else(a,x)::at0 k v r
def aG7 (ok:String->Bool)(f:List Nat)(x v:D):Sto->R Unit:=λ s=>match x with
 | .ref r=>match s[r]? with
  | some (.ins c fs)=>if ok c&&decide (fs.length<1000)then .ok () (s.set r (.ins c (at0 (.str f) v fs)))else .B
  | _=>.B
 | _=>.B
noncomputable def bk9 (x:D):Sto->R String:=λ s=>match x with
 | .ref r=>match s[r]? with
  | some (.ins c _)=>.ok c s
  | _=>.B
 | _=>.B
noncomputable def aY3 (d:D):Sto->R (List D):=λ s=>match d with
 | .tp l=>.ok l s
 | .str l=>.ok (l.map λ c=>.str [c]) s
 | .ref r=>match s[r]? with
  | some (.J l)=>.ok l s
  | some (.ro l)=>.ok l s
  | _=>.B
 | _=>.B
noncomputable def Ww62:Int:=4611686018427387904
noncomputable def ag2 (a b:Int):List D:=(am (b - a).toNat).map λ(k:Nat)=>.int (a+k)
noncomputable def bl3 (a b c:Int):List D:=if 0<c then(am ((b - a+c - 1) / c).toNat).map λ(k:Nat)=>.int (a+c*k)else(am ((a - b+(-c) - 1) / (-c)).toNat).map λ(k:Nat)=>.int (a+c*k)
noncomputable def chk (s0 s:Sto)(src:List Nat):Bool:=src.all λ r=>decide (s[r]?=s0[r]?)
noncomputable def tru (r:R D)(f:Bool->Sto->R α):R α:=r.bind λ d s=>match d with|.T b=>f b s|_=>.B
@[simp] theorem qC  b   s  (f:Bool->Sto->R α):tru (.ok (.T b) s) f=f b s:=rfl
noncomputable def qy (ok:Sto->Bool)(g:D->Env->Sto->R (Option D×Env)):List D->Env->Sto->R (List D)
 | [],_,s=>if ok s then .ok [] s else .B
 | d::l,U,s=>if ok s then(g d U s).bind λ p s=>(qy ok g l p.2 s).bind λ r s=>.ok (match p.1 with|some v=>v::r|none=>r) s else .B
def kAt (x:D)(s:Sto):Option Nat:=match x with
 | .ref r=>s[r]?.map O.kd
 | _=>aT
def mkq (x:D)(s t:Sto)(r:R D):R D:=if kAt x s=kAt x t then r else .B
mutual
noncomputable def ev (F:Fns):E->Env->Sto->R D
 | .X i,U,s=>aH4 U i s
 | .K c,_,s=>.ok c.d s
 | .gl x,_,s=>match F.con x with|some d=>.ok d s|none=>.B
 | .G op a b,U,s=>(ev F a U s).bind λ x s=>(ev F b U s).bind λ y s=>al8 op x y s
 | .not a,U,s=>tru (ev F a U s) λ b s=>.ok (.T (!b)) s
 | .Z op a b,U,s=>(ev F a U s).bind λ x s=>(ev F b U s).bind λ y s=>js op x y s
 | .isN a,U,s=>(ev F a U s).bind λ x s=>.ok (.T (decide (x=.N))) s
 | .notN a,U,s=>(ev F a U s).bind λ x s=>.ok (.T (!decide (x=.N))) s
 | .and a b,U,s=>tru (ev F a U s) λ c s=>if c then tru (ev F b U s) λ c s=>.ok (.T c) s else .ok (.T ce) s
 | .or a b,U,s=>tru (ev F a U s) λ c s=>if c then .ok (.T bY) s else tru (ev F b U s) λ c s=>.ok (.T c) s
 | .ite c a b,U,s=>tru (ev F c U s) λ k s=>if k then ev F a U s else ev F b U s
 | .tp es,U,s=>(evs F es U s).bind λ l s=>.ok (.tp l) s
 | .J es,U,s=>(evs F es U s).bind λ l s=>af9 (.J l) s
 | .dc .nil .nil,U,s=>af9 (.dc []) s
 | .dc (.cons k .nil) (.cons v .nil),U,s=>(ev F k U (s++[.dc []])).bind λ kd s1=>(ev F v U s1).bind λ vd s2=>if kd.key=bY/\s2[s.length]?=al (.dc [])then .ok (.ref s.length) (s2.set s.length (.dc [(kd,vd)]))else .B
 | .dc _ _,U,s=>.B
 | .dicT,_,s=>af9 (.dit []) s
 | .ix a b,U,s=>(ev F a U s).bind λ x s=>(ev F b U s).bind λ y s=>ixM x y s
 | .slU a hi,U,s=>(ev F a U s).bind λ x s=>(ev F hi U s).bind λ y s=>match y with|.int i=>slM x aT (al i) s|_=>.B
 | .call f as,U,s=>(af3 F as U s).bind λ l s=>F.call f l s
 | .callC f as,U,s=>(af3 F as U s).bind λ l s=>(F.call f l s).bind λ d s'=>if(d.ncl&&s'.all O.ncl)=bY then .ok d s' else .B
 | .callV i es,U,s=>(evs F es U s).bind λ l s=>match U[i]? with
  | some (al (.fn f))=>F.call f l s
  | some (al (.clo id cs))=>F.lam id cs l s
  | _=>.B
 | .bi b es,U,s=>(evs F es U s).bind λ l s=>bi b l s
 | .mk k it,U,s=>(evL F it U s).bind λ q s=>mk k q s
 | .mkD k it d,U,s=>(evL F it U s).bind λ q s=>(ev F d U s).bind λ d s=>mkD k q d s
 | .me m o es,U,s=>(ev F o U s).bind λ x s=>(evs F es U s).bind λ l t=>mkq x s t (meth m x l t)
 | .attr o f,U,s=>(ev F o U s).bind λ x s=>aq1 f x s
 | .new c as,U,s=>(af3 F as U s).bind λ l s=>(F.new c (.ref s.length::l) (s++[.ins c []])).bind λ d s'=>if d=.N then .ok (.ref s.length) s' else .B
 | .mcall o m as,U,s=>(ev F o U s).bind λ x s=>(bk9 x s).bind λ c s=>(af3 F as U s).bind λ l s=>F.mcall c m (x::l) s
noncomputable def evs (F:Fns):Es->Env->Sto->R (List D)
 | .nil,_,s=>.ok [] s
 | .cons e es,U,s=>(ev F e U s).bind λ d s=>(evs F es U s).bind λ l s=>.ok (d::l) s
noncomputable def af3 (F:Fns):As->Env->Sto->R (List D)
 | .nil,_,s=>.ok [] s
 | .ex e as,U,s=>(ev F e U s).bind λ d s=>(af3 F as U s).bind λ l s=>.ok (d::l) s
 | .lam id caps as,U,s=>match ag8 U caps with
  | some cs=>(af3 F as U s).bind λ l s=>.ok (.clo id cs::l) s
  | none=>.B
 | .fn f as,U,s=>(af3 F as U s).bind λ l s=>.ok (.fn f::l) s
noncomputable def evI (F:Fns):I->Env->Sto->R Sq
 | .seq e,U,s=>(ev F e U s).bind λ d s=>aA0 d s
 | .rg a,U,s=>(ev F a U s).bind λ x s=>match x with|.int i=>if -Ww62<=i/\i<Ww62 then .ok ⟨ag2 0 i,[]⟩ s else .B|_=>.B
 | .rng3 a b c,U,s=>(ev F a U s).bind λ x s=>(ev F b U s).bind λ y s=>match x,y with|.int i,.int j=>if c=2/\(0<=i/\i<1048576)/\0<=j/\j<1048576 then .ok ⟨bl3 i j c,[]⟩ s else .B|_,_=>.B
 | .keys e,U,s=>(ev F e U s).bind λ d s=>aW7 d s
noncomputable def evL (F:Fns):L->Env->Sto->R (List D)
 | .comp tg it e caps,U,s=>(evI F it U s).bind λ q s0=>if q.its.length<=LIM then qy (λ s=>chk s0 s q.src) (λ d U s=>match jd U tg d with
   | some U=>(ev F e U s).bind λ v s=>.ok (al v,U) s
   | none=>.B) q.its (zN U caps) s0 else .B
 | .compIf tg it c e caps,U,s=>(evI F it U s).bind λ q s0=>if q.its.length<=LIM then qy (λ s=>chk s0 s q.src) (λ d U s=>match jd U tg d with
   | some U=>tru (ev F c U s) λ k s=>if k then(ev F e U s).bind λ v s=>.ok (al v,U) s else .ok (aT,U) s
   | none=>.B) q.its (zN U caps) s0 else .B
 | .disp es,U,s=>evs F es U s
 | .seq e,U,s=>(ev F e U s).bind λ d s=>aY3 d s
 | .compK tg e b caps,U,s=>((ev F e U s).bind λ d s=>aW7 d s).bind λ q s0=>if cj5 s q.src=bY/\q.its.length<=LIM then(qy (λ s=>chk s0 s q.src) (λ d U s=>match jd U tg d with
   | some U=>(ev F b U s).bind λ v s=>.ok (al v,U) s
   | none=>.B) q.its (zN U caps) s0).bind λ l s=>co2 q.src l s else .B
end
inductive Ct where
 | next (U:Env)|ret (d:D)|cont (U:Env)|brk (U:Env)
noncomputable abbrev Ct.ctorIdx (x:Ct):Nat:=Ct.casesOn x (λ _=>0) (λ _=>1) (λ _=>2) (λ _=>3)
noncomputable def am0 (ok:Sto->Bool)(g:D->Env->Sto->R Ct):List D->Env->Sto->R Ct
 | [],U,s=>if ok s then .ok (.next U) s else .B
 | d::l,U,s=>if ok s then(g d U s).bind λ c s=>match c with
   | .next U=>am0 ok g l U s
   | .cont U=>am0 ok g l U s
   | .brk U=>.ok (.next U) s
   | .ret d=>.ok (.ret d) s
  else .B
def al5 (c:Env->Sto->R D)(g:Env->Sto->R Ct):Nat->Env->Sto->R Ct
 | 0,_,_=>.B
 | n+1,U,s=>tru (c U s) λ b s=>if b then(g U s).bind λ c' s=>match c' with
   | .next U=>al5 c g n U s
   | .cont U=>al5 c g n U s
   | .brk U=>.ok (.next U) s
   | .ret d=>.ok (.ret d) s
  else .ok (.next U) s
open Classical in
def whl (c:Env->Sto->R D)(g:Env->Sto->R Ct)(U:Env)(s:Sto):R Ct :=
 if h:∃ n,al5 c g n U s≠.B then al5 c g h.choose U s else .B
mutual
noncomputable def ex (F:Fns):S->Env->Sto->R Ct
 | .A tg e,U,s=>(ev F e U s).bind λ d s=>match jd U tg d with|some U=>.ok (.next U) s|none=>.B
 | .setIx o i e,U,s=>(ev F e U s).bind λ d s=>(ev F o U s).bind λ x s=>(ev F i U s).bind λ y s=>(setIx x y d s).bind λ _ s=>.ok (.next U) s
 | .aug i e,U,s=>(aH4 U i s).bind λ x s=>(ev F e U s).bind λ y s=>match x,y with
  | .int a,.int b=>match as6 U i (.int (a+b))with|some U=>.ok (.next U) s|none=>.B
  | _,_=>.B
 | .ex e,U,s=>(ev F e U s).bind λ _ s=>.ok (.next U) s
 | .ret e,U,s=>(ev F e U s).bind λ d s=>.ok (.ret d) s
 | .retN,_,s=>.ok (.ret .N) s
 | .ite c a b,U,s=>tru (ev F c U s) λ k s=>if k then exs F a U s else exs F b U s
 | .whl c b,U,s=>whl (ev F c) (exs F b) U s
 | .fo tg it b,U,s=>(evI F it U s).bind λ q s0=>am0 (λ s=>chk s0 s q.src) (λ d U s=>match jd U tg d with
   | some U=>exs F b U s
   | none=>.B) q.its U s0
 | .raise,_,_=>.B
 | .und i,U,s=>match aj2 U i with|some U=>.ok (.next U) s|none=>.B
 | .setA o f e,U,s=>(ev F e U s).bind λ d s=>(ev F o U s).bind λ x s=>(aG7 (λ c=>F.att c f) f x d s).bind λ _ s=>.ok (.next U) s
noncomputable def exs (F:Fns):Ss->Env->Sto->R Ct
 | .nil,U,s=>.ok (.next U) s
 | .cons st ss,U,s=>(ex F st U s).bind λ c s=>match c with|.next U=>exs F ss U s|c=>.ok c s
end
structure Df where
 name:String
 ps:Nat
 vs:Nat
 body:Ss
structure Lm where
 id:String
 ps:Nat
 cs:Nat
 body:E
inductive HT where
 | ve
 | isi (cs:List String)|Y (c:String)|not (t:HT)|or (a b:HT)
noncomputable abbrev HT.ctorIdx (x:HT):Nat:=HT.casesOn x 0 (λ _=>1) (λ _=>2) (λ _=>3) (λ _ _=>4)
inductive KO where
 | pl|ls|eq (t:List Nat)
noncomputable abbrev KO.ctorIdx (x:KO):Nat:=KO.casesOn x 0 1 (λ _=>2)
inductive Hd where
 | ret (t:HT)|iff (t:HT) (b:Bool) (h:Hd)|nob (b:Bool)|noe|rnn|iffN (t:HT) (h:Hd)|aoN (a b:HT)|sup (x:String) (h:Hd)
 | kin (f:String) (l:KO)
noncomputable abbrev Hd.ctorIdx (x:Hd):Nat:=Hd.casesOn x (λ _=>0) (λ _ _ _=>1) (λ _=>2) 3 4 (λ _ _=>5) (λ _ _=>6) (λ _ _=>7) (λ _ _=>8)
noncomputable def subC (c d:String):Bool:=c==d||(d == "TollError"||d == "ValueError")
noncomputable def aL2:List String:=["NotSteady", "TooMuch", "TooLong", "NoMaking", "NoPaper", "NoPair", "NoText", "NoRow", "NoName"]
noncomputable def bz7:List (List Nat):=[[115,116,101,97,100,121],[109,117,99,104],[108,111,110,103],[109,97,107,105,110,103],[112,97,112,101,114],[112,97,105,114],[116,101,120,116],[114,111,119],[110,97,109,101]]
noncomputable def ax8:List Nat:=[97,110,111,116,104,101,114]
def ct8 (bs:List Bool):List Nat:=if bs.countP id=1 then bz7.getD (bs.findIdx id) []else ax8
def bO6 (c:String):List Nat:=ct8 (aL2.map (subC c))
def HT.val (c:String):HT->Bool
 | .isi cs=>cs.any (subC c)
 | .Y d=>subC c d
 | .not t=>!t.val c
 | .or a b=>if a.val c then bY else b.val c
 | .ve=>bY
noncomputable def HT.ok (p:String->Bool):HT->Bool
 | .isi cs=>cs.all p
 | .Y d=>p d
 | .not t=>t.ok p
 | .or a b=>a.ok p&&b.ok p
 | .ve=>bY
noncomputable def Hd.val (c:String):Hd->Bool
 | .ret t=>t.val c
 | .iff t b h=>if t.val c then b else h.val c
 | .nob b=>b
 | .noe=>ce
 | .rnn=>ce
 | .iffN _ h=>h.val c
 | .aoN a b=>a.val c&&b.val c
 | .sup _ h=>h.val c
 | .kin _ _=>ce
noncomputable def Hd.ok (p:String->Bool):Hd->Bool
 | .ret t=>t.ok p
 | .iff t _ h=>t.ok p&&h.ok p
 | .nob _=>bY
 | .noe=>bY
 | .rnn=>bY
 | .iffN t h=>t.ok p&&h.ok p
 | .aoN a b=>a.ok p&&b.ok p
 | .sup x h=>p x&&h.ok p
 | .kin _ _=>aL2.all p
noncomputable def Hd.vD (c:String):Hd->D
 | .ret t=>.T (t.val c)
 | .iff t b h=>if t.val c then .T b else h.vD c
 | .nob b=>.T b
 | .noe=>.N
 | .rnn=>.N
 | .iffN t h=>if t.val c then .N else h.vD c
 | .aoN a b=>if a.val c then(if b.val c then .T bY else .N)else .N
 | .sup _ h=>h.vD c
 | .kin _ _=>.N
noncomputable def Hd.kn:Hd->Option (String×KO)
 | .kin f l=>al (f,l)
 | .sup _ h=>h.kn
 | _=>aT
noncomputable def Hd.kok (k:String->Bool)(h:Hd):Bool:=match h.kn with|some (f,_)=>k f|none=>bY
noncomputable def Hd.cls (c:String):Hd->String
 | .sup x _=>x|_=>c
noncomputable def Hd.nn:Hd->Bool
 | .nob _=>bY|.noe=>bY|.rnn=>bY|_=>ce
noncomputable def ag7 (ok:Sto->Bool)(g:D->Env->Sto->R Ct)(gx:D->Env->Sto->Option (String×Sto)):List D->Env->Sto->Option (String×Sto)
 | [],_,_=>aT
 | d::l,U,s=>if ok s then match g d U s with
   | .ok (.next U1) s1=>ag7 ok g gx l U1 s1
   | .ok (.cont U1) s1=>ag7 ok g gx l U1 s1
   | .ok _ _=>aT
   | _=>gx d U s
  else aT
noncomputable def qb (c:Env->Sto->R D)(g:Env->Sto->R Ct)(gx:Env->Sto->Option (String×Sto)):Nat->Env->Sto->Option (String×Sto)
 | 0,_,_=>aT
 | n+1,U,s=>match c U s with
  | .ok (.T bY) s1=>match g U s1 with
   | .ok (.next U1) s2=>qb c g gx n U1 s2
   | .ok (.cont U1) s2=>qb c g gx n U1 s2
   | .ok _ _=>aT
   | _=>gx U s1
  | _=>aT
open Classical in
def whlX (c:Env->Sto->R D)(g:Env->Sto->R Ct)(gx:Env->Sto->Option (String×Sto))(U:Env)(s:Sto):Option (String×Sto):=if h:∃ n,(qb c g gx n U s).isSome=bY then qb c g gx h.choose U s else aT
inductive XB where
 | no|rais (c:String)|call (f:String) (as:As)|iteT (c:E) (a r:XB)|seq (s:S) (b:XB)
 | kind|alt (a b:XB)
 | mcall (o:E) (m:String) (as:As)|lenc (f:String) (as:As)|iteE (c:E) (a r:XB)|forX (tg:Tg) (it:I) (b:Ss) (x:XB)|whlX (c:E) (b:Ss) (x:XB)
noncomputable abbrev XB.ctorIdx (x:XB):Nat:=XB.casesOn x 0 (λ _=>1) (λ _ _=>2) (λ _ _ _=>3) (λ _ _=>4) 5 (λ _ _=>6) (λ _ _ _=>7) (λ _ _=>8) (λ _ _ _=>9) (λ _ _ _ _=>10) (λ _ _ _=>11)
def xB (F:Fns):XB->Env->Sto->Option (String×Sto)
 | .no,_,_=>aT
 | .kind,_,_=>aT
 | .alt a b,U,s=>match xB F a U s with|some r=>al r|none=>xB F b U s
 | .rais c,_,s=>if F.xc c=bY then al (c,s)else aT
 | .call f as,U,s=>match af3 F as U s with|.ok l s1=>F.xcall f l s1|_=>aT
 | .lenc f as,U,s=>match af3 F as U s with|.ok l s1=>F.xcall f l s1|_=>aT
 | .mcall o m as,U,s=>match(ev F o U s).bind λ x s=>(bk9 x s).bind λ c s=>(af3 F as U s).bind λ l s=>.ok (c,x::l) s with|.ok p s1=>F.xm p.1 m p.2 s1|_=>aT
 | .iteT c a r,U,s=>match ev F c U s with|.ok (.T b) s1=>if b then xB F a U s1 else xB F r U s1|_=>aT
 | .seq st b,U,s=>match ex F st U s with|.ok (.next U1) s1=>xB F b U1 s1|_=>aT
 | .forX tg it b x,U,s=>match evI F it U s with
  | .ok q s0=>ag7 (λ s=>chk s0 s q.src) (λ d U s=>match jd U tg d with
   | some U=>exs F b U s
   | none=>.B) (λ d U s=>match jd U tg d with
   | some U=>xB F x U s
   | none=>aT) q.its U s0
  | _=>aT
 | .iteE c a r,U,s=>match ev F c U s with|.ok (.T b) s1=>if b then xB F a U s1 else xB F r U s1|_=>aT
 | .whlX c b x,U,s=>DV.whlX (ev F c) (exs F b) (xB F x) U s
structure Xf where
 ps:Nat
 vs:Nat
 body:XB
structure Tf where
 ps:Nat
 vs:Nat
 body:Ss
 xb:XB
 c:String
 i:Nat
 h:Hd
 tl:Ss
 pre:Ss
structure Pr where
 df:String->Option Df
 lm:String->Option Lm
 con:String->Option D
 xf:String->Option Xf
 tf:String->Option Tf
 xc:String->Bool
 xt:String->Bool
 cdc:String->Option (List (List Nat×List Nat))
 mt:String->String->Option Df
 att:String->List Nat->Bool
 mx:String->String->Option Xf
noncomputable def ag1 (st st':Sto):Bool:=(am st.length).all λ i=>decide (st'[i]?=st[i]?)||(match st'[i]? with|some o=>o.bnd st.length|none=>ce)
def ab7 (st:Sto)(d:D)(st':Sto):R D :=
 if ag1 st st' then
  match d with
  | .ref r=>if r<st.length then .ok d (st'.take st.length)else match st'[r]? with
   | some o=>if o.bnd st.length then .ok (.ref st.length) (st'.take st.length++[o])else .ok d st'
   | none=>.B
  | d=>if d.bnd st.length then .ok d (st'.take st.length)else .ok d st'
 else .ok d st'
def Hd.out (h:Hd)(c:String)(s s':Sto):R D:=match h with
 | .noe=>ab7 s (.ref s'.length) (s'++[.J []])
 | h=>match h.kn with
  | some (_,.ls)=>ab7 s (.ref s'.length) (s'++[.J [.str (bO6 c)]])
  | some (_,.pl)=>ab7 s (.str (bO6 c)) s'
  | some (_,.eq t)=>ab7 s (.T (decide (bO6 c=t))) s'
  | none=>ab7 s (h.vD c) s'
def Tf.tk (d:Tf)(c:String):Bool:=match d.h with|.sup x _=>subC c x|_=>c==d.c
noncomputable def XB.isK:XB->Bool
 | .kind=>bY|_=>ce
noncomputable def cp9 (P:Pr)(f:String):Bool:=match P.xf f with|some d=>d.ps==1&&(d.vs==1&&d.body.isK)|none=>ce
def bt2 (F:Fns)(d:Tf)(s:Sto)(U0:Env)(s0:Sto):R D:=match xB F d.xb U0 s0 with
 | some (c,s')=>if d.tk c=bY/\F.xc c=bY/\d.h.ok F.xt=bY/\d.h.kok F.kd=bY then d.h.out c s s' else .B
 | none=>(exs F d.body U0 s0).bind λ c s1=>match c with
  | .ret v=>ab7 s v s1
  | .next U=>(exs F d.tl U s1).bind λ c s2=>match c with
   | .ret v=>ab7 s v s2
   | .next _=>ab7 s .N s2
   | _=>.B
  | _=>.B
def bC0 (F:Fns)(d:Tf)(l:List D)(s:Sto):R D:=match exs F d.pre (l.map al++aA d.vs aT) s with
 | .ok (.next U0) s0=>bt2 F d s U0 s0
 | _=>.B
def br7 (F:Fns)(d:Df)(l:List D)(s:Sto):R D:=if l.length=d.ps then(exs F d.body (l.map al++aA d.vs aT) s).bind λ c s'=>match c with
 | .ret v=>ab7 s v s'
 | .next _=>ab7 s .N s'
 | _=>.B else .B
def aa0 (P:Pr):Nat->Fns
 | 0=>⟨λ _ _ _=>.B,λ _ _ _ _=>.B,P.con,λ _ _ _=>aT,P.xc,P.xt,P.cdc,cp9 P,λ _ _ _ _=>.B,λ _ _ _=>.B,P.att,λ _ _ _ _=>aT⟩
 | n+1=>⟨λ f l s=>match P.df f with
   | some d=>if l.length=d.ps then(exs (aa0 P n) d.body (l.map al++aA d.vs aT) s).bind λ c s'=>match c with
     | .ret v=>ab7 s v s'
     | .next _=>ab7 s .N s'
     | _=>.B else .B
   | none=>match P.tf f with
    | some d=>if l.length=d.ps then bC0 (aa0 P n) d l s else .B
    | none=>.B,
  λ id cs l s=>match P.lm id with
   | some d=>if l.length=d.ps/\cs.length=d.cs/\(D.nclL l&&D.nclL cs&&s.all O.ncl)=bY then(ev (aa0 P n) d.body (l.map al++cs.map al) s).bind λ v s'=>ab7 s v s' else .B
   | none=>.B,P.con,
  λ f l s=>match P.xf f with
   | some d=>if l.length=d.ps then xB (aa0 P n) d.body (l.map al++aA d.vs aT) s else aT
   | none=>aT,P.xc,P.xt,P.cdc,cp9 P,λ c m l s=>match P.mt c m with|some d=>br7 (aa0 P n) d l s|none=>.B,λ c l s=>(aa0 P n).mcall c "__init__" l s,P.att,
  λ c m l s=>match P.mx c m with
   | some d=>if l.length=d.ps then xB (aa0 P n) d.body (l.map al++aA d.vs aT) s else aT
   | none=>aT⟩
end DV
end
open DV renaming Sto->m9,D->ng,Env->ni,aa0->nj,R->nk,ev->nq,LIM->nv,eqv->ny,Fns->nA,Pr->nB,tru->nE,DEEP->nF,al9->nG,af3->nI,look->nJ,eqL->nK,kd->nM,jd->nN,Es->nO,xB->nQ,subC->nR,O->nU,af2->nV,evs->nW,az8->nX,ag8->nY,Ct->nZ,As->n6,Df->n8,chk->n9,exs->oa,Tg->og,as6->oh,at0->ol,sbd->om,Bi->on,qe->oq,E->ot,loB->ou,af9->ow,ixn->oy,br7->oA,Sq->oB,minI->oC,aF9->oE,inL->oF,ag2->oG,bl3->oH,setIx->oI,Ss->oJ,evI->oK,zN->oM,Lm->oN,Xf->oO,hiB->oQ,slM->oS,az5->oU,ap9->oV,kAt->oW,at5->oX,ab7->oY,qy->oZ,Mk->o4,Mt->o5,mk->o6,be3->o7,COp->o8,pur->o9,inM->pd,aH4->pf,am0->ph,ag1->pi,bi->pj,meth->pp,M->pw,BOp->pz,Ww62->pC,aW7->pD,S->pF,aq1->pG,aG7->pH,bk9->pI,aj2->pJ,XB->pK,ag7->pL,Tf->pM
open DV.D renaming bndL->nh,bnd->nr,hdI->nD,keyS->nT,nclL->oz,keyF->pq,ncl->pA
open DV.O renaming bnd->nu,ncl->pB
noncomputable section
namespace L2
def fb {p:Prop}(h:(DV.R.B:nk α)=.ok d s):p:=nomatch h
open PySem PySem.Spec PyProof.Rows
structure LamI where
 qual:Str
 params:bD
 body:Expr
 scope:Scope
 ps:List Str
 fr:List Str
 nm:Option (Str×Pos)
def CloAt (H:Hp)(f:Addr)(J:LamI)(cap:List V)(clos:yC):Prop:=match J.nm with
 | none=>aE7 H f J.qual J.params J.body J.scope J.fr cap clos
 | some p=>aq7 H f p.1 J.qual J.params [.Return (al J.body) p.2] J.scope J.fr cap clos
def aj1 (H:Hp)(f:Addr)(J:LamI)(clos:yC):Prop:=match J.nm with
 | none=>∃ pm c' ctv,H f=al (aw4 f (cx "<lambda>" J.qual J.params J.body J.scope clos pm (.ref c') ctv))/\H c'=al (ql c' J.qual)
 | some p=>∃ doc pm c' ctv,H f=al (aw4 f (cV p.1 J.qual J.params [.Return (al J.body) p.2] J.scope clos .none .none doc pm aT (.ref c') ctv))/\H c'=al (ql c' J.qual)
structure Gm where
 K:ac
 fa:String->Option Addr
 lg:String->LamI->Prop
 T:List (Addr×Str)
 cls:String->Option Addr
variable (Γ:Gm)
mutual
noncomputable def RV (C:Nat->Addr)(H:Hp):ng->V->Prop
 | .N,v=>v=.N
 | .T b,v=>v=.T b
 | .int i,v=>v=.int i
 | .str x,v=>v=.str ⟨x.toArray⟩/\x.length<=nv
 | .tp l,v=>∃ a xs,v=.ref a/\(SqT Γ.K H a xs/\(nD l=bY->H a=al (.tp xs)))/\RVL C H l xs
 | .ref n,v=>v=.ref (C n)
 | .fn f,v=>∃ a,Γ.fa f=al a/\v=.ref a
 | .clo id cs,v=>∃ f cap J clos,v=.ref f/\Γ.lg id J/\CloAt H f J cap clos/\cap.length=J.fr.length/\RVL C H cs cap
noncomputable def RVL (C:Nat->Addr)(H:Hp):List ng->List V->Prop
 | [],xs=>xs=[]
 | d::l,xs=>∃ x r,xs=x::r/\RV C H d x/\RVL C H l r
end
noncomputable def ch5:HO->Bool
 | .tp _=>bY
 | .frz _ (.dK _)=>ce
 | .frz _ _=>bY
 | .ext _=>bY
 | _=>ce
def Kp (H H':Hp):Prop:=∀ b o,H b=al o->ch5 o=bY->H' b=al o
def Kp.refl  H :Kp H H:=λ _ _ h _=>h
def Kp.trans (a:Kp H z)(b:Kp z H2):Kp H H2:=λ c o h f=>b c o (a c o h f) f
def Kp.new (a:Kp H z)(h:z p=aT):Kp H (upd z p o):=λ c u e f=>by
 have e1:=a c u e f;rw[zb (zw e1 h)];exact e1
def Kp.put (a:Kp H B)(h:B p=al u)(hu:ch5 u=ce):Kp H (upd B p o):=λ c v e f=>by
 have e1:=a c v e f;rw[zb (λ z=>by lia)];lia
def Kp.sqT {K}(e:Kp H H')(h:SqT K H a z):SqT K H' a z:=by
 rcases h with(h|⟨o,h⟩)|h
 .exact .inl (.inl (e _ _ h rfl))
 .exact .inl (.inr ⟨o,e _ _ h rfl⟩)
 .exact .inr h
def aE7.kp (h:aE7 H f qual params body scope fr cap B)(e:Kp H H'):aE7 H' f qual params body scope fr cap B:=by
 obtain⟨pm,c',J,h1,h2,h3,Z,Y,h6⟩:=h;refine⟨pm,c',J,e _ _ h1 rfl,e _ _ h2 rfl,λ x c q=>?_,Z,Y,λ i x v a b=>?_⟩
 .obtain⟨o,v,z,d⟩:=h3 x c q;exact⟨o,v,e _ _ z rfl,d⟩
 .obtain⟨c,o,u,z1,z2,Uu⟩:=h6 i x v a b;exact⟨c,o,u,z1,e _ _ z2 rfl,Uu⟩
def aq7.kp (h:aq7 H f name qual params body scope fr cap B)(e:Kp H H'):aq7 H' f name qual params body scope fr cap B:=by
 obtain⟨J,pm,c',Uu,h1,h2,h3,h4,Z,h6⟩:=h;refine⟨J,pm,c',Uu,e _ _ h1 rfl,e _ _ h2 rfl,λ x c q=>?_,h4,Z,λ i x v a b=>?_⟩
 .obtain⟨o,v,z,d⟩:=h3 x c q;exact⟨o,v,e _ _ z rfl,d⟩
 .obtain⟨c,o,u,z1,z2,Y⟩:=h6 i x v a b;exact⟨c,o,u,z1,e _ _ z2 rfl,Y⟩
theorem CloAt.kp (h:CloAt H f J cap z)(e:Kp H H'):CloAt H' f J cap z:=by
 unfold CloAt at h ⊢;cases q:J.nm with
 | none=>rw[q]at h;exact aE7.kp h e
 | some p=>rw[q]at h;exact aq7.kp h e
def aj1.kp (h:aj1 H f J z)(e:Kp H H'):aj1 H' f J z:=by
 unfold aj1 at h ⊢;cases q:J.nm with
 | none =>
  rw[q]at h;refine wl λ _ ua=>?_;obtain⟨Y,c',B,Uu,h2⟩:=h;exact ua ⟨Y,c',B,e _ _ Uu rfl,e _ _ h2 rfl⟩
 | some p =>
  rw[q]at h;refine wl λ _ ua=>?_;obtain⟨Z,Y,c',B,Uu,h2⟩:=h;exact ua ⟨Z,Y,c',B,e _ _ Uu rfl,e _ _ h2 rfl⟩
theorem CloAt.fn {K}(h:CloAt H f J cap z):bI7 K H f:=by
 unfold CloAt at h;cases q:J.nm with
 | none=>rw[q]at h;obtain⟨Y,Z,Uu,B,_⟩:=h;exact .inl ⟨_,B⟩
 | some p=>rw[q]at h;exact aq7.fn h
structure Gw (C:Nat->Addr)(n:Nat)(H:Hp)(C':Nat->Addr)(H':Hp):Prop where
 map:∀ i,i<n->C' i=C i
 kp:Kp H H'
variable {Γ:Gm}
mutual
theorem RV.monoW {C C':Nat->Addr}{n:Nat}{H H':Hp}(g:Gw C n H C' H'):∀(d:ng) (v:V),d.bnd n=bY->RV Γ C H d v->RV Γ C' H' d v
 | .N,_,_,h=>by unfold RV at h ⊢;exact h
 | .T _,_,_,h=>by unfold RV at h ⊢;exact h
 | .int _,_,_,h=>by unfold RV at h ⊢;exact h
 | .str _,_,_,h=>by unfold RV at h ⊢;exact h
 | .tp l,_,b,h=>by
  unfold RV at h ⊢;unfold nr at b;obtain⟨a,Uu,e,q,r⟩:=h;exact⟨a,Uu,e,⟨g.kp.sqT q.1,λ z=>g.kp _ _ (q.2 z) rfl⟩,RVL.monoW g l Uu b r⟩
 | .ref k,_,b,h=>by
  unfold RV at h ⊢;unfold nr at b;rw[g.map k (dO b)];exact h
 | .fn _,_,_,h=>by unfold RV at h ⊢;exact h
 | .clo id cs,_,b,h=>by
  unfold RV at h ⊢;unfold nr at b;obtain⟨f,cap,J,B,e,Z,h2,h3,Y⟩:=h;exact⟨f,cap,J,B,e,Z,h2.kp g.kp,h3,RVL.monoW g cs cap b Y⟩
theorem RVL.monoW {C C':Nat->Addr}{n:Nat}{H H':Hp}(g:Gw C n H C' H'):∀(l:List ng) (z:List V),nh n l=bY->RVL Γ C H l z->RVL Γ C' H' l z
 | [],_,_,h=>by unfold RVL at h ⊢;exact h
 | d::l,_,b,h=>by
  unfold RVL at h ⊢;unfold nh at b;rw[ae]at b;obtain⟨x,r,e,q,t⟩:=h;exact⟨x,r,e,RV.monoW g d x b.1 q,RVL.monoW g l r b.2 t⟩
end
mutual
theorem zm {n m:Nat}(h:n<=m):∀ d:ng,d.bnd n=bY->d.bnd m=bY
 | .N,_=>rfl
 | .T _,_=>rfl
 | .int _,_=>rfl
 | .str _,_=>rfl
 | .tp l,b=>by unfold nr at b ⊢;exact ab0 h l b
 | .ref k,b=>by unfold nr at b ⊢;exact ij (az (dO b) h)
 | .fn _,_=>rfl
 | .clo _ l,b=>by unfold nr at b ⊢;exact ab0 h l b
theorem ab0 {n m:Nat}(h:n<=m):∀ l:List ng,nh n l=bY->nh m l=bY
 | [],_=>rfl
 | d::l,b=>by
  unfold nh at b ⊢;rw[ae]at b ⊢;exact⟨zm h d b.1,ab0 h l b.2⟩
end
theorem ab3 :∀ {l},nh n l=bY↔∀ d∈l,d.bnd n=bY
 | []=>by unfold nh;simp
 | d::l=>by
  unfold nh;rw[ae,ab3 ];simp
def qJ (h:nh n l=bY)(h':nh n m=bY):nh n (l++m)=true :=
 ab3.mpr λ d hd=>(aZ.mp hd).elim (ab3.mp h d) (ab3.mp h' d)
def aO7 (h:nh n l=bY)(s:∀ d∈m,d∈l):nh n m=true:=ab3.mpr λ d hd=>ab3.mp h d (s d hd)
def ah8 {i:Nat}(h:nh n l=bY)(e:l[i]?=al d):d.bnd n=true:=ab3.mp h d (aE e)
section
variable {C:Nat->Addr} {H:Hp}
def RVL.nil:RVL Γ C H [] []:=by unfold RVL;rfl
def RVL.cons (a:RV Γ C H d x)(b:RVL Γ C H l h):RVL Γ C H (d::l) (x::h):=by unfold RVL;exact⟨x,h,rfl,a,b⟩
def RVL.unnil (h:RVL Γ C H [] z):z=[]:=by unfold RVL at h;exact h
def RVL.uncons (h:RVL Γ C H (d::l) z):∃ x r,z=x::r/\RV Γ C H d x/\RVL Γ C H l r:=by unfold RVL at h;exact h
theorem RVL.length:∀ {l} {z},RVL Γ C H l z->z.length=l.length
 | [],_,h=>by rw[h.unnil];rfl
 | d::l,_,h=>by
  obtain⟨x,r,rfl,_,t⟩:=h.uncons;rw[aP,aP,RVL.length t]
theorem RVL.get:∀ {l} {z} {i:Nat} {d},RVL Γ C H l z->l[i]?=al d->∃ x,z[i]?=al x/\RV Γ C H d x
 | [],_,_,_,_,e=>by simp at e
 | d::l,_,0,d',h,e=>by
  obtain⟨x,r,rfl,q,t⟩:=h.uncons
  simp_all
 | d::l,_,i+1,_,h,e=>by
  obtain⟨x,r,rfl,q,t⟩:=h.uncons;obtain⟨y,e1,e2⟩:=RVL.get t (by simpa using e)
  simp_all
theorem RVL.append:∀ {l m} {z ys},RVL Γ C H l z->RVL Γ C H m ys->RVL Γ C H (l++m) (z++ys)
 | [],_,_,_,h,h'=>by rw[h.unnil];exact h'
 | d::l,_,_,_,h,h'=>by
  obtain⟨x,r,rfl,q,t⟩:=h.uncons;exact .cons q (RVL.append t h')
theorem RVL.drop:∀ {l} {z}  n ,RVL Γ C H l z->RVL Γ C H (l.drop n) (z.drop n)
 | _,_,0,h=>h
 | [],_,n+1,h=>by rw[h.unnil];exact .nil
 | d::l,_,n+1,h=>by
  obtain⟨x,r,rfl,q,t⟩:=h.uncons;exact RVL.drop n t
theorem RVL.take:∀ {l} {z}  n ,RVL Γ C H l z->RVL Γ C H (l.take n) (z.take n)
 | _,_,0,h=>.nil
 | [],_,n+1,h=>by rw[h.unnil];exact .nil
 | d::l,_,n+1,h=>by
  obtain⟨x,r,rfl,q,t⟩:=h.uncons;exact .cons q (RVL.take n t)
theorem RVL.set:∀ {l} {z} {d} {x}  i ,RVL Γ C H l z->RV Γ C H d x->RVL Γ C H (l.set i d) (z.set i x)
 | [],_,_,_,_,h,_=>by rw[h.unnil];exact .nil
 | d::l,_,_,_,0,h,q=>by
  obtain⟨x,r,rfl,_,t⟩:=h.uncons;exact .cons q t
 | d::l,_,_,_,i+1,h,q=>by
  obtain⟨x,r,rfl,B,t⟩:=h.uncons;exact .cons B (RVL.set i t q)
def RV.intE (h:RV Γ C H (.int i) v):v=.int i:=by unfold RV at h;exact h
def RV.blE (h:RV Γ C H (.T i) v):v=.T i:=by unfold RV at h;exact h
def RV.nonE (h:RV Γ C H .N v):v=.N:=by unfold RV at h;exact h
def RV.strE (h:RV Γ C H (.str x) v):v=.str ⟨x.toArray⟩:=by unfold RV at h;exact h.1
def RV.strL (h:RV Γ C H (.str x) v):x.length<=nv:=by unfold RV at h;exact h.2
def RV.tupE (h:RV Γ C H (.tp l) v):∃ a z,v=.ref a/\SqT Γ.K H a z/\RVL Γ C H l z:=by unfold RV at h;obtain⟨a,z,e,q,r⟩:=h;exact⟨a,z,e,q.1,r⟩
def RV.tupZ (h:RV Γ C H (.tp l) v):∃ a z,(v=.ref a/\(nD l=bY->H a=al (.tp z)))/\SqT Γ.K H a z/\RVL Γ C H l z:=by unfold RV at h;obtain⟨a,z,e,q,r⟩:=h;exact⟨a,z,⟨e,q.2⟩,q.1,r⟩
def RV.tupK (h:RV Γ C H (.tp l) v)(z:nD l=bY):∃ a B,v=.ref a/\H a=al (.tp B)/\RVL Γ C H l B:=by unfold RV at h;obtain⟨a,B,e,q,r⟩:=h;exact⟨a,B,e,q.2 z,r⟩
def RV.refE (h:RV Γ C H (.ref n) v):v=.ref (C n):=by unfold RV at h;exact h
def RV.intI :RV Γ C H (.int i) (.int i):=by unfold RV;rfl
def RV.blI :RV Γ C H (.T i) (.T i):=by unfold RV;rfl
def RV.nonI:RV Γ C H .N .N:=by unfold RV;rfl
def RV.strI (h:x.length<=nv):RV Γ C H (.str x) (.str ⟨x.toArray⟩):=by unfold RV;exact⟨rfl,h⟩
def RV.tupI (h:H a=al (.tp z))(q:RVL Γ C H l z):RV Γ C H (.tp l) (.ref a):=by unfold RV;exact⟨a,z,rfl,⟨SqT.of h,λ _=>h⟩,q⟩
def RV.tupC (h:SqT Γ.K H a B)(z:nD l=bY->H a=al (.tp B))(q:RVL Γ C H l B):RV Γ C H (.tp l) (.ref a):=by unfold RV;exact⟨a,B,rfl,⟨h,z⟩,q⟩
def RV.refI :RV Γ C H (.ref n) (.ref (C n)):=by unfold RV;rfl
end
def bd9 (h:(nX l B J).length=l.length):nX l B J=l:=by
 unfold nX at h ⊢;rw[bR,fB]at h;by_cases z:l=[]
 .simp_all
 .have Uu:=jU.mpr z;have e1:ou l.length B=0:=by lia
  rw[e1]at h ⊢;rw[d7];exact cS (by lia)
def SqF (K:ac)(H:Hp)(a:Addr)(xs:List V):Prop:=SqL K H a xs/\∀ H',Kp H H'->SqL K H' a xs
noncomputable def ai9:ng->Option Key
 | .int i=>al (.inl i)
 | .str x=>al (.inr ⟨x.toArray⟩)
 | _=>aT
noncomputable def fOf:ng->Option FK
 | .N=>al aT
 | .int i=>al (al (.inl i))
 | .str x=>al (al (.inr ⟨x.toArray⟩))
 | _=>aT
noncomputable def jt {κ:Type}(f:ng->Option κ):List ng->Option (List κ)
 | []=>al []
 | d::l=>match f d,jt f l with
  | some k,al r=>al (k::r)
  | _,_=>aT
def nOf:ng->Option NI
 | .tp l=>(jt fOf l).map .inr
 | d=>(fOf d).map .inl
def at6:List ng->Option (List NI):=jt nOf
def cd1:ng->Option (List NI)
 | .tp l=>if(nD l&&(l.all nT&&decide (l.length<=1000)))=bY then at6 l else aT
 | _=>aT
def RVD {κ:Type}(kf:ng->Option κ)(Γ:Gm)(C:Nat->Addr)(H:Hp):List (ng×ng)->List (κ×V)->Prop
 | [],kvs=>kvs=[]
 | (d,e)::l,kvs=>∃ k v r,kvs=(k,v)::r/\kf d=al k/\RV Γ C H e v/\RVD kf Γ C H l r
noncomputable def bU1:ng->Option Str
 | .str x=>al ⟨x.toArray⟩
 | _=>aT
variable (Γ)
def RO (C:Nat->Addr)(H:Hp)(a:Addr):nU->Prop
 | .J l=>∃ xs,H a=al (.J xs)/\RVL Γ C H l xs
 | .ro l=>∃ xs,SqF Γ.K H a xs/\RVL Γ C H l xs
 | .dc l=>∃ kvs,H a=al (.dK kvs)/\RVD ai9 Γ C H l kvs
 | .dit l=>∃ kvs,H a=al (.dT kvs)/\RVD cd1 Γ C H l kvs
 | .dicF l=>∃ o kvs,H a=al (.frz o (.dK kvs))/\RVD ai9 Γ C H l kvs
 | .ins c l=>∃ Cc dx gs,(Γ.cls c=al Cc/\Cls Γ.K Cc)/\(∀ p∈gs,NoAttr Γ.K Cc p.1)/\H a=al (.ins Cc dx gs)/\RVD bU1 Γ C H l gs
abbrev okd:nU->Nat:=DV.O.kd
noncomputable def isMut:nU->Bool
 | .ro _=>ce
 | _=>bY
structure Rp (C:Nat->Addr)(H:Hp)(s:m9):Prop where
 inj:∀(i j:Nat) (o o':nU),s[i]?=al o->s[j]?=al o'->isMut o=bY->isMut o'=bY->C i=C j->i=j
 obj:∀(i:Nat) (o:nU),s[i]?=al o->RO Γ C H (C i) o
 wf:∀(i:Nat) (o:nU),s[i]?=al o->o.bnd s.length=bY
 tab:TabsH Γ.T H
structure RE (C:Nat->Addr)(H:Hp)(n:Nat)(U:ni)(W:St):Prop where
 len:U.length=W.length
 val:∀(i:Nat) (d:ng),U[i]?=al (al d)->d.bnd n=bY/\∃ v,W[i]?=al (al v)/\RV Γ C H d v
structure Gr (C:Nat->Addr)(s:m9)(H:Hp)(C':Nat->Addr)(s':m9)(H':Hp):Prop where
 w:Gw C s.length H C' H'
 le:s.length<=s'.length
 new:∀ i:Nat,s.length<=i->i<s'.length->H (C' i)=aT
 kd:∀(i:Nat) (o o':nU),s[i]?=al o->s'[i]?=al o'->okd o'=okd o
 st:∀ b,H b≠aT->H' b≠aT
 fz:∀ b o kvs,H b=al (.frz o (.dK kvs))->H' b=al (.frz o (.dK kvs))
 fr:∀ b o,H b=al o->(∀ ps,o≠.tbl ps)->(∀(i:Nat) (ob:nU),s[i]?=al ob->isMut ob=bY->C i≠b)->H' b=al o
variable {Γ}
def bG0 (h:okd z=okd o)(m:isMut z=bY):isMut o=true:=by
 cases o with
 | ro _=>cases z with
  | ro _=>cases m
  | _=>cases h
 | _=>rfl
def Gr.mu (g:Gr C s H C' s' H')(i:Nat) o h (e:s[i]?=al o)(e':s'[i]?=al h)(m:isMut h=bY):isMut o=true:=bG0 (g.kd i o h e e') m
theorem Gr.refl  C  s  H :Gr C s H C s H:=⟨⟨λ _ _=>rfl,Kp.refl H⟩,aj _,λ i B z=>iS z (by lia),λ i o J e e'=>by lia,λ _ h=>h,λ _ _ _ h=>h,λ _ _ h _ _=>h⟩
theorem Gr.trans (a:Gr C s H C1 s1 H1)(b:Gr C1 s1 H1 C2 s2 H2)(_h:s.length<=s1.length):Gr C s H C2 s2 H2:=by
 refine⟨⟨λ i B=>(b.w.map i (az B a.le)).trans (a.w.map i B),a.w.kp.trans b.w.kp⟩,aq a.le b.le,λ i h1 h2=>?_,λ i o o' e e'=>?_,λ c h=>b.st c (a.st c h),λ c o kvs h=>b.fz c o kvs (a.fz c o kvs h),λ c o h Z ne=>?_⟩
 .by_cases B:i<s1.length
  .rw[b.w.map i B];exact a.new i h1 B
  .have e:=b.new i (by lia) h2;cases q:H (C2 i)with
   | none=>rfl
   | some o=>exact iS e (a.st _ (by lia))
 .have hl:i<s1.length:=az (ag.mp e).1 a.le;obtain⟨Uu,e1⟩:∃ Uu,s1[i]?=al Uu:=⟨s1[i],au hl⟩
  exact(b.kd i Uu o' e1 e').trans (a.kd i o Uu e e1)
 .refine b.fr c o (a.fr c o h Z ne) Z λ i ob e m z=>?_;by_cases B:i<s.length
  .obtain⟨J,Y⟩:∃ J,s[i]?=al J:=⟨s[i],au B⟩
   exact ne i J Y (a.mu i J ob Y e m) (by rw[<-a.w.map i B];exact z)
  .have:=a.new i (by lia) (ag.mp e).1;lia
def RV.mono (g:Gr C s H C' s' H') d  v (b:d.bnd s.length=bY)(h:RV Γ C H d v):RV Γ C' H' d v:=RV.monoW g.w d v b h
def RVL.mono (g:Gr C s H C' s' H') d  v (b:nh s.length d=bY)(h:RVL Γ C H d v):RVL Γ C' H' d v:=RVL.monoW g.w d v b h
theorem RE.mono (h:RE Γ C H s.length U W)(g:Gr C s H C' s' H')(hn:s.length<=s'.length):RE Γ C' H' s'.length U W :=
 ⟨h.len,λ i d e=>by
  obtain⟨b,v,e1,e2⟩:=h.val i d e;exact⟨zm hn d b,v,e1,RV.mono g d v b e2⟩⟩
def af8 (Γ:Gm)(C:Nat->Addr)(s:m9)(H:Hp)(d:ng)(s':m9)(Q:VK):Prop :=
 ∀ v C' H',Gr C s H C' s' H'->s.length<=s'.length->d.bnd s'.length=bY->RV Γ C' H' d v->Rp Γ C' H' s'->Q v H'
theorem af8.trans (h:af8 Γ C s H d s' Q)(g:Gr C s H C1 s1 z)(l:s.length<=s1.length):af8 Γ C1 s1 z d s' Q :=
 λ v C' H' g' B b r p=>h v C' H' (g.trans g' l) (aq l B) b r p
def af8.here (h:af8 Γ C s H d s Q)(p:Rp Γ C H s)(b:d.bnd s.length=bY)(r:RV Γ C H d v):Q v H :=
 h v C H (Gr.refl C s H) (aj _) b r p
theorem RVD.monoW (g:Gw C n H C' H'):∀ l  (kvs:List (κ×V)),nh n (l.map (·.2))=bY->RVD z Γ C H l kvs->RVD z Γ C' H' l kvs
 | [],_,_,h=>h
 | (d,e)::l,_,b,h=>by
  obtain⟨k,v,r,e1,e2,J,B⟩:=h;rw[aR]at b;unfold nh at b;rw[ae]at b;exact⟨k,v,r,e1,e2,RV.monoW g e v b.1 J,RVD.monoW g l r b.2 B⟩
def RO.mono (h:RO Γ C H a o)(g:Gw C n H C' H')(b:o.bnd n=bY)(z:isMut o=bY->∀ u,H a=al u->H' a=al u):RO Γ C' H' a o:=by
 cases o with
 | J l =>
  unfold nu at b;obtain⟨B,e,r⟩:=h;exact⟨B,z rfl _ e,RVL.monoW g l B b r⟩
 | ro l =>
  unfold nu at b;obtain⟨B,e,r⟩:=h;exact⟨B,⟨e.2 _ g.kp,λ H2 k=>e.2 _ (g.kp.trans k)⟩,RVL.monoW g l B b r⟩
 | dc l =>
  unfold nu at b;rw[ae]at b;obtain⟨kvs,e,r⟩:=h;exact⟨kvs,z rfl _ e,RVD.monoW g l kvs b.2 r⟩
 | dit l =>
  unfold nu at b;rw[ae]at b;obtain⟨kvs,e,r⟩:=h;exact⟨kvs,z rfl _ e,RVD.monoW g l kvs b.2 r⟩
 | dicF l =>
  unfold nu at b;rw[ae]at b;obtain⟨ob,kvs,e,r⟩:=h;exact⟨ob,kvs,z rfl _ e,RVD.monoW g l kvs b.2 r⟩
 | ins c l =>
  unfold nu at b;rw[ae]at b;obtain⟨Cc,Uu,gs,J,Y,e,r⟩:=h;exact⟨Cc,Uu,gs,J,Y,z rfl _ e,RVD.monoW g l gs b.2 r⟩
def RO.there (h:RO Γ C H a o)(m:isMut o=bY):∃ u,H a=al u/\ch5 u=ce/\(∀ ps,u≠.tbl ps)/\((∀ l,o≠.dicF l)->∀ ob kvs,u≠.frz ob (.dK kvs)):=by
 cases o with
 | J l=>obtain⟨B,e,_⟩:=h;exact⟨_,e,rfl,by nofun,λ _ _ _ z=>(by cases z)⟩
 | ro l=>cases m
 | dc l=>obtain⟨B,e,_⟩:=h;exact⟨_,e,rfl,by nofun,λ _ _ _ z=>(by cases z)⟩
 | dit l=>obtain⟨B,e,_⟩:=h;exact⟨_,e,rfl,by nofun,λ _ _ _ z=>(by cases z)⟩
 | dicF l=>obtain⟨ob,B,e,_⟩:=h;exact⟨_,e,rfl,by nofun,λ z=>iS rfl (z l)⟩
 | ins c l=>obtain⟨_,_,_,_,_,e,_⟩:=h;exact⟨_,e,rfl,by nofun,λ _ _ _ z=>(by cases z)⟩
def Rp.addr (p:Rp Γ C H s)(e:s[i]?=al (.J l)):∃ h,H (C i)=al (.J h)/\RVL Γ C H l h:=p.obj i _ e
def qi (h:n<=m)(o:nU)(b:o.bnd n=bY):o.bnd m=true:=by
 cases o with
 | J l=>unfold nu at b ⊢;exact ab0 h l b
 | ro l=>unfold nu at b ⊢;exact ab0 h l b
 | dc l =>
  unfold nu at b ⊢;rw[ae]at b ⊢;exact⟨ab0 h _ b.1,ab0 h _ b.2⟩
 | dit l =>
  unfold nu at b ⊢;rw[ae]at b ⊢;exact⟨ab0 h _ b.1,ab0 h _ b.2⟩
 | dicF l =>
  unfold nu at b ⊢;rw[ae]at b ⊢;exact⟨ab0 h _ b.1,ab0 h _ b.2⟩
 | ins c l =>
  unfold nu at b ⊢;rw[ae]at b ⊢;exact⟨ab0 h _ b.1,ab0 h _ b.2⟩
def TabsH.keepF (h:TabsH T H)(k:∀ b o,(ch5 o=bY\/∃ ps,o=.tbl ps)->H b=al o->H' b=al o):TabsH T H':=λ y hy=>by
 obtain⟨ps,e,t,c⟩:=h y hy;refine⟨ps,k _ _ (.inr ⟨_,rfl⟩) e,t,λ pos z q=>?_⟩;obtain⟨B,e1,e2⟩:=c pos z q;exact⟨B,e1,k _ _ (.inl rfl) e2⟩
theorem Rp.new (r:Rp Γ C H s)(J:H p=aT)(hb:o.bnd s.length=bY)
  (ho:∀ C' H',Gw C s.length H C' H'->H' p=al u->RO Γ C' H' p o):Gr C s H (λ i=>if i=s.length then p else C i) (s++[o]) (upd H p u)/\Rp Γ (λ i=>if i=s.length then p else C i) (upd H p u) (s++[o]):=by
 have g:Gw C s.length H (λ i=>if i=s.length then p else C i) (upd H p u):=⟨λ i z=>gc (aH z),(Kp.refl H).new J⟩
 have key:∀ i B,(s++[o])[i]?=al B->(i<s.length/\s[i]?=al B)\/(i=s.length/\B=o):=λ i B e=>by
  rcases gI i s.length with h|h|h
  .rw[aD h]at e;exact .inl ⟨h,e⟩
  .subst h;simp at e;exact .inr ⟨rfl,e.symm⟩
  .rw[bZ (by simp;lia)]at e;cases e
 refine⟨⟨g,by simp,λ i h1 h2=>?_,λ i o1 o2 e1 e2=>?_,λ b hb=>?_,λ b ob kvs hb=>by rw[zb (zw hb J)];exact hb,λ b ob hb _ _=>by rw[zb (zw hb J)];exact hb⟩,λ i j Z Y Uu ej mi mj e=>?_,λ i B e=>?_,λ i B e=>?_,r.tab.new J⟩
 .rw[aM,cD]at h2;rw[ef (by lia)];exact J
 .grind
 .unfold upd;split
  .simp
  .exact hb
 .rcases key i Z Uu with⟨z,Uu⟩|⟨z,rfl⟩<;>rcases key j Y ej with⟨hj,ej⟩|⟨hj,ej'⟩
  .rw[gc (aH z),gc (aH hj)]at e;exact r.inj i j Z Y Uu ej mi mj e
  .rw[gc (aH z),ef hj]at e;obtain⟨u,hu,_⟩:=(r.obj i Z Uu).there mi;lia
  .rw[gc (aH hj),ef z]at e;obtain⟨u,hu,_⟩:=(r.obj j Y ej).there mj;lia
  .rw[z,hj]
 .rcases key i B e with⟨z,e⟩|⟨z,rfl⟩
  .show RO Γ _ _ (if i=s.length then p else C i) B;rw[gc (aH z)];exact(r.obj i B e).mono g (r.wf i B e) λ _ v hv=>by rw[zb (zw hv J)];exact hv
  .show RO Γ _ _ (if i=s.length then p else C i) B;rw[ef z];exact ho _ _ g zg
 .rw[aM,cD];rcases key i B e with⟨z,e⟩|⟨z,rfl⟩
  .exact qi (dC _) _ (r.wf i B e)
  .exact qi (dC _) _ hb
def Rp.set1 (r:Rp Γ C H s)(hk:s[k]?=al J)(Z:isMut J=bY)(hb:o.bnd s.length=bY)
  (ho:∀ H',Gw C s.length H C H'->H' (C k)=al u->RO Γ C H' (C k) o) (a1:okd o=okd J):((∀ l,J≠.dicF l)->Gr C s H C (s.set k o) (upd H (C k) u))/\Rp Γ C (upd H (C k) u) (s.set k o):=by
 obtain⟨v0,Uu,f0,a3,a0⟩:=(r.obj k J hk).there Z;have a2:=(ag.mp hk).1;have g:Gw C s.length H C (upd H (C k) u):=⟨λ _ _=>rfl,(Kp.refl H).put Uu f0⟩
 have key:∀ i B,(s.set k o)[i]?=al B->(i≠k/\s[i]?=al B)\/(i=k/\B=o):=λ i B e=>by
  by_cases h:i=k
  .subst h;rw[bA a2]at e;exact .inr ⟨rfl,(av e).symm⟩
  .rw[aC (bH h)]at e;exact .inl ⟨h,e⟩
 have mm:∀ i B,(s.set k o)[i]?=al B->isMut B=bY->∃ Y,s[i]?=al Y/\isMut Y=true:=λ i B e m=>by
  rcases key i B e with⟨_,e⟩|⟨h,_⟩
  .exact⟨B,e,m⟩
  .exact⟨J,by rw[h];exact hk,Z⟩
 refine⟨λ nf=>⟨g,by simp,λ i h1 h2=>by grind,λ i o1 o2 e1 e2=>?_,λ b hb=>?_,λ b ob kvs hb=>by rw[zb λ z=>by simp_all];exact hb,λ b ob hb nt ne=>by rw[zb (bH (ne k J hk Z))];exact hb⟩,λ i j oi oj ei ej mi mj e=>?_,λ i B e=>?_,λ i B e=>?_,r.tab.keepF λ b v hv q=>?_⟩
 .rcases key i o2 e2 with⟨_,e⟩|⟨h,rfl⟩
  .rw[e1]at e;cases e;rfl
  .subst h;rw[hk]at e1;cases e1;exact a1
 .unfold upd;split
  .simp
  .exact hb
 .obtain⟨o1,e1,m1⟩:=mm i oi ei mi;obtain⟨o2,e2,m2⟩:=mm j oj ej mj;exact r.inj i j o1 o2 e1 e2 m1 m2 e
 .rcases key i B e with⟨h,e⟩|⟨h,rfl⟩
  .refine(r.obj i B e).mono g (r.wf i B e) λ m v hv=>?_;rw[zb λ z=>h (r.inj i k B J e hk m Z z)];exact hv
  .subst h;exact ho _ g zg
 .rw[bw];rcases key i B e with⟨_,e⟩|⟨_,rfl⟩
  .exact r.wf i B e
  .exact hb
 .rw[zb λ z=>by
   simp_all]
  exact q
theorem Rp.set (r:Rp Γ C H s)(hk:s[k]?=al z)(B:isMut z=bY)(hb:o.bnd s.length=bY)
  (ho:∀ H',Gw C s.length H C H'->H' (C k)=al u->RO Γ C H' (C k) o) (h:autoParam (okd o=okd z) Zq4._auto_1) (J:autoParam (∀ l,z≠.dicF l) Zq7._auto_1):Gr C s H C (s.set k o) (upd H (C k) u)/\Rp Γ C (upd H (C k) u) (s.set k o) :=
 ⟨(r.set1 hk B hb ho h).1 J,(r.set1 hk B hb ho h).2⟩
theorem Rp.same (r:Rp Γ C H s)(e:ag5 H H'):Gr C s H C s H'/\Rp Γ C H' s:=by
 have g:Gw C s.length H C H':=⟨λ _ _=>rfl,λ b o h _=>e b o h⟩
 exact⟨⟨g,aj _,λ i B z=>iS z (by omega),λ i o J e e'=>by lia,λ b hb=>by
  cases q:H b with
  | none=>lia
  | some o=>rw[e b o q];simp,λ b o kvs h=>e b _ h,λ b o h _ _=>e b o h⟩,r.inj,λ i o h=>(r.obj i o h).mono g (r.wf i o h) λ _ u hu=>e _ u hu,r.wf,r.tab.same e⟩
section
variable {C:Nat->Addr} {H:Hp} {s:m9} {Q:VK}
def af8.alloc (h:af8 Γ C s H (.ref s.length) (s++[.J l]) Q)(r:Rp Γ C H s)(Uu:RVL Γ C H l z)(hb:nh s.length l=bY)(B:H p=aT):Q (.ref p) (upd H p (.J z)):=by
 obtain⟨g,J⟩:=r.new (o:=.J l) B hb λ C' H' g e=>⟨z,e,RVL.monoW g l z hb Uu⟩
 have:=h (.ref p) _ _ g (by simp) (by unfold nr;simp) (by unfold RV;simp) J
 simp_all
def af8.tup (h:af8 Γ C s H (.tp l) s Q)(r:Rp Γ C H s)(Uu:RVL Γ C H l z)(hb:nh s.length l=bY)(B:H p=aT):Q (.ref p) (upd H p (.tp z)):=by
 obtain⟨g,J⟩:=r.same ((ag5.refl H).new B);exact h _ _ _ g (aj _) (by unfold nr;exact hb) (RV.tupI zg (RVL.mono g l z hb Uu)) J
def af8.put (h:af8 Γ C s H d (s.set k (.J l)) Q)(r:Rp Γ C H s)(hk:s[k]?=al (.J l0))(J:RVL Γ C H l z)(hb:nh s.length l=bY)
  (hd:d.bnd s.length=bY) (hv:RV Γ C H d v):Q v (upd H (C k) (.J z)):=by
 obtain⟨g,B⟩:=r.set (o:=.J l) hk rfl hb λ H' g e=>⟨z,e,RVL.monoW g l z hb J⟩
 exact h _ _ _ g (by simp) (by rw[bw];exact hd) (RV.mono g d v hd hv) B
end
variable {Γ:Gm}
def keyOf_inj (ha:ai9 a=al k)(hb:ai9 b=al k):a=b:=by
 cases a with
 | int i =>
  cases ha;cases b with
  | int j=>cases hb;rfl
  | str y=>cases hb
  | _=>cases hb
 | str x =>
  cases ha;cases b with
  | int j=>cases hb
  | str y =>
   have h:=av hb;lia
  | _=>cases hb
 | _=>cases ha
def an1 (h:d.key=bY):∃ k,ai9 d=al k:=by
 cases d with
 | int i=>exact⟨_,rfl⟩
 | str x=>exact⟨_,rfl⟩
 | _=>cases h
def aO0 (h:ai9 d=al k)(r:RV Γ C H d v):v=kV k:=by
 cases d with
 | int i=>cases h;exact r.intE
 | str x=>cases h;exact r.strE
 | _=>cases h
def bo2 {κ:Type}(kf:ng->Option κ):Prop:=∀ {a b} {k},kf a=al k->kf b=al k->a=b
def bj8:bo2 fOf:=λ {a b k} ha hb=>by
 cases a with
 | N=>cases ha;cases b with|N=>rfl|_=>cases hb
 | int i=>cases ha;cases b with|int j=>cases hb;rfl|_=>cases hb
 | str x=>cases ha;cases b with|str y=>cases hb;rfl|_=>cases hb
 | _=>cases ha
set_option tactic.hygienic true in
theorem an3 {f}(h:bo2 f):∀ {a b} {k:List κ},jt f a=al k->jt f b=al k->a=b
 | [],[],k,_,_=>rfl
 | [],y::b,k,ha,hb=>by
  cases ha;unfold jt at hb;split at hb<;>cases hb
 | x::a,[],k,ha,hb=>by
  cases hb;unfold jt at ha;split at ha<;>cases ha
 | x::a,y::b,k,ha,hb=>by
  unfold jt at ha hb;split at ha
  .rename_i k1 r1 e1 e2;cases ha;split at hb
   .rename_i k2 J B z;cases hb;rw[h e1 B,an3 h e2 z]
   .cases hb
  .cases ha
def nOf_cases (h:nOf d=al k):(∃ l r,d=.tp l/\jt fOf l=al r/\k=.inr r)\/∃ f,fOf d=al f/\k=.inl f:=by
 cases d with
 | tp l =>
  obtain⟨r,e,q⟩:=bq.mp (h);exact .inl ⟨l,r,rfl,e,q.symm⟩
 | N=>obtain⟨r,e,q⟩:=bq.mp (show(fOf .N).map .inl=al k from h);exact .inr ⟨r,e,q.symm⟩
 | int i=>obtain⟨r,e,q⟩:=bq.mp (show(fOf (.int i)).map .inl=al k from h);exact .inr ⟨r,e,q.symm⟩
 | str i=>obtain⟨r,e,q⟩:=bq.mp (show(fOf (.str i)).map .inl=al k from h);exact .inr ⟨r,e,q.symm⟩
 | _=>cases h
def bJ9:bo2 nOf:=λ {a b k} ha hb=>by
 rcases nOf_cases ha with⟨l,r,rfl,e,rfl⟩|⟨f,e,rfl⟩
 .rcases nOf_cases hb with⟨m,h,rfl,e',q⟩|⟨f,e',q⟩
  .cases q;rw[an3 bj8 e e']
  .cases q
 .rcases nOf_cases hb with⟨m,h,rfl,e',q⟩|⟨f',e',q⟩
  .cases q
  .cases q;exact bj8 e e'
def aw3 (h:cd1 d=al k):∃ l,d=.tp l/\(nD l=bY/\l.all nT=bY/\l.length<=1000)/\at6 l=al k:=by
 cases d with
 | tp l =>
  have h:(if(nD l&&(l.all nT&&decide (l.length<=1000)))=bY then at6 l else aT)=al k:=h
  simp_all
 | _=>cases h
def keyT_inj:bo2 cd1:=λ ha hb=>by
 obtain⟨l,rfl,_,h⟩:=aw3 ha;obtain⟨m,rfl,_,z⟩:=aw3 hb;rw[an3 bJ9 h z]
theorem aj3 {p}(z:∀ d,p d=bY->∃ k,f d=al k):∀ {l},l.all p=bY->∃ k,jt f l=al k
 | [],_=>⟨[],rfl⟩
 | d::l,h=>by
  rw[dN,ae]at h;obtain⟨k,hk⟩:=z d h.1;obtain⟨r,hr⟩:=aj3 z h.2;exact⟨k::r,by unfold jt;rw[hk,hr]⟩
def bi3  d (h:d.keyF=bY):∃ k,fOf d=al k:=by
 cases d with
 | int i=>exact⟨_,rfl⟩
 | str x=>exact⟨_,rfl⟩
 | N=>exact⟨_,rfl⟩
 | _=>cases h
def aL1 (h:(DV.D.tp l).keyS=bY):nD l=bY/\l.all pq=bY/\l.length<=1000:=by
 have h:(nD l&&(l.all pq&&decide (l.length<=1000)))=true:=h;rw[ae,ae]at h;exact⟨h.1,h.2.1,dO h.2.2⟩
def ba4  d (h:d.keyS=bY):∃ k,nOf d=al k:=by
 cases d with
 | tp l=>obtain⟨r,e⟩:=aj3 bi3 (aL1 h).2.1;exact⟨.inr r,by show(jt fOf l).map _=_;rw[e];rfl⟩
 | int i=>exact⟨_,rfl⟩
 | str x=>exact⟨_,rfl⟩
 | N=>exact⟨_,rfl⟩
 | _=>cases h
def as0 (h:d.keyT=bY):∃ k,cd1 d=al k:=by
 cases d with
 | tp l =>
  have h:(nD l&&(l.all nT&&decide (l.length<=1000)))=true:=h;have h':=h;rw[ae,ae]at h';obtain⟨k,hk⟩:=aj3 ba4 h'.2.1;exact⟨k,by show(if(nD l&&(l.all nT&&decide (l.length<=1000)))=bY then at6 l else aT)=al k;rw[ef h];exact hk⟩
 | _=>cases h
def cp3 (h:fOf d=al k)(r:RV Γ C H d v):v=fV k:=by
 cases d with
 | N=>cases h;exact r.nonE
 | int i=>cases h;exact r.intE
 | str x=>cases h;exact r.strE
 | _=>cases h
set_option tactic.hygienic true in
theorem cc3 :∀ {l} {k} {z},jt fOf l=al k->RVL Γ C H l z->z=k.map fV
 | [],k,z,h,r=>by cases h;exact r.unnil
 | d::l,k,z,h,r=>by
  unfold jt at h;split at h
  .rename_i k1 r1 e1 e2;cases h;obtain⟨x,ys,rfl,J,B⟩:=r.uncons;rw[cp3 e1 J,cc3 e2 B,aR]
  .cases h
set_option tactic.hygienic true in
theorem bb4 :∀ {l} {k} {J},at6 l=al k->l.all nT=bY->RVL Γ C H l J->dm (NAt H) k J
 | [],k,J,h,_,r=>by cases h;cases r.unnil;exact .nil
 | d::l,k,J,h,z,r=>by
  unfold at6 jt at h;rw[dN,ae]at z;split at h
  .rename_i k1 r1 e1 e2;cases h;obtain⟨x,ys,rfl,B,Uu⟩:=r.uncons;refine .cons ?_ (bb4 e2 z.2 Uu);rcases nOf_cases e1 with⟨m,q,rfl,e,rfl⟩|⟨f,e,rfl⟩
   .obtain⟨a,J,e',Y,Z⟩:=B.tupK (aL1 z.1).1;rw[cc3 e Z]at Y;exact⟨a,e',Y⟩
   .exact cp3 e B
  .cases h
def aF7 (h:cd1 d=al k)(r:RV Γ C H d v):∃ b,v=.ref b/\NK H k b:=by
 obtain⟨l,rfl,z,hk⟩:=aw3 h;obtain⟨a,Uu,e,B,J⟩:=r.tupK z.1;exact⟨a,e,Uu,B,bb4 hk z.2.1 J⟩
section
variable {κ:Type} [DecidableEq κ] {kf:ng->Option κ}
theorem RVD.val (B:bo2 kf)(hk:kf d=al k):∀ {l} {kvs},RVD kf Γ C H l kvs->(nJ d l=aT/\aF5 kvs k=aT)\/∃ e v,nJ d l=al e/\aF5 kvs k=al v/\RV Γ C H e v/\e∈l.map (·.2)
 | [],kvs,h=>by
  have h:=h;subst h;exact .inl ⟨rfl,rfl⟩
 | (a,e)::l,kvs,h=>by
  obtain⟨k',v,r,rfl,e2,Y,J⟩:=h;by_cases z:a=d
  .subst z;rw[hk]at e2;cases e2;exact .inr ⟨e,v,by unfold nJ;rw[ef rfl],am5 rfl,Y,by simp⟩
  .have Z:¬ k'=k:=λ q=>z (B e2 (by rw[q];exact hk));have Uu:nJ d ((a,e)::l)=nJ d l:=by
    conv=>lhs;unfold nJ
    rw[gc z]
   rw[Uu,am6 (Z)];rcases RVD.val B hk J with q|⟨e',v',q1,q2,q3,q4⟩
   .exact .inl q
   .exact .inr ⟨e',v',q1,q2,q3,by simp at q4 ⊢;exact .inr q4⟩
theorem RVD.repl (J:bo2 kf)(hk:kf d=al k)(hv:RV Γ C H e v):∀ {l} {kvs},RVD kf Γ C H l kvs->RVD kf Γ C H (l.map λ p=>if p.1=d then(p.1,e)else p) (kvs.map λ B=>if B.1=k then(B.1,v)else B)
 | [],kvs,h=>by
  have h:=h;subst h;exact(rfl)
 | (a,e0)::l,kvs,h=>by
  obtain⟨k',v0,r,rfl,e2,Y,Uu⟩:=h;rw[aR,aR];by_cases z:a=d
  .subst z;rw[hk]at e2;cases e2;rw[ef rfl,ef rfl];exact⟨k,v,_,rfl,hk,hv,RVD.repl J hk hv Uu⟩
  .have Z:¬ k'=k:=λ q=>z (J e2 (by rw[q];exact hk));rw[gc z,gc Z];exact⟨k',v0,_,rfl,e2,Y,RVD.repl J hk hv Uu⟩
theorem RVD.snoc (J:bo2 kf)(hk:kf d=al k)(hv:RV Γ C H e v):∀ {l} {kvs},RVD kf Γ C H l kvs->RVD kf Γ C H (l++[(d,e)]) (kvs++[(k,v)])
 | [],kvs,h=>by
  have h:=h;subst h;exact⟨k,v,[],rfl,hk,hv,rfl⟩
 | (a,e0)::l,kvs,h=>by
  obtain⟨k',v0,r,rfl,e2,B,z⟩:=h;exact⟨k',v0,_,rfl,e2,B,RVD.snoc J hk hv z⟩
def RVD.put (B:bo2 kf)(hk:kf d=al k)(hv:RV Γ C H e v)(h:RVD kf Γ C H l kvs):RVD kf Γ C H (nG d e l) (as4 kvs k v):=by
 unfold nG as4;rw[ay5];rcases h.val B hk with⟨z,q2⟩|⟨e',v',z,q2,_⟩
 .rw[z,q2];exact h.snoc B hk hv
 .rw[z,q2];exact h.repl B hk hv
theorem RVD.get :∀ {l} {kvs} {i:Nat} {d e},RVD kf Γ C H l kvs->l[i]?=al (d,e)->∃ k v,kvs[i]?=al (k,v)/\kf d=al k/\RV Γ C H e v
 | [],_,_,_,_,_,h=>by cases h
 | (a,b)::l,kvs,0,d,e,h,q=>by
  obtain⟨k,v,r,rfl,e2,B,z⟩:=h
  grind
 | (a,b)::l,kvs,i+1,d,e,h,q=>by
  obtain⟨k,v,r,rfl,e2,B,z⟩:=h;exact RVD.get (i:=i) z (q)
theorem RVD.keys :∀ {l} {kvs},RVD kf Γ C H l kvs->∀ kv∈kvs,∃ d,kf d=al kv.1
 | [],kvs,h,kv,hk=>by
  have h:=h;subst h;cases hk
 | (a,b)::l,kvs,h,kv,hk=>by
  obtain⟨k,v,r,rfl,e2,J,B⟩:=h;rcases aB.mp hk with z|z
  .subst z;exact⟨a,e2⟩
  .exact RVD.keys B kv z
theorem RVD.length :∀ {l} {kvs},RVD kf Γ C H l kvs->kvs.length=l.length
 | [],kvs,h=>by
  have h:=h;subst h;rfl
 | (a,e)::l,kvs,h=>by
  obtain⟨k',v,r,rfl,e2,B,z⟩:=h;rw[aP,aP,RVD.length z]
end
def aL5 (h:(DV.O.dc l).bnd n=bY)(hd:d.bnd n=bY)(J:e.bnd n=bY):(DV.O.dc (nG d e l)).bnd n=true:=by
 unfold nu at h ⊢;rw[ae]at h ⊢;obtain⟨Uu,Y⟩:=h;have g1:=ab3.mp Uu;have B:=ab3.mp Y;unfold nG;refine⟨ab3.mpr λ x hx=>?_,ab3.mpr λ x hx=>?_⟩
 .obtain⟨p,z,rfl⟩:=ao.mp hx;split at z
  .obtain⟨q,hq,rfl⟩:=ao.mp z;split
   .exact g1 _ (bv (f:=(·.1)) hq)
   .exact g1 _ (bv hq)
  .rcases aZ.mp z with q|q
   .exact g1 _ (bv q)
   .rw[aO.mp q];exact hd
 .obtain⟨p,z,rfl⟩:=ao.mp hx;split at z
  .obtain⟨q,hq,rfl⟩:=ao.mp z;split
   .exact J
   .exact B _ (bv hq)
  .rcases aZ.mp z with q|q
   .exact B _ (bv q)
   .rw[aO.mp q];exact J
def bn7 (h:(DV.O.dit l).bnd n=bY)(hd:d.bnd n=bY)(z:e.bnd n=bY):(DV.O.dit (nG d e l)).bnd n=true:=aL5 h hd z
def am1 (h:nK f (a::l) (b::m)=al z):∃ x y,f a b=al x/\nK f l m=al y/\z=(x&&y):=by
 unfold nK at h;cases e1:f a b with
 | none=>rw[e1]at h;cases h
 | some x =>
  cases e2:nK f l m with
  | none=>rw[e1,e2]at h;cases h
  | some y=>rw[e1,e2]at h;exact⟨x,y,rfl,rfl,(av h).symm⟩
theorem aX3 :∀ {l m} {z},nK f l m=al z->∃ e,(∀ j d d',l[j]?=al d->m[j]?=al d'->f d d'=al (e j))/\((l.length==m.length)&&(am (min l.length m.length)).all e)=z
 | [],[],z,h=>by
  unfold nK at h
  simp_all
 | [],b::m,z,h=>by
  unfold nK at h
  simp_all
 | a::l,[],z,h=>by
  unfold nK at h
  simp_all
 | a::l,b::m,z,h=>by
  refine wl λ _ ua=>?_;obtain⟨x,y,e1,e2,Y⟩:=am1 h;obtain⟨e,Uu,J⟩:=aX3 e2;refine ua ⟨λ j=>match j with|0=>x|j+1=>e j,λ j d d' g1 B=>?_,?_⟩
  .cases j with
   | zero=>simp at g1 B;subst g1;subst B;exact e1
   | succ j=>exact Uu j d d' (by simpa using g1) (by simpa using B)
  .rw[aP,aP,show min (l.length+1) (m.length+1)=min l.length m.length+1 by lia,cF,dN,mq,Y,<-J]
   grind
section
variable {X:Cx} {pins:yA} {W:St} {H:Hp} {sh:af} {C:Nat->Addr} {s:m9}
def aq9 (I:Inv X pins W H sh)(h:H a=al (.J B))(h':SqT X.K H a ys):False:=by
 rcases h' with(z|⟨o,z⟩)|⟨o,its,n,hk,_⟩
 .lia
 .lia
 .have:=(I.bs a o (I.mod.kin a o hk)).2;lia
def rv_two (I:Inv X pins W H sh)(hK:X.K=Γ.K)(R:Rp Γ C H s)(J:RV Γ C H a x)(z:RV Γ C H b x)(n1:nM s a≠9)(n2:nM s b≠9):a=b\/∃ l m p Uu,a=.tp l/\b=.tp m/\x=.ref p/\RVL Γ C H l Uu/\RVL Γ C H m Uu:=by
 have B:∀ {r:Nat},nM s (.ref r)≠9->∃ l,s[r]?=al (.J l):=λ {r} h=>by
  have h:(match s[r]? with|some (DV.O.J l)=>4|_=>9:Nat)≠9:=h;cases hs:s[r]? with
  | none=>rw[hs]at h;exact iS rfl h
  | some o =>
   rw[hs]at h;cases o with
   | J l=>exact⟨l,rfl⟩
   | _=>exact iS rfl h
 cases a with
 | N=>have e:=J.nonE;subst e;cases b with
  | N=>exact .inl rfl
  | T _=>cases z.blE
  | int _=>cases z.intE
  | str _=>cases z.strE
  | tp _=>obtain⟨_,_,e,_⟩:=z.tupE;cases e
  | ref _=>cases z.refE
  | fn _=>exact iS rfl n2
  | clo _ _=>exact iS rfl n2
 | T p=>have e:=J.blE;subst e;cases b with
  | N=>cases z.nonE
  | T _=>cases z.blE;exact .inl rfl
  | int _=>cases z.intE
  | str _=>cases z.strE
  | tp _=>obtain⟨_,_,e,_⟩:=z.tupE;cases e
  | ref _=>cases z.refE
  | fn _=>exact iS rfl n2
  | clo _ _=>exact iS rfl n2
 | int p=>have e:=J.intE;subst e;cases b with
  | N=>cases z.nonE
  | T _=>cases z.blE
  | int _=>cases z.intE;exact .inl rfl
  | str _=>cases z.strE
  | tp _=>obtain⟨_,_,e,_⟩:=z.tupE;cases e
  | ref _=>cases z.refE
  | fn _=>exact iS rfl n2
  | clo _ _=>exact iS rfl n2
 | str p=>have e:=J.strE;subst e;cases b with
  | N=>cases z.nonE
  | T _=>cases z.blE
  | int _=>cases z.intE
  | str q =>
   have e':p.toArray=q.toArray:=Str.mk.inj (V.str.inj z.strE);have a0:p=q:=by simpa using congrArg kr e'
   subst a0;exact .inl rfl
  | tp _=>obtain⟨_,_,e,_⟩:=z.tupE;cases e
  | ref _=>cases z.refE
  | fn _=>exact iS rfl n2
  | clo _ _=>exact iS rfl n2
 | tp l =>
  obtain⟨p,Uu,e,Y,d1⟩:=J.tupE;subst e;cases b with
  | N=>cases z.nonE
  | T _=>cases z.blE
  | int _=>cases z.intE
  | str _=>cases z.strE
  | tp m =>
   obtain⟨p',ys,e,q2,d2⟩:=z.tupE;cases e;rw[<-hK]at Y q2;rw[I.tuple_inj q2 Y]at d2;exact .inr ⟨l,m,p,Uu,rfl,rfl,rfl,d1,d2⟩
  | ref r =>
   cases z.refE;obtain⟨m,Z⟩:=B n2;obtain⟨ys,hy,_⟩:=R.addr Z;rw[<-hK]at Y;exact(aq9 I hy Y).elim
  | fn _=>exact iS rfl n2
  | clo _ _=>exact iS rfl n2
 | ref r =>
  have e:=J.refE;subst e;obtain⟨l,hl⟩:=B n1;obtain⟨Uu,hx,_⟩:=R.addr hl;cases b with
  | N=>cases z.nonE
  | T _=>cases z.blE
  | int _=>cases z.intE
  | str _=>cases z.strE
  | tp m =>
   refine wl λ _ ua=>?_;obtain⟨p',ys,e,q2,d2⟩:=z.tupE;cases e;rw[<-hK]at q2;exact ua $ (aq9 I hx q2).elim
  | ref r' =>
   obtain⟨m,Z⟩:=B n2;have e:C r=C r':=V.ref.inj z.refE;rw[R.inj r r' _ _ hl Z rfl rfl e];exact .inl rfl
  | fn _=>exact iS rfl n2
  | clo _ _=>exact iS rfl n2
 | fn _=>exact iS rfl n1
 | clo _ _=>exact iS rfl n1
def jo (h:nV s a b=al z):o7 a b=al z\/(o7 a b=aT/\oE (nM s a) (nM s b)=ce/\z=ce):=by
 unfold nV at h;cases e:o7 a b with
 | some w=>rw[e]at h;exact .inl h
 | none =>
  rw[e]at h;cases q:oE (nM s a) (nM s b)with
  | true=>rw[q]at h;cases h
  | false=>rw[q]at h;exact .inr ⟨rfl,rfl,(av h).symm⟩
def bl7 (h:o7 a b=al z):nM s a≠9/\nM s b≠9:=by
 cases a<;>cases b<;>first|(cases h;done)|(constructor<;>(intro z;cases z))
def ah7 (h:nV s a b=al z):nM s a≠9/\nM s b≠9:=by
 rcases jo h with h|⟨_,h,_⟩
 .exact bl7 h
 .unfold oE at h;lia
def aH6 (h:nV s a a=al z):z=true:=by
 rcases jo h with h|⟨_,h,_⟩
 .cases a<;>cases h<;>first|rfl|exact beq_self_eq_true _
 .unfold oE at h;simp at h
set_option tactic.hygienic true in
def aN8 (I:Inv X pins W H sh)(hK:X.K=Γ.K)(R:Rp Γ C H s):∀ n   a b   x   z ,ny s n a b=al z->RV Γ C H a x->RV Γ C H b x->z=true:=by
 have Uu:∀ a b   x   z ,nV s a b=al z->RV Γ C H a x->RV Γ C H b x->z=true:=by
  intro a b x z h B J;rcases rv_two I hK R B J (ah7 h).1 (ah7 h).2 with e|⟨l,m,_,_,rfl,rfl,_⟩
  .subst e;exact aH6 h
  .rcases jo h with h|⟨_,h,_⟩
   .cases h
   .unfold oE at h;simp[nM]at h
 intro n
 induction n with
 | zero=>intro a b x z h;unfold ny at h;exact Uu a b x z h
 | succ n ih =>
  have a0:∀ l m   Y   z ,nK (ny s n) l m=al z->RVL Γ C H l Y->RVL Γ C H m Y->z=true:=by
   intro l
   induction l with
   | nil =>
    intro m Y z h B J;cases m with
    | nil=>unfold nK at h;exact(av h).symm
    | cons b m=>obtain⟨x,r,e,_⟩:=J.uncons;rw[B.unnil]at e;cases e
   | cons a l ihl =>
    intro m Y z h B J;cases m with
    | nil=>obtain⟨x,r,e,_⟩:=B.uncons;rw[J.unnil]at e;cases e
    | cons b m =>
     obtain⟨p,q,e1,e2,ez⟩:=am1 h;obtain⟨v,r,rfl,g1,g2⟩:=B.uncons;obtain⟨v',r',e,g3,g4⟩:=J.uncons;cases e;rw[ez,ih a b v p e1 g1 g3,ihl m r q e2 g2 g4];rfl
  intro a b x z h B J;unfold ny at h;split at h
  .rename_i l m;obtain⟨a,Y,rfl,q1,d1⟩:=B.tupE;obtain⟨b,ys,e,q2,d2⟩:=J.tupE;cases e;rw[<-hK]at q1 q2;rw[I.tuple_inj q2 q1]at d2;exact a0 l m Y z h d1 d2
  .rename_i p q;split at h
   .rename_i l m hl hm;obtain⟨Y,e1,d1⟩:=R.addr hl;obtain⟨ys,e2,d2⟩:=R.addr hm;have e:=B.refE.symm.trans J.refE;have e':=V.ref.inj e;rw[e',e2]at e1;have e3:=by injection (av e1)
    subst e3;split at h
    .exact a0 l m ys z h d1 d2
    .rename_i Z;exact iS (d1.length.symm.trans d2.length) Z
   .cases h
  .exact Uu a b x z h B J
end
variable {Γ:Gm}
inductive Vw (sh:af):Nat->Value->Prop where
 | N:Vw sh 0 .none
 | T (b:Bool):Vw sh 1 (.bool b)
 | int (i:Int) (t:Tok):Vw sh 1 (.int i t)
 | str (x:Str) (t:Tok):Vw sh 2 (.str x t)
 | tp {l:Addr} {items:yK} (h:sh.heap.IsTuple l items):Vw sh 3 (.ref l)
 | J {l:Addr} {items:yK} (h:sh.heap.IsList l items):Vw sh 4 (.ref l)
def Vw.eq (a:Vw sh k u)(b:Vw sh k' v)(z:k≠k')(hu:A.units<cLine):im A sh u v false:=by
 cases a with
 | N=>cases b with
  | N=>simp_all
  | T b=>exact SeqAt.EqAt.none_bool b
  | int i t=>exact jM i t
  | str x t=>exact jN x t
  | tp h=>exact iw h hu
  | J h=>exact SeqAt.EqAt.none_list h hu
 | T a=>cases b with
  | N=>exact SeqAt.EqAt.bool_none a
  | T b=>simp_all
  | int i t=>simp_all
  | str x t=>exact SeqAt.EqAt.bool_str a x t
  | tp h=>exact SeqAt.EqAt.bool_tuple a h hu
  | J h=>exact SeqAt.EqAt.bool_list a h hu
 | int a q=>cases b with
  | N=>exact jO a q
  | T b=>simp_all
  | int i t=>simp_all
  | str x t=>exact j0 a q x t
  | tp h=>exact iK a q h hu
  | J h=>exact SeqAt.EqAt.int_list a q h hu
 | str a q=>cases b with
  | N=>exact jP a q
  | T b=>exact SeqAt.EqAt.str_bool a q b
  | int i t=>exact j2 a q i t
  | str x t=>simp_all
  | tp h=>exact iL a q h hu
  | J h=>exact SeqAt.EqAt.str_list a q h hu
 | tp g=>cases b with
  | N=>exact iy g hu
  | T b=>exact SeqAt.EqAt.tuple_bool b g hu
  | int i t=>exact iM i t g hu
  | str x t=>exact iO x t g hu
  | tp h=>simp_all
  | J h=>exact SeqAt.EqAt.tuple_list g h hu
 | J g=>cases b with
  | N=>exact SeqAt.EqAt.list_none g hu
  | T b=>exact SeqAt.EqAt.list_bool b g hu
  | int i t=>exact SeqAt.EqAt.list_int i t g hu
  | str x t=>exact SeqAt.EqAt.list_str x t g hu
  | tp h=>exact SeqAt.EqAt.list_tuple g h hu
  | J h=>simp_all
def Vw.rc (a:Vw sh k u)(b:Vw sh k' v)(z:k≠k')(hu:A.units<cLine):mZ A sh u v false:=by
 cases a with
 | N=>cases b with
  | N=>simp_all
  | T b=>exact SeqAt.RcAt.none_bool b
  | int i t=>exact SeqAt.RcAt.none_int i t
  | str x t=>exact SeqAt.RcAt.none_str x t
  | tp h=>exact SeqAt.RcAt.none_tuple h hu
  | J h=>exact SeqAt.RcAt.none_list h hu
 | T a=>cases b with
  | N=>exact SeqAt.RcAt.bool_none a
  | T b=>simp_all
  | int i t=>simp_all
  | str x t=>exact SeqAt.RcAt.bool_str a x t
  | tp h=>exact SeqAt.RcAt.bool_tuple a h hu
  | J h=>exact SeqAt.RcAt.bool_list a h hu
 | int a q=>cases b with
  | N=>exact SeqAt.RcAt.int_none a q
  | T b=>simp_all
  | int i t=>simp_all
  | str x t=>exact SeqAt.RcAt.int_str a q x t
  | tp h=>exact SeqAt.RcAt.int_tuple a q h hu
  | J h=>exact SeqAt.RcAt.int_list a q h hu
 | str a q=>cases b with
  | N=>exact SeqAt.RcAt.str_none a q
  | T b=>exact SeqAt.RcAt.str_bool a q b
  | int i t=>exact SeqAt.RcAt.str_int a q i t
  | str x t=>simp_all
  | tp h=>exact SeqAt.RcAt.str_tuple a q h hu
  | J h=>exact SeqAt.RcAt.str_list a q h hu
 | tp g=>cases b with
  | N=>exact SeqAt.RcAt.tuple_none g hu
  | T b=>exact SeqAt.RcAt.tuple_bool b g hu
  | int i t=>exact SeqAt.RcAt.tuple_int i t g hu
  | str x t=>exact SeqAt.RcAt.tuple_str x t g hu
  | tp h=>simp_all
  | J h=>exact SeqAt.RcAt.tuple_list g h hu
 | J g=>cases b with
  | N=>exact SeqAt.RcAt.list_none g hu
  | T b=>exact SeqAt.RcAt.list_bool b g hu
  | int i t=>exact SeqAt.RcAt.list_int i t g hu
  | str x t=>exact SeqAt.RcAt.list_str x t g hu
  | tp h=>exact SeqAt.RcAt.list_tuple g h hu
  | J h=>simp_all
def Vw.ne (a:Vw sh k u)(b:Vw sh k' v)(z:k≠k')(hu:A.units<cLine):mz A sh u v true:=by
 cases a with
 | N=>cases b with
  | N=>simp_all
  | T b=>exact SeqAt.RcNeAt.none_bool b
  | int i t=>exact SeqAt.RcNeAt.none_int i t
  | str x t=>exact SeqAt.RcNeAt.none_str x t
  | tp h=>exact SeqAt.RcNeAt.none_tuple h hu
  | J h=>exact SeqAt.RcNeAt.none_list h hu
 | T a=>cases b with
  | N=>exact SeqAt.RcNeAt.bool_none a
  | T b=>simp_all
  | int i t=>simp_all
  | str x t=>exact SeqAt.RcNeAt.bool_str a x t
  | tp h=>exact SeqAt.RcNeAt.bool_tuple a h hu
  | J h=>exact SeqAt.RcNeAt.bool_list a h hu
 | int a q=>cases b with
  | N=>exact SeqAt.RcNeAt.int_none a q
  | T b=>simp_all
  | int i t=>simp_all
  | str x t=>exact SeqAt.RcNeAt.int_str a q x t
  | tp h=>exact SeqAt.RcNeAt.int_tuple a q h hu
  | J h=>exact SeqAt.RcNeAt.int_list a q h hu
 | str a q=>cases b with
  | N=>exact SeqAt.RcNeAt.str_none a q
  | T b=>exact SeqAt.RcNeAt.str_bool a q b
  | int i t=>exact SeqAt.RcNeAt.str_int a q i t
  | str x t=>simp_all
  | tp h=>exact SeqAt.RcNeAt.str_tuple a q h hu
  | J h=>exact SeqAt.RcNeAt.str_list a q h hu
 | tp g=>cases b with
  | N=>exact SeqAt.RcNeAt.tuple_none g hu
  | T b=>exact SeqAt.RcNeAt.tuple_bool b g hu
  | int i t=>exact SeqAt.RcNeAt.tuple_int i t g hu
  | str x t=>exact SeqAt.RcNeAt.tuple_str x t g hu
  | tp h=>simp_all
  | J h=>exact SeqAt.RcNeAt.tuple_list g h hu
 | J g=>cases b with
  | N=>exact SeqAt.RcNeAt.list_none g hu
  | T b=>exact SeqAt.RcNeAt.list_bool b g hu
  | int i t=>exact SeqAt.RcNeAt.list_int i t g hu
  | str x t=>exact SeqAt.RcNeAt.list_str x t g hu
  | tp h=>exact SeqAt.RcNeAt.list_tuple g h hu
  | J h=>simp_all
def bU4 (a b:List Nat):((⟨a.toArray⟩:Str)==⟨b.toArray⟩)=(a==b):=by
 lia
structure Cmp (A:aV)(sh:af)(u v:Value)(z:Bool):Prop where
 rc:mZ A sh u v z
 ne:mz A sh u v (!z)
section
variable {X:Cx} {pins:yA} {W:St} {H:Hp} {sh:af} {C:Nat->Addr} {s:m9}
def bV0 (I:Inv X pins W H sh)(hK:X.K=Γ.K)(R:Rp Γ C H s)(h:RV Γ C H d x)(r:RelV x u)(hk:nM s d≠9):Vw sh (nM s d) u:=by
 cases d with
 | N=>have e:=h.nonE;subst e;cases r;exact .N
 | T b=>have e:=h.blE;subst e;cases r;exact .T b
 | int i=>have e:=h.intE;subst e;obtain⟨t,rfl⟩:=r;exact .int i t
 | str y=>have e:=h.strE;subst e;obtain⟨t,rfl⟩:=r;exact .str _ t
 | tp l =>
  obtain⟨a,z,e,q,_⟩:=h.tupE;subst e;cases r;rw[<-hK]at q;obtain⟨its,_,t,_⟩:=I.tuple q;exact .tp t
 | ref n =>
  have e:=h.refE;subst e;cases r;have hk:(match s[n]? with|some (DV.O.J l)=>4|_=>9:Nat)≠9:=hk;show Vw sh (match s[n]? with|some (DV.O.J l)=>4|_=>9:Nat) _;cases hs:s[n]? with
  | none=>simp_all
  | some o =>
   rw[hs]at hk;cases o with
   | J l =>
    obtain⟨z,e,_⟩:=R.addr hs;obtain⟨its,_,t,_⟩:=I.list (SqL.of e);exact .J t.isList
   | _=>simp_all
 | fn _=>exact iS rfl hk
 | clo _ _=>exact iS rfl hk
def aE5 (I:Inv X pins W H sh)(hK:X.K=Γ.K)(R:Rp Γ C H s)(h:nV s a b=al z)(B:RV Γ C H a x)(Uu:RV Γ C H b y)(r1:RelV x u)(J:RelV y v)(hu:A.units<cLine) :
  im A sh u v z/\Cmp A sh u v z:=by
 rcases jo h with h|⟨_,hn,hz⟩
 .cases a<;>cases b<;>try cases h
  .cases B.nonE;cases Uu.nonE;cases r1;cases J;exact⟨eO _,SeqAt.RcAt.none_none,SeqAt.RcNeAt.none_none⟩
  .cases B.blE;cases Uu.blE;cases r1;cases J;exact⟨SeqAt.EqAt.bool_bool _ _,SeqAt.RcAt.bool_bool _ _,SeqAt.RcNeAt.bool_bool _ _⟩
  .cases B.blE;cases Uu.intE;cases r1;obtain⟨t',rfl⟩:=J;exact⟨SeqAt.EqAt.bool_int _ _ _,SeqAt.RcAt.bool_int _ _ _,SeqAt.RcNeAt.bool_int _ _ _⟩
  .cases B.intE;cases Uu.blE;obtain⟨t,rfl⟩:=r1;cases J;exact⟨SeqAt.EqAt.int_bool _ _ _,SeqAt.RcAt.int_bool _ _ _,SeqAt.RcNeAt.int_bool _ _ _⟩
  .cases B.intE;cases Uu.intE;obtain⟨t,rfl⟩:=r1;obtain⟨t',rfl⟩:=J;exact⟨SeqAt.EqAt.int_int _ _ _ _,SeqAt.RcAt.int_int _ _ _ _,SeqAt.RcNeAt.int_int _ _ _ _⟩
  .cases B.strE;cases Uu.strE;obtain⟨t,rfl⟩:=r1;obtain⟨t',rfl⟩:=J;rw[<-bU4];exact⟨SeqAt.EqAt.str_str _ _ _ _,SeqAt.RcAt.str_str _ _ _ _,SeqAt.RcNeAt.str_str _ _ _ _⟩
 .subst hz;unfold oE at hn;simp only[i4,beq_eq_false_iff_ne]at hn;have Y:=bV0 I hK R B r1 hn.1.1;have w2:=bV0 I hK R Uu J hn.1.2;exact⟨Y.eq w2 hn.2 hu,Y.rc w2 hn.2 hu,Y.ne w2 hn.2 hu⟩
set_option tactic.hygienic true in
def bc4 (I:Inv X pins W H sh)(hK:X.K=Γ.K)(R:Rp Γ C H s):∀ n   a b   x y   u v   A   z ,ny s n a b=al z->RV Γ C H a x->RV Γ C H b y->RelV x u->RelV y v->Room n A ->
  im A sh u v z/\Cmp A sh u v z:=by
 intro n
 induction n with
 | zero=>intro a b x y u v A z h Z h2 r1 r2 hr;unfold ny at h;exact aE5 I hK R h Z h2 r1 r2 hr.units0
 | succ n ih =>
  have B:∀ {l m:List ng} {xs ys:List V} {its its':yH} {A:aV} {e:Nat->Bool},RVL Γ C H l xs->RVL Γ C H m ys->Vals xs its->Vals ys its'->Room n A->(∀ j d d',l[j]?=al d->m[j]?=al d'->ny s n d d'=al (e j)) ->
    ∀ j (Z:j<its.toArray.size) (h2:j<its'.toArray.size),im A sh its.toArray[j] its'.toArray[j] (e j):=by
   intro l m xs ys its its' A e d1 Uu v1 Y hr he j Z h2;have l1:=v1.length;have l2:=Y.length;have e1:=d1.length;have e2:=Uu.length;have a4:=by simpa using Z
   have a3:=by simpa using h2
   have hj:j<l.length:=by lia
   have a1:j<m.length:=by lia
   obtain⟨x,ex,dx⟩:=d1.get (au hj);obtain⟨y,ey,dy⟩:=Uu.get (au a1);obtain⟨u,eu,ru⟩:=v1.get ex;obtain⟨w,ew,a2⟩:=Y.get ey;have g1:its.toArray[j]=u:=by
    have:=au a4;rw[eu]at this;simpa using(av this).symm
   have g2:its'.toArray[j]=w:=by
    have:=au a3;rw[ew]at this;simpa using(av this).symm
   rw[g1,g2];exact(ih _ _ x y u w A (e j) (he j _ _ (au hj) (au a1)) dx dy ru a2 hr).1
  intro a b x y u v A z h Z h2 r1 r2 hr;have hz:=h;unfold ny at h;split at h
  .rename_i l m;obtain⟨p,xs,ex,q1,d1⟩:=id Z.tupE;obtain⟨q,ys,ey,q2,Uu⟩:=id h2.tupE;subst ex;subst ey;cases r1;cases r2;rw[<-hK]at q1 q2;obtain⟨its,v1,t1,_⟩:=I.tuple q1;obtain⟨its',Y,t2,_⟩:=I.tuple q2;obtain⟨e,he,hall⟩:=aX3 h;have l1:=v1.length;have l2:=Y.length;have e1:=d1.length;have e2:=Uu.length;have sz:((am (min its.toArray.size its'.toArray.size)).all e&&its.toArray.size==its'.toArray.size)=z:=by
    rw[<-hall,Bool.and_comm,show its.toArray.size=l.length by simp;lia,show its'.toArray.size=m.length by simp;lia]
   have key:=kj t1 t2 hr.units0 (B d1 Uu v1 Y hr.in1 he);have J:=SeqAt.RcNeAt.tuples t1 t2 hr.units0 (B d1 Uu v1 Y hr.in1 he);rw[sz]at key J;refine⟨?_,key,J⟩;by_cases hab:p=q
   .subst hab;rw[aN8 I hK R _ _ _ _ _ hz Z h2];exact eO _
   .exact f9 hab key
  .rename_i p q;split at h
   .rename_i l m hl hm;obtain⟨xs,e1,d1⟩:=R.addr hl;obtain⟨ys,e2,Uu⟩:=R.addr hm;have ex:=Z.refE;have ey:=h2.refE;subst ex;subst ey;cases r1;cases r2;obtain⟨its,v1,t1,_⟩:=I.list (SqL.of e1);obtain⟨its',Y,t2,_⟩:=I.list (SqL.of e2);have l1:=v1.length;have l2:=Y.length;have c1:=d1.length;have c2:=Uu.length;have fin:Cmp A sh (.ref (C p)) (.ref (C q)) z:=by
     split at h
     .rename_i a0;obtain⟨e,he,hall⟩:=aX3 h;have sz:(am its.toArray.size).all e=z:=by
       rw[<-hall,show its.toArray.size=l.length by simp;omega,a0];simp
      have key:=SeqAt.RcAt.lists t1.isList t2.isList (by simp;lia) hr.units0 (B d1 Uu v1 Y hr.in1 he);have J:=SeqAt.RcNeAt.lists (s:=sh) (e:=e) t1.isList t2.isList (by simp;omega) hr.units0 (B d1 Uu v1 Y hr.in1 he);rw[sz]at key J;exact⟨key,J⟩
     .rename_i a0;cases h;have hs:(its.toArray.size != its'.toArray.size)=true:=by simp;lia
      exact⟨SeqAt.RcAt.lists_lengths t1.isList t2.isList hs hr.units0,SeqAt.RcNeAt.lists_lengths t1.isList t2.isList hs hr.units0⟩
    refine⟨?_,fin⟩;by_cases hab:C p=C q
    .rw[aN8 I hK R _ _ _ _ _ hz RV.refI (by rw[hab];exact RV.refI),hab];exact eO _
    .exact f9 hab fin.rc
   .cases h
  .exact aE5 I hK R h Z h2 r1 r2 hr.units0
end
variable {Γ:Gm} {X:Cx}
noncomputable def cn6:pz->lF
 | .add=>.Add|.sub=>.Sub|.mul=>.Mult|.fdiv=>.FloorDiv|.mod=>.Mod|.pow=>.Pow|.shl=>.LShift|.shr=>.RShift|.band=>.BitAnd|.bor=>.BitOr
noncomputable def bD0:o8->CmpOp
 | .eq=>.Eq|.ne=>.NotEq|.lt=>.Lt|.le=>.LtE|.gt=>.Gt|.ge=>.GtE|.isin=>.In|.notin=>.NotIn
def rOp (Γ:Gm)(f:ng->ng->m9->nk ng):R2:=λ x y H Q=>∃ C s a b d s',Rp Γ C H s/\RV Γ C H a x/\RV Γ C H b y/\a.bnd s.length=bY/\b.bnd s.length=bY/\f a b s=.ok d s'/\af8 Γ C s H d s' Q
def jg (h:o9 d s=.ok e t):d=e/\s=t:=by
 unfold o9 at h;lia
def qr (h:ow o s=.ok e t):e=.ref s.length/\t=s++[o]:=by
 unfold ow at h;lia
def be7 (a b:List Nat):(⟨a.toArray⟩:Str)++⟨b.toArray⟩=⟨(a++b).toArray⟩:=by
 show Str.append _ _=_;unfold Str.append;simp
def qj:nv<=a7:=by rw[fK];decide
def bM3:OpR X (eJ .Mult) (rI (λ i j=>DV.mulOk i j=bY) λ i j=>.int (i*j)):=opI λ i j _ _ _ _ _ hc q=>mul_int q (by
 unfold DV.mulOk at hc;simp only[b7,ae,li]at hc;rcases hc with(h|h)|⟨z,B⟩
 .exact ch1.ok (.inl (by omega))
 .exact ch1.ok (.inr (by omega))
 .unfold DV.BIG at z B;exact IntMulOk.of_le (intBits_le_iff.mpr z) (intBits_le_iff.mpr B) (by decide))
def bp6 (hx:0<=x)(hy:0<=y):gO x y=((x.toNat ||| y.toNat)):=by
 have nn:∀ z:Int,fw (fw z)=z:=λ z=>by unfold fw;lia
 unfold gO;rw[bitAnd_nn (by unfold fw;lia) (by unfold fw;lia),nn,nn,nn]
set_option tactic.hygienic true in
def bQ8 (hK:X.K=Γ.K) op :OpR X (eJ (cn6 op)) (rOp Γ (DV.al8 op)):=by
 intro B s W H x y v u Q I Uu Y h;obtain⟨C,st,a,b,d,a0,R,ha,hb,na,nb,z,q⟩:=h;cases op with
 | add =>
  cases a with
  | int a =>
   cases b with
   | int b =>
    skip
    obtain⟨rfl,rfl⟩:=jg z;have ex:=ha.intE;have J:=hb.intE;subst ex;subst J;exact bX4 B s W H _ _ v u Q I Uu Y ⟨_,_,rfl,rfl,q.here R rfl RV.intI⟩
   | _=>exact fb z
  | str a =>
   cases b with
   | str b =>
    change(if _ then _ else _:pw ng) st=_ at z;split at z
    .rename_i Z;obtain⟨rfl,rfl⟩:=jg z;have ex:=ha.strE;have J:=hb.strE;subst ex;subst J;refine aS1 B s W H _ _ v u Q I Uu Y ⟨_,_,rfl,rfl,?_,?_⟩
     .show a.toArray.size+b.toArray.size<=_;simp only[aJ];exact aq Z qj
     .rw[be7];exact q.here R rfl (RV.strI (by simp_all))
    .exact fb z
   | _=>exact fb z
  | ref a =>
   cases b with
   | ref b =>
    change(match st[a]?,st[b]? with|some (DV.O.J l),al (DV.O.J m)=>if l.length+m.length<=nv then ow (.J (l++m)) st else .B|_,_=>.B)=_ at z;split at z
    .rename_i l m h1 h2;split at z
     .rename_i Z;obtain⟨rfl,rfl⟩:=qr z;obtain⟨xs,e1,d1⟩:=R.addr h1;obtain⟨ys,e2,d2⟩:=R.addr h2;have ex:=ha.refE;have J:=hb.refE;subst ex;subst J;have b1:=R.wf _ _ h1;have b2:=R.wf _ _ h2;unfold nu at b1 b2;refine bS7 B s W H _ _ v u Q I Uu Y ⟨C a,C b,xs,ys,rfl,rfl,e1,e2,?_,λ p hp=>?_⟩
      .rw[d1.length,d2.length];exact aq Z qj
      .exact q.alloc R (d1.append d2) (qJ b1 b2) hp
     .exact fb z
    .exact fb z
   | _=>exact fb z
  | _=>exact fb z
 | sub =>
  cases a with
  | int a =>
   cases b with
   | int b =>
    skip
    obtain⟨rfl,rfl⟩:=jg z;have ex:=ha.intE;have J:=hb.intE;subst ex;subst J;exact bX1 B s W H _ _ v u Q I Uu Y ⟨_,_,rfl,rfl,q.here R rfl RV.intI⟩
   | _=>exact fb z
  | _=>exact fb z
 | mul =>
  cases a with
  | int a =>
   cases b with
   | int b =>
    change(if _ then _ else _:pw ng) st=_ at z;split at z
    .rename_i hc;obtain⟨rfl,rfl⟩:=jg z;have ex:=ha.intE;have J:=hb.intE;subst ex;subst J;exact bM3 B s W H _ _ v u Q I Uu Y ⟨_,_,rfl,rfl,hc,q.here R rfl RV.intI⟩
    .exact fb z
   | _=>exact fb z
  | _=>exact fb z
 | fdiv =>
  cases a with
  | int a =>
   cases b with
   | int b =>
    change(if _ then _ else _:pw ng) st=_ at z;split at z
    .rename_i hc;obtain⟨rfl,rfl⟩:=jg z;have ex:=ha.intE;have J:=hb.intE;subst ex;subst J;refine bn3 B s W H _ _ v u Q I Uu Y ⟨_,_,rfl,rfl,⟨hc.1,?_⟩,q.here R rfl RV.intI⟩;have:=hc.2;unfold DV.DIVL at this;simpa using this
    .exact fb z
   | _=>exact fb z
  | _=>exact fb z
 | mod =>
  cases a with
  | int a =>
   cases b with
   | int b =>
    change(if _ then _ else _:pw ng) st=_ at z;split at z
    .rename_i hc;obtain⟨rfl,rfl⟩:=jg z;have ex:=ha.intE;have J:=hb.intE;subst ex;subst J;exact bY2 B s W H _ _ v u Q I Uu Y ⟨_,_,rfl,rfl,hc,q.here R rfl RV.intI⟩
    .exact fb z
   | _=>exact fb z
  | _=>exact fb z
 | pow =>
  cases a with
  | int a =>
   cases b with
   | int b =>
    change(if _ then _ else _:pw ng) st=_ at z;split at z
    .rename_i hc;obtain⟨rfl,rfl⟩:=jg z;have ex:=ha.intE;have J:=hb.intE;subst ex;subst J;exact cb0 B s W H _ _ v u Q I Uu Y ⟨_,_,rfl,rfl,hc,q.here R rfl RV.intI⟩
    .exact fb z
   | _=>exact fb z
  | _=>exact fb z
 | shl=>exact fb z
 | shr=>exact fb z
 | band=>exact fb z
 | bor =>
  cases a with
  | int a =>
   cases b with
   | int b =>
    change(if _ then _ else _:pw ng) st=_ at z;split at z
    .rename_i hc;obtain⟨rfl,rfl⟩:=jg z;have ex:=ha.intE;have J:=hb.intE;subst ex;subst J;exact cl9 B s W H _ _ v u Q I Uu Y ⟨_,_,rfl,rfl,by show Q (V.int (gO a b)) H;rw[bp6 hc.1 hc.2];exact q.here R rfl RV.intI⟩
    .exact fb z
   | _=>exact fb z
  | _=>exact fb z
variable {Γ:Gm} {X:Cx} {pins:yA} {W:St} {H:Hp} {sh:af} {C:Nat->Addr} {s:m9}
set_option tactic.hygienic true in
def aL8 (h:ny s n a b=al z):nM s a≠9:=by
 cases n with
 | zero=>unfold ny at h;exact(ah7 h).1
 | succ n =>
  unfold ny at h;split at h
  .simp[nM]
  .split at h
   .rename_i B _;simp[nM,B]
   .cases h
  .exact(ah7 h).1
def aX2 (I:Inv X pins W H sh)(hK:X.K=Γ.K)(R:Rp Γ C H s):∀ n   a b c   x   p q ,RV Γ C H a x->RV Γ C H b x->ny s n a c=al p->ny s n b c=al q->p=q:=by
 intro n
 induction n with
 | zero =>
  intro a b c x p q z h e1 e2;rcases rv_two I hK R z h (aL8 e1) (aL8 e2)with e|⟨l,m,_,_,rfl,rfl,_⟩
  .subst e;rw[e1]at e2;exact av e2
  .unfold ny at e1 e2;have:nV s (.tp l) c=nV s (.tp m) c:=by unfold nV;cases c<;>rfl
   rw[this,e2]at e1;exact(av e1).symm
 | succ n ih =>
  have J:∀ l m k   B   p q ,RVL Γ C H l B->RVL Γ C H m B->nK (ny s n) l k=al p->nK (ny s n) m k=al q->p=q:=by
   intro l
   induction l with
   | nil =>
    intro m k B p q z h e1 e2;have:=z.unnil;subst this;have Y:=by have:=h.length;exact eW.mp this.symm
    subst Y;rw[e1]at e2;exact av e2
   | cons a l ihl =>
    intro m k B p q z h e1 e2;obtain⟨x,r,rfl,g1,g2⟩:=z.uncons;cases m with
    | nil=>have:=h.unnil;cases this
    | cons b m =>
     obtain⟨x',r',e,Uu,Z⟩:=h.uncons;cases e;cases k with
     | nil=>unfold nK at e1 e2;rw[<-av e1,<-av e2]
     | cons c k =>
      obtain⟨p1,p2,a1,a2,a3⟩:=am1 e1;obtain⟨q1,q2,b1,b2,b3⟩:=am1 e2;rw[a3,b3,ih a b c x p1 q1 g1 Uu a1 b1,ihl m k r p2 q2 g2 Z a2 b2]
  intro a b c x p q z h e1 e2;rcases rv_two I hK R z h (aL8 e1) (aL8 e2)with e|⟨l,m,_,B,rfl,rfl,_,d1,d2⟩
  .subst e;rw[e1]at e2;exact av e2
  .cases c with
   | tp k=>unfold ny at e1 e2;exact J l m k B p q d1 d2 e1 e2
   | _ =>
    unfold ny at e1 e2;simp only at e1 e2;have e3:nV s (.tp l)=nV s (.tp m):=by funext c;unfold nV;cases c<;>rfl
    rw[e3]at e1;exact av (e1.symm.trans e2)
theorem by3 :∀ {l} {z},oF s x l=al z->∃ e:Nat->Bool,(∀ j d,l[j]?=al d->ny s nF d x=al (e j))/\(z=bY↔∃ j,j<l.length/\e j=bY)
 | [],z,h=>by
  unfold oF at h
  simp_all
 | y::l,z,h=>by
  unfold oF at h;cases e1:ny s nF y x with
  | none=>simp_all
  | some a =>
   cases e2:oF s x l with
   | none=>simp_all
   | some b =>
    rw[e1,e2]at h;obtain⟨e,B,J⟩:=by3 e2;refine⟨λ j=>match j with|0=>a|j+1=>e j,λ j d g=>?_,?_⟩
    .cases j with
     | zero=>simp at g;subst g;exact e1
     | succ j=>exact B j d (by simpa using g)
    .have hz:=av h;rw[<-hz,b7,J];constructor
     .rintro(q|⟨j,hj,q⟩)
      .exact⟨0,by simp,q⟩
      .exact⟨j+1,by simp_all,q⟩
     .rintro⟨j,hj,q⟩
      cases j with
      | zero=>exact .inl q
      | succ j=>exact .inr ⟨j,by simpa using hj,q⟩
def bY5 (I:Inv X pins W H sh)(hK:X.K=Γ.K)(R:Rp Γ C H s)(hx:RV Γ C H x xv)(rx:RelV xv xu){its:yH}(hl:RVL Γ C H l ys)(hv:Vals ys its)(h:oF s x l=al z)(hr:Room nF A) :
  ∃ e:Value->Bool,(∀ y,y∈its.toArray->im A sh y xu (e y))/\its.toArray.any e=z:=by
 obtain⟨e,Z,h2⟩:=by3 h;have len:its.length=l.length:=by rw[<-hv.length];exact hl.length
 have B:∀ j u,its[j]?=al u->∃ d y,l[j]?=al d/\ys[j]?=al y/\RV Γ C H d y/\RelV y u:=λ j u g=>by
  have hj:j<l.length:=by rw[<-len];exact(ag.mp g).1
  obtain⟨y,g1,g2⟩:=hl.get (au hj);obtain⟨u',J,Y⟩:=hv.get g1;rw[g]at J;cases J;exact⟨_,y,au hj,g1,g2,Y⟩
 classical
 let f:Value->Bool:=λ u=>decide (∃ j,its[j]?=al u/\e j=bY)
 have hf:∀ j u,its[j]?=al u->f u=e j:=λ j u g=>by
  obtain⟨d,y,g1,g2,J,Y⟩:=B j u g;cases q:e j with
  | true=>exact ij ⟨j,g,q⟩
  | false =>
   refine iF λ⟨k,g',q'⟩=>?_;obtain⟨d',y',k1,k2,k3,k4⟩:=B k u g';have ey:y'=y:=k4.inj Y;subst ey;have:=aX2 I hK R _ d d' x _ _ _ J k3 (Z j d g1) (Z k d' k1);lia
 refine⟨f,λ u hu=>?_,?_⟩
 .obtain⟨j,hj,g⟩:=d6.mp (by simp_all:u∈its);have g':its[j]?=al u:=by rw[au hj,g]
  obtain⟨d,y,g1,g2,J,Y⟩:=B j u g';rw[hf j u g'];exact(bc4 I hK R _ d x y xv u xu A _ (Z j d g1) J hx Y rx hr).1
 .have e1:its.toArray.any f=bY↔z=true:=by
   rw[h2,List.any_toArray,kX];constructor
   .rintro⟨u,hu,q⟩
    obtain⟨j,hj,g⟩:=d6.mp hu;have g':its[j]?=al u:=by rw[au hj,g]
    exact⟨j,by lia,by rw[<-hf j u g'];exact q⟩
   .rintro⟨j,hj,q⟩
    have Uu:j<its.length:=by lia
    exact⟨its[j],List.getElem_mem Uu,by rw[hf j _ (au Uu)];exact q⟩
  cases z<;>cases q:its.toArray.any f
  .rfl
  .have:=e1.mp q;cases this
  .rw[q]at e1;have:=e1.mpr rfl;cases this
  .rfl
variable {Γ:Gm} {X:Cx}
def aa1 {r:nk α}{b:β}(h:r.bind f=.ok b t):∃ a s,r=.ok a s/\f a s=.ok b t:=DV.R.bind_inv h
set_option tactic.hygienic true in
def by1 (hK:X.K=Γ.K)(hr:Room (nF+1) X.A)(neg:Bool){st }
  (I:Inv X J W H sh) (rx:RelV x v) (ry:RelV y u) (R:Rp Γ C H st) (ha:RV Γ C H a x) (hb:RV Γ C H b y) (h:pd a b st=.ok z Uu) :
  Uu=st/\∀ Q:Value->af->Prop,(∀ a0,Inv X J W H a0->Q (.bool (if neg then !z else z)) a0)->wpAny (model X.prog X.w) X.A (dP (if neg then .NotIn else .In) v u) Q X.xe sh:=by
 unfold pd at h;cases b with
 | ref r =>
  simp only at h;cases hs:st[r]? with
  | none=>rw[hs]at h;cases h
  | some o =>
   rw[hs]at h;cases o with
   | J l =>
    simp only at h;cases e:oF st a l with
    | none=>rw[e]at h;cases h
    | some w =>
     rw[e]at h;cases h;obtain⟨ys,e1,d⟩:=R.addr hs;have Z:=hb.refE;subst Z;cases ry;obtain⟨its,rv,t,_⟩:=I.list (SqL.of e1);obtain⟨f,h1,h2⟩:=bY5 I hK R ha rx d rv e (A:=X.A.in1) hr.in1;refine⟨rfl,λ Q hq=>?_⟩;cases neg with
     | false=>exact SeqAt.in_listAt f t.isList h1 (by rw[h2];exact hq _ I)
     | true=>exact SeqAt.notIn_listAt f t.isList h1 (by rw[h2];exact hq _ I)
   | dc l =>
    simp only at h;split at h
    case isFalse=>exact fb h
    rename_i B;cases h;obtain⟨k,hk⟩:=an1 B;obtain⟨kvs,e1,d⟩:=R.obj r _ hs;have Z:=hb.refE;subst Z;cases ry;have ex:=aO0 hk ha;subst ex;have ez:(nJ a l).isSome=(aF5 kvs k).isSome:=by
     rcases d.val keyOf_inj hk with⟨q1,q2⟩|⟨_,_,q1,q2,_⟩<;>rw[q1,q2]<;>rfl
    refine⟨rfl,λ Q hq=>?_⟩;rw[ez]at hq;cases neg with
    | false=>exact cr9 (at9 hr) I (aF4.k e1) rx hq
    | true=>exact bd6 (at9 hr) I (aF4.k e1) rx hq
   | dit l =>
    simp only at h;split at h
    case isFalse=>exact fb h
    rename_i B;cases h;obtain⟨k,hk⟩:=as0 B;obtain⟨kvs,e1,d⟩:=R.obj r _ hs;have Z:=hb.refE;subst Z;cases ry;obtain⟨kb,ex,Y⟩:=aF7 hk ha;subst ex;have ez:(nJ a l).isSome=(aF5 kvs k).isSome:=by
     rcases d.val keyT_inj hk with⟨q1,q2⟩|⟨_,_,q1,q2,_⟩<;>rw[q1,q2]<;>rfl
    refine⟨rfl,λ Q hq=>?_⟩;rw[ez]at hq;cases neg with
    | false=>exact cr9 (at9 hr) I (aF4.t e1 Y) rx hq
    | true=>exact bd6 (at9 hr) I (aF4.t e1 Y) rx hq
   | ro l=>exact fb h
   | ins c l=>exact fb h
   | dicF l=>exact fb h
 | _=>exact fb h
def cf3 {st }(h:DV.js .le a b st=.ok d z):∃ i j,a=.int i/\b=.int j:=by
 cases a with
 | int i =>
  (cases b with
  | int j=>exact⟨i,j,rfl,rfl⟩
  | _=>exact fb h)
 | _=>exact fb h
def aB4 (h:DV.bo5 a=al (i,x)):a=.tp [.int i,.str x]:=by
 unfold DV.bo5 at h;split at h
 .cases h;rfl
 .cases h
set_option tactic.hygienic true in
def bt6 {st }(h:DV.cq7 f a b st=.ok d z):∃ i x j y,a=.tp [.int i,.str x]/\b=.tp [.int j,.str y]:=by
 unfold DV.cq7 at h;split at h
 .rename_i i x j y e1 e2;exact⟨i,x,j,y,aB4 e1,aB4 e2⟩
 .exact fb h
def ord_inv {st }(ho:op=.lt\/op=.gt\/op=.ge)(h:DV.js op a b st=.ok d z):(∃ i j,a=.int i/\b=.int j)\/∃ i x j y,a=.tp [.int i,.str x]/\b=.tp [.int j,.str y]:=by
 rcases ho with rfl|rfl|rfl <;>
 (cases a with
 | int i =>
  (cases b with
  | int j=>exact .inl ⟨i,j,rfl,rfl⟩
  | _=>exact fb h)
 | tp l =>
  (cases b with
  | tp m=>first|exact .inr (bt6 h)|exact fb h
  | _=>exact fb h)
 | _=>exact fb h)
section
variable {pins:yA} {sh:af} {W:St} {H:Hp} {C:Nat->Addr} {st:m9}
end
def bS6 (hK:X.K=Γ.K)(hr:Room (nF+1) X.A) op :OpR X (dP (bD0 op)) (rOp Γ (DV.js op)):=by
 intro J s W H x y v u Q I Y Z h;obtain⟨C,st,a,b,d,Uu,R,ha,hb,na,nb,B,q⟩:=h;cases op with
 | eq =>
  have B:DV.eqM a b st=.ok d Uu:=B;unfold DV.eqM at B;cases e:ny st nF a b with
  | none=>simp_all
  | some z =>
   rw[e]at B;cases B;exact(bc4 I hK R _ a b x y v u X.A z e ha hb Y Z (hr.mono (by lia))).2.rc X.prog X.w X.xe _ ⟨.T z,H,I,rfl,q.here R rfl RV.blI⟩
 | ne =>
  have B:(match ny st nF a b with|some r=>.ok (.T (!r)) st|none=>.B:nk ng)=.ok d Uu:=B;cases e:ny st nF a b with
  | none=>simp_all
  | some z =>
   rw[e]at B;cases B;exact(bc4 I hK R _ a b x y v u X.A z e ha hb Y Z (hr.mono (by omega))).2.ne X.prog X.w X.xe _ ⟨.T (!z),H,I,rfl,q.here R rfl RV.blI⟩
 | lt =>
  rcases ord_inv (.inl rfl) B with⟨i,j,rfl,rfl⟩|⟨i,x0,j,y0,rfl,rfl⟩
  .cases B;have ex:=ha.intE;have ey:=hb.intE;subst ex;subst ey;exact cm9 J s W H _ _ v u Q I Y Z ⟨_,_,rfl,rfl,q.here R rfl RV.blI⟩
  .exact fb B
 | le =>
  refine wl λ _ ua=>?_;obtain⟨i,j,rfl,rfl⟩:=cf3 B;cases B;have ex:=ha.intE;have ey:=hb.intE;subst ex;subst ey;exact ua $ ci5 J s W H _ _ v u Q I Y Z ⟨_,_,rfl,rfl,q.here R rfl RV.blI⟩
 | gt =>
  rcases ord_inv (.inr (.inl rfl)) B with⟨i,j,rfl,rfl⟩|⟨i,x0,j,y0,rfl,rfl⟩
  .cases B;have ex:=ha.intE;have ey:=hb.intE;subst ex;subst ey;exact cj8 J s W H _ _ v u Q I Y Z ⟨_,_,rfl,rfl,q.here R rfl RV.blI⟩
  .exact fb B
 | ge =>
  rcases ord_inv (.inr (.inr rfl)) B with⟨i,j,rfl,rfl⟩|⟨i,x0,j,y0,rfl,rfl⟩
  .cases B;have ex:=ha.intE;have ey:=hb.intE;subst ex;subst ey;exact ci9 J s W H _ _ v u Q I Y Z ⟨_,_,rfl,rfl,q.here R rfl RV.blI⟩
  .exact fb B
 | isin =>
  have B:=B;obtain⟨z,s1,e1,e2⟩:=aa1 B;obtain⟨rfl,w⟩:=by1 hK hr ce I Y Z R ha hb e1;cases e2;exact w _ λ s' I'=>⟨.T z,H,I',rfl,q.here R rfl RV.blI⟩
 | notin =>
  have B:=B;obtain⟨z,s1,e1,e2⟩:=aa1 B;obtain⟨rfl,w⟩:=by1 hK hr bY I Y Z R ha hb e1;cases e2;exact w _ λ s' I'=>⟨.T (!z),H,I',rfl,q.here R rfl RV.blI⟩
def bf6 (h:RVL Γ C H l z)(e:((oy l.length i).bind λ j=>l[j]?)=al d):∃ v,atI z i=al v/\RV Γ C H d v:=by
 cases hj:oy l.length i with
 | none=>simp_all
 | some j =>
  rw[hj]at e;obtain⟨v,e1,e2⟩:=h.get (e);refine⟨v,?_,e2⟩;unfold atI;have:ixN z.length i=al j:=by rw[h.length];exact hj
  simp_all
def aI6 {l:List ng}(e:((oy l.length i).bind λ j=>l[j]?)=al d):d∈l:=by
 cases hj:oy l.length i with
 | none=>simp_all
 | some j=>rw[hj]at e;exact aE (e)
set_option tactic.hygienic true in
def ck5 (hK:X.K=Γ.K)(hu:X.A.units+2<cLine):IxR X (rOp Γ DV.ixM):=by
 intro J B Uu s W H x y v u Q I rx ry h hs;obtain⟨C,st,a,b,d,a2,R,ha,hb,na,nb,z,q⟩:=h;unfold DV.ixM at z;cases a with
 | tp l =>
  cases b with
  | int i =>
   simp only at z;split at z
   .rename_i d' e;cases z;obtain⟨p,xs,rfl,h1,d1⟩:=ha.tupE;have Y:=hb.intE;subst Y;obtain⟨w,e1,e2⟩:=bf6 d1 e;unfold nr at na;exact bH8 hK J B Uu s W H _ _ v u Q I rx ry ⟨p,xs,i,w,rfl,rfl,h1,e1,q.here R (ab3.mp na _ (aI6 e)) e2⟩ hs
   simp_all
  | _=>exact fb z
 | str l =>
  cases b with
  | int i =>
   simp only at z;split at z
   .rename_i c e;cases z;have hl:=ha.strL;have ex:=ha.strE;have Y:=hb.intE;subst ex;subst Y;exact ix_str J B Uu s W H _ _ v u Q I rx ry ⟨⟨l.toArray⟩,i,c,rfl,rfl,by show l.toArray.size<=_;rw[aJ];exact aq hl qj,e,q.here R rfl (RV.strI (by simp;decide))⟩ hs
   simp_all
  | _=>exact fb z
 | ref r =>
  have ex:=ha.refE;subst ex;simp only at z;cases hsr:st[r]? with
  | none=>simp_all
  | some o =>
   rw[hsr]at z;cases o with
   | J l =>
    cases b with
    | int i =>
     simp only at z;split at z
     .rename_i d' e;cases z;have Y:=hb.intE;subst Y;obtain⟨xs,e1,d1⟩:=R.addr hsr;obtain⟨w,e2,e3⟩:=bf6 d1 e;have wf:=R.wf _ _ hsr;unfold nu at wf;exact aL0 hK J B Uu s W H _ _ v u Q I rx ry ⟨C r,xs,i,w,rfl,rfl,SqL.of e1,e2,q.here R (ab3.mp wf _ (aI6 e)) e3⟩ hs
     simp_all
    | _=>exact fb z
   | ro l =>
    cases b with
    | int i =>
     simp only at z;split at z
     .rename_i d' e;cases z;have Y:=hb.intE;subst Y;obtain⟨xs,e1,d1⟩:=R.obj _ _ hsr;obtain⟨w,e2,e3⟩:=bf6 d1 e;have wf:=R.wf _ _ hsr;unfold nu at wf;exact aL0 hK J B Uu s W H _ _ v u Q I rx ry ⟨C r,xs,i,w,rfl,rfl,e1.1,e2,q.here R (ab3.mp wf _ (aI6 e)) e3⟩ hs
     simp_all
    | _=>exact fb z
   | dc l =>
    simp only at z;split at z
    case isFalse=>simp_all
    rename_i Z;obtain⟨k,hk⟩:=an1 Z;obtain⟨kvs,e1,d1⟩:=R.obj r _ hsr;have Y:=aO0 hk hb;subst Y;cases rx;rcases d1.val keyOf_inj hk with⟨q1,_⟩|⟨e,v',q1,q2,q3,q4⟩
    .simp_all
    .rw[q1]at z;cases z;have wf:=R.wf _ _ hsr;unfold nu at wf;rw[ae]at wf;have g:aF4 H (C r) (kV k) (al v'):=by rw[<-q2];exact aF4.k e1
     exact lG (ao2 I g) gr.lookup (aF0 hu I g ry λ w' s' I' a0=>⟨v',H,I',a0,q.here R (ab3.mp wf.2 _ q4) q3⟩) hs
   | dit l =>
    simp only at z;split at z
    case isFalse=>simp_all
    rename_i Z;obtain⟨k,hk⟩:=as0 Z;obtain⟨kvs,e1,d1⟩:=R.obj r _ hsr;obtain⟨kb,Y,a1⟩:=aF7 hk hb;subst Y;cases rx;rcases d1.val keyT_inj hk with⟨q1,_⟩|⟨e,v',q1,q2,q3,q4⟩
    .simp_all
    .rw[q1]at z;cases z;have wf:=R.wf _ _ hsr;unfold nu at wf;rw[ae]at wf;have g:aF4 H (C r) (.ref kb) (al v'):=by rw[<-q2];exact aF4.t e1 a1
     exact lG (ao2 I g) gr.lookup (aF0 hu I g ry λ w' s' I' a0=>⟨v',H,I',a0,q.here R (ab3.mp wf.2 _ q4) q3⟩) hs
   | ins c l=>simp_all
   | dicF l=>simp_all
 | _=>simp_all
def aX8  n d  i :HT.sIx n d (al i)=om n i:=by
 show(if i<0 then(i+(n)).toNat else min i.toNat n)=_;unfold om;lia
def bB0 (h:RVL Γ C H l J) B z :RVL Γ C H (nX l B z) (aU9 J B z):=by
 unfold nX aU9;have e1:HT.sIx J.length 0 B=ou l.length B:=by
  cases B with
  | none=>rfl
  | some i=>rw[aX8,h.length];rfl
 have e2:HT.sIx J.length J.length z=oQ l.length z:=by
  cases z with
  | none=>exact h.length
  | some i=>rw[aX8,h.length];rfl
 rw[e1,e2];exact(h.drop _).take _
def aN7 :∀ d∈nX l z h,d∈l:=λ d hd=>List.mem_of_mem_drop (fM hd)
def bn1 (l:List α) h z :(nX l h z).length<=l.length:=by
 unfold nX;rw[bR,fB];lia
def cj9  z B  n :bW z B 1 n=(am (oQ n B - ou n z)).map (ou n z+·):=by
 rw[<-sliceRange_one];unfold bW;have cl:∀ i:Int,max 0 (min (if i<0 then i+(n)else i) (n))=((om n i)):=λ i=>by
  unfold om;by_cases h:i<0
  .rw[ef h,gc (by omega)];omega
  .rw[gc h,ef (by omega)];omega
 simp only[if_true];cases z<;>cases B<;>simp only[cl,oQ]<;>rfl
theorem aN3 {l:List Nat}:∀ a k ,a+k<=l.length->((am k).map (a+·)).filterMap (λ x=>l.toArray[x]?)=(l.drop a).take k
 | a,0,_=>by simp
 | a,k+1,h=>by
  rw[dM,aS,List.filterMap_append,aN3 a k (by lia)];have hk:a+k<l.length:=by lia
  rw[List.take_add_one,List.getElem?_drop];simp[hk]
def bj5  l  z h :fR ⟨l.toArray⟩ z h=⟨(nX l z h).toArray⟩:=by
 unfold fR;have hn:(⟨l.toArray⟩:Str).length=l.length:=by show l.toArray.size=_;simp
 rw[hn,cj9];have hb:oQ l.length h<=l.length:=by
  cases h with
  | none=>exact aj _
  | some i=>show om l.length i<=_;unfold om;split<;>lia
 have ha:ou l.length z<=l.length:=by
  cases z with
  | none=>exact cq _
  | some i=>show om l.length i<=_;unfold om;split<;>lia
 unfold nX;generalize oQ l.length h=b at *;generalize ou l.length z=a at *;by_cases hc:((1:Int)==1&&((am (b - a)).map (a+·)).length==l.length)=bY
 .rw[ef hc];have:=by simpa using hc
  have h0:a=0\/l.length=0:=by lia
  rcases h0 with h0|h0
  .subst h0;rw[this];simp
  .have:=eW.mp h0;subst this;simp
 .rw[gc hc];by_cases hab:a<=b
  .have e:=aN3 (l:=l) a (b - a) (by omega)
   skip
   rw[e]
  .rw[show b - a=0 by lia];simp
def rSl (Γ:Gm):V->Option Int->Option Int->Hp->VK->Prop:=λ x lo hi H Q=>∃ C s a d s',Rp Γ C H s/\RV Γ C H a x/\a.bnd s.length=bY/\oS a lo hi s=.ok d s'/\af8 Γ C s H d s' Q
def ci7 (hK:X.K=Γ.K):SlR X (rSl Γ):=by
 intro B s W H x v vl vu Y Uu sl Q I rx hs pl pu h;refine wl λ _ ua=>?_;obtain⟨C,st,a,d,a0,R,ha,na,J,q⟩:=h;unfold oS at J;refine ua ?_;cases a with
 | tp l =>
  cases J;obtain⟨p,xs,⟨rfl,z1⟩,h1,d1⟩:=ha.tupZ;unfold nr at na;refine bB8 hK B s W H _ v vl vu Y Uu sl Q I rx hs pl pu ⟨p,xs,rfl,h1,λ t H' e ht hn=>?_⟩;obtain⟨g,r'⟩:=R.same e;have d2:=bB0 (RVL.mono g _ _ na d1) Y Uu;refine q _ _ _ g (aj _) (by unfold nr;exact aO7 na aN7) (RV.tupC ht (λ z=>?_) d2) r';rcases hn with hn|⟨rfl,ex⟩
  .exact hn
  .rw[ex];refine e _ _ (z1 ?_);have Z:(nX l Y Uu).length=l.length:=by rw[<-d2.length,ex,d1.length]
   rwa [bd9 Z]at z
 | str l =>
  cases J;have Z:=ha.strL;have ex:=ha.strE;subst ex;refine bX2 B s W H _ v vl vu Y Uu sl Q I rx hs pl pu ⟨_,rfl,by show l.toArray.size<=_;rw[aJ];exact aq Z qj,?_⟩;rw[bj5];exact q.here R rfl (RV.strI (aq (bn1 l Y Uu) Z))
 | ref r =>
  have ex:=ha.refE;subst ex;simp only at J;cases hsr:st[r]? with
  | none=>simp_all
  | some o =>
   rw[hsr]at J;cases o with
   | J l =>
    obtain⟨rfl,rfl⟩:=qr J;obtain⟨xs,e1,d1⟩:=R.addr hsr;have wf:=R.wf _ _ hsr;unfold nu at wf;exact bv8 hK B s W H _ v vl vu Y Uu sl Q I rx hs pl pu ⟨C r,xs,rfl,SqL.of e1,λ p hp=>q.alloc R (bB0 d1 Y Uu) (aO7 wf aN7) hp⟩
   | _=>exact fb J
 | _=>exact fb J
variable {Γ:Gm} {X:Cx}
def rCl (Γ:Gm)(f:List ng->m9->nk ng):List V->Hp->VK->Prop:=λ xs H Q=>∃ C s l d s',Rp Γ C H s/\RVL Γ C H l xs/\nh s.length l=bY/\f l s=.ok d s'/\af8 Γ C s H d s' Q
def RVL.one (h:RVL Γ C H [d] z):∃ x,z=[x]/\RV Γ C H d x:=by
 obtain⟨x,r,rfl,B,J⟩:=h.uncons;rw[J.unnil];exact⟨x,rfl,B⟩
def bO8  a b c :mx3 a b c=max (max a b) c:=by unfold mx3 mx;lia
noncomputable def biN:on->Option (String×Nat)
 | .len=>al ("len",1)|.abs=>al ("abs",1)|.min2=>al ("min",2)|.max2=>al ("max",2)|.max3=>al ("max",3)|_=>aT
theorem zW:∀ {l} {is},oq l=al is->l=is.map DV.D.int
 | [],is,h=>by unfold oq at h;simp_all
 | d::l,is,h=>by
  cases d with
  | int i =>
   have h:(oq l).map (i::·)=al is:=h;cases e:oq l with
   | none=>simp_all
   | some m=>rw[e]at h;cases h;rw[zW e];rfl
  | _=>cases h
theorem aD9:∀ {l} {is},oU l=al is->l=is.map DV.D.T
 | [],is,h=>by unfold oU at h;simp_all
 | d::l,is,h=>by
  cases d with
  | T i =>
   have h:(oU l).map (i::·)=al is:=h;cases e:oU l with
   | none=>simp_all
   | some m=>rw[e]at h;cases h;rw[aD9 e];rfl
  | _=>cases h
theorem RVL.ints :∀ {is:List Int} {z},RVL Γ C H (is.map DV.D.int) z->z=is.map V.int
 | [],_,h=>h.unnil
 | i::is,_,h=>by
  obtain⟨x,r,rfl,B,J⟩:=RVL.uncons h;rw[B.intE,RVL.ints J];rfl
theorem RVL.bls :∀ {is:List Bool} {z},RVL Γ C H (is.map DV.D.T) z->z=is.map V.T
 | [],_,h=>h.unnil
 | i::is,_,h=>by
  obtain⟨x,r,rfl,B,J⟩:=RVL.uncons h;rw[B.blE,RVL.bls J];rfl
def bG9 (h:DV.bi1 f l s=.ok d s'):∃ a,l=[a]/\f a s=.ok d s':=by
 match l,h with
 | [a],h=>exact⟨a,rfl,h⟩
 | [],h=>exact fb h
 | _::_::_,h=>exact fb h
set_option tactic.hygienic true in
def bb3 (hK:X.K=Γ.K)(hc:X.calm=bY)(hn:biN b=al (nm,k)):ae5 X (.builtin nm) (rCl Γ (pj b)):=by
 intro z s W H xs us Q I r h;obtain⟨C,st,l,d,Uu,R,Y,nl,B,q⟩:=h;cases b with
 | len =>
  cases hn;have B:=B;obtain⟨a,rfl,J⟩:=bG9 B;clear B;obtain⟨x,rfl,hx⟩:=Y.one;unfold DV.bN3 at J;cases a with
  | tp l =>
   cases J;obtain⟨p,ys,rfl,h1,d1⟩:=hx.tupE;refine an7 hK z s W H _ us Q I r ⟨p,ys,rfl,.inr h1,?_⟩;rw[d1.length];exact q.here R rfl RV.intI
  | str l =>
   cases J;have Z:=hx.strL;have e:=hx.strE;subst e;refine aA1 z s W H _ us Q I r ⟨_,rfl,by show l.toArray.size<=_;rw[aJ];exact aq Z qj,?_⟩;show Q (.int ((l.toArray.size))) H;rw[aJ];exact q.here R rfl RV.intI
  | ref n =>
   have e:=hx.refE;subst e;simp only at J;cases hs:st[n]? with
   | none=>simp_all
   | some o =>
    rw[hs]at J;cases o with
    | J l =>
     cases J;obtain⟨ys,e1,d1⟩:=R.addr hs;refine an7 hK z s W H _ us Q I r ⟨C n,ys,rfl,.inl (SqL.of e1),?_⟩;rw[d1.length];exact q.here R rfl RV.intI
    | ro l =>
     cases J;obtain⟨ys,e1,d1⟩:=R.obj _ _ hs;refine an7 hK z s W H _ us Q I r ⟨C n,ys,rfl,.inl e1.1,?_⟩;rw[d1.length];exact q.here R rfl RV.intI
    | dc l=>exact fb J
    | dit l=>exact fb J
    | ins c l=>exact fb J
    | dicF l=>exact fb J
  | _=>exact fb J
 | abs =>
  cases hn;have B:(match oq l with|some [i]=>.ok (.int (if i<0 then -i else i)) st|_=>.B:nk ng)=.ok d Uu:=B;split at B
  .rename_i i e;cases B;have:=zW e;subst this;have:=RVL.ints Y;subst this;exact bq7 z s W H _ us Q I r ⟨i,rfl,q.here R rfl RV.intI⟩
  .exact fb B
 | min2 =>
  cases hn;have B:(match oq l with|some [a,b]=>.ok (.int (if b<a then b else a)) st|_=>.B:nk ng)=.ok d Uu:=B;split at B
  .rename_i a b e;cases B;have:=zW e;subst this;have:=RVL.ints Y;subst this;exact bj4 hc z s W H _ us Q I r ⟨_,_,rfl,q.here R rfl RV.intI⟩
  .exact fb B
 | max2 =>
  cases hn;have B:(match oq l with|some [a,b]=>.ok (.int (if b > a then b else a)) st|_=>.B:nk ng)=.ok d Uu:=B;split at B
  .rename_i a b e;cases B;have:=zW e;subst this;have:=RVL.ints Y;subst this;exact aW8 hc z s W H _ us Q I r ⟨_,_,rfl,q.here R rfl RV.intI⟩
  .exact fb B
 | max3 =>
  cases hn;have B:(match oq l with|some [a,b,c]=>.ok (.int (max (max a b) c)) st|_=>.B:nk ng)=.ok d Uu:=B;split at B
  .rename_i a b c e;cases B;have:=zW e;subst this;have:=RVL.ints Y;subst this;refine bc7 hc z s W H _ us Q I r ⟨_,_,_,rfl,?_⟩;rw[bO8];exact q.here R rfl RV.intI
  .exact fb B
 | _=>cases hn
def aO6:∀ j:Nat,j<=9->bX (toString (j:Int))=(⟨[48+j].toArray⟩):=by decide
set_option tactic.hygienic true in
def cc5:ae5 X (.type "int") (rCl Γ (pj .int)):=by
 intro B s W H xs us Q I r h;obtain⟨C,st,l,d,J,R,Y,nl,z,q⟩:=h;have z:(match oU l with|some [b]=>.ok (.int (if b then 1 else 0)) st|some _=>.B|none=>DV.bO3 l st:nk ng)=.ok d J:=z;split at z
 .rename_i b e;cases z;have:=aD9 e;subst this;have:=RVL.bls Y;subst this;exact aW6 B s W H _ us Q I r (.inr ⟨b,rfl,q.here R rfl RV.intI⟩)
 .simp_all
 .unfold DV.bO3 at z;split at z
  .rename_i c _ _;split at z
   .rename_i hc;cases z;obtain⟨x,Uu,rfl,r1,Z⟩:=Y.uncons;cases(Z);have:=r1.strE;subst this;obtain⟨u,rfl,t,rfl⟩:=ai1 r;obtain⟨j,hj,rfl⟩:∃ j,j<=9/\c=48+j:=⟨c - 48,by omega,by omega⟩
    rw[(aO6 j hj).symm];refine PySem.W.KIN.call_num (by lia) (by lia) ⟨.int (j),H,I.tok _,⟨_,rfl⟩,?_⟩;have:=q.here R rfl (RV.intI )
    simp_all
   simp_all
  .exact fb z
set_option tactic.hygienic true in
def bS1:ae5 X (.type "str") (rCl Γ (pj .str)):=by
 intro Z s W H xs us Q I r h;obtain⟨C,st,l,d,J,R,Y,nl,z,q⟩:=h;have z:DV.bH1 l st=.ok d J:=z;unfold DV.bH1 at z;split at z
 .rename_i i _;split at z
  .rename_i hi;cases z;obtain⟨x,B,rfl,r1,Uu⟩:=Y.uncons;cases(Uu);have:=r1.intE;subst this;obtain⟨u,rfl,t,rfl⟩:=ai1 r;obtain⟨j,rfl⟩:∃ j:Nat,i=(j):=⟨i.toNat,by lia⟩
   have hj:j<=9:=by lia
   refine PySem.P.str_of_int ?_ ⟨.str ⟨[48+j].toArray⟩,H,I.tok _,⟨s.toks,?_⟩,?_⟩
   .have:(j:Int).natAbs.log2<=(j:Int).natAbs:=Nat.log2_le_self _;lia
   .rw[<-aO6 j hj]
   .have:=q.here R rfl (RV.strI (by show 1<=nv;decide))
    simp_all
  simp_all
 .rename_i w _;cases z;obtain⟨x,B,rfl,r1,Uu⟩:=Y.uncons;cases(Uu);have e:=r1.strE;subst e;obtain⟨u,rfl,t,rfl⟩:=ai1 r;refine PySem.P.str_of_str ⟨.str ⟨w.toArray⟩,H,I,⟨_,rfl⟩,?_⟩;unfold nh at nl;exact q.here R rfl r1
 .exact fb z
variable {X:Cx}
noncomputable def sgV (x:List Nat):List V:=x.map λ c=>.str ⟨#[c]⟩
def bM2 {z:yH}(B:vs.length=z.length)(h:∀(i:Nat) (x:V) (u:Value),vs[i]?=al x->z[i]?=al u->RelV x u):Vals vs z:=by
 induction vs generalizing z with
 | nil=>cases z with
  | nil=>exact .nil
  | cons _ _=>cases B
 | cons v vs ih=>cases z with
  | nil=>cases B
  | cons a z=>exact .cons (h 0 v a rfl rfl) (ih (by simpa using B) λ i x u e1 e2=>h (i+1) x u e1 e2)
def au1 {z:yK}(h:ItemsOf (SignAt ⟨x.toArray⟩) z x.length):Vals (sgV x) z.toList:=by
 have Uu:(sgV x).length=z.toList.length:=by unfold sgV;rw[aw];simpa using h.1.symm
 refine bM2 Uu λ i v u e1 e2=>?_;obtain⟨c,t,B,J⟩:=h.2 i u (by simp_all);unfold sgV at e1;rw[aL]at e1;have B:=by simpa using B
 rw[B]at e1;cases e1;exact⟨t,J⟩
def aG1 (hc:X.calm=bY):ae5 X (.type "tuple") (λ Uu H Q=>∃ x,Uu=[.str ⟨x.toArray⟩]/\x.length<=nv/\∀ l,H l=aT->Q (.ref l) (upd H l (.tp (sgV x)))):=by
 intro z s W H Uu us Q I r h;obtain⟨x,rfl,Y,q⟩:=h;obtain⟨u,rfl,rx⟩:=ai1 r;obtain⟨t,rfl⟩:=rx;have hz:(sgV x).length<=a7:=by unfold sgV;rw[aw];exact aq Y qj
 refine call_tuple_str (I.ok.hd hc) _ t (λ h' tk B kp J=>?_) (by skip;rw[aJ];exact aq Y qj);have J:=by simpa using J
 have rv:=au1 J;have Z:=I.kept (t':=tk) kp;have I2 :=
  Z.laid (t':=tk) (λ b o e=>ak _ e) (aj _) (show ae4 X.prog X.w _ _ _ (.tp (sgV x))from⟨hz,B.toList,rv,l8 _ _⟩)
 exact⟨.ref h'.objs.size,_,I2,rfl,q _ (Z.hok.fresh (aj _))⟩
def aU1 (hc:X.calm=bY):ae5 X (.type "list") (λ Uu H Q=>∃ x,Uu=[.str ⟨x.toArray⟩]/\x.length<=nv/\∀ l,H l=aT->Q (.ref l) (upd H l (.J (sgV x)))):=by
 intro J s W H Uu us Q I r h;obtain⟨x,rfl,Y,q⟩:=h;obtain⟨u,rfl,rx⟩:=ai1 r;obtain⟨t,rfl⟩:=rx;have hz:(sgV x).length<=a7:=by unfold sgV;rw[aw];exact aq Y qj
 refine call_list_str (I.ok.hd hc) _ t (λ h' tk z c' kp e B=>?_) (by skip;rw[aJ];exact aq Y qj);have B:=by simpa using B
 have Z:=au1 B;exact⟨.ref s.heap.objs.size,_,I.laid kp (aj _) (show ae4 X.prog X.w _ h' _ (.J (sgV x))from⟨hz,z.toList,c',Z,e⟩),rfl,q _ (I.hok.fresh (aj _))⟩
section
variable {Γ:Gm} {C C':Nat->Addr} {H H' H1 H2 H3:Hp} {clos:yC} {s s':m9}
def zH (hc:Cells clos H)(e:H a=al u)(hu:∀ o,u≠.frz o (.own a)):isC clos a≠true:=λ z=>by
 obtain⟨o,v,q,_⟩:=hc.at z
 grind
def SqT.dropC {K}(hc:Cells clos H)(h:SqT K H a B):SqT K (ad0 clos H) a B:=by
 rcases h with(h|⟨o,h⟩)|h
 .exact .inl (.inl (by rw[ad0.ne (zH hc h (λ _ z=>by cases z))];exact h))
 .exact .inl (.inr ⟨o,by rw[ad0.ne (zH hc h (λ _ z=>by cases z))];exact h⟩)
 .exact .inr h
def SqL.dropC {K}(hc:Cells clos H)(h:SqL K H a B):SqL K (ad0 clos H) a B:=by
 rcases h with(h|⟨o,h⟩)|h
 .exact .inl (.inl (by rw[ad0.ne (zH hc h (λ _ z=>by cases z))];exact h))
 .exact .inl (.inr ⟨o,by rw[ad0.ne (zH hc h (λ _ z=>by cases z))];exact h⟩)
 .exact .inr h
theorem SqF.dropC {K}(hc:Cells clos H)(h:SqF K H a B):SqF K (ad0 clos H) a B:=by
 refine⟨SqL.dropC hc h.1,λ H2 k=>?_⟩;have hk:Kp H (λ b=>if isC clos b=bY then H b else H2 b):=λ b o e f=>by
  by_cases z:isC clos b=bY
  .show(if isC clos b=bY then H b else H2 b)=_;rw[ef z];exact e
  .show(if isC clos b=bY then H b else H2 b)=_;rw[gc z];exact k b o (by rw[ad0.ne z];exact e) f
 have q:=h.2 _ hk;have at_:∀ u,(if isC clos a=bY then H a else H2 a)=al u->(∀ o,u≠.frz o (.own a))->H2 a=al u:=λ u e hu=>by
  by_cases z:isC clos a=bY
  .rw[ef z]at e;exact iS z (zH hc e hu)
  .rw[gc z]at e;exact e
 rcases q with(q|⟨o,q⟩)|q
 .exact .inl (.inl (at_ _ q (λ _ z=>by cases z)))
 .exact .inl (.inr ⟨o,at_ _ q (λ _ z=>by cases z)⟩)
 .exact .inr q
mutual
theorem RV.dropC (hc:Cells clos H):∀(d:ng) (v:V),d.ncl=bY->RV Γ C H d v->RV Γ C (ad0 clos H) d v
 | .N,_,_,h=>by unfold RV at h ⊢;exact h
 | .T _,_,_,h=>by unfold RV at h ⊢;exact h
 | .int _,_,_,h=>by unfold RV at h ⊢;exact h
 | .str _,_,_,h=>by unfold RV at h ⊢;exact h
 | .tp l,_,n,h=>by
  unfold RV at h ⊢;unfold pA at n;obtain⟨a,B,e,q,r⟩:=h;exact⟨a,B,e,⟨SqT.dropC hc q.1,λ z=>by rw[ad0.ne (zH hc (q.2 z) (λ _ z=>by cases z))];exact q.2 z⟩,RVL.dropC hc l B n r⟩
 | .ref k,_,_,h=>by unfold RV at h ⊢;exact h
 | .fn _,_,_,h=>by unfold RV at h ⊢;exact h
 | .clo id cs,_,n,h=>by unfold pA at n;cases n
theorem RVL.dropC (hc:Cells clos H):∀(l:List ng) (z:List V),oz l=bY->RVL Γ C H l z->RVL Γ C (ad0 clos H) l z
 | [],_,_,h=>by unfold RVL at h ⊢;exact h
 | d::l,_,n,h=>by
  unfold oz at n;rw[ae]at n;obtain⟨x,r,e,B,J⟩:=h.uncons;subst e;exact .cons (RV.dropC hc d x n.1 B) (RVL.dropC hc l r n.2 J)
end
theorem RVD.dropC (hc:Cells clos H):∀ l   kvs ,oz (l.map (·.2))=bY->RVD z Γ C H l kvs->RVD z Γ C (ad0 clos H) l kvs
 | [],_,_,h=>h
 | (d,e)::l,_,n,h=>by
  obtain⟨k,v,r,e1,e2,J,B⟩:=h;rw[aR]at n;unfold oz at n;rw[ae]at n;exact⟨k,v,r,e1,e2,RV.dropC hc e v n.1 J,RVD.dropC hc l r n.2 B⟩
theorem RO.dropC (hc:Cells clos H)(h:RO Γ C H a o)(n:o.ncl=bY):RO Γ C (ad0 clos H) a o:=by
 cases o with
 | J l =>
  obtain⟨B,e,r⟩:=h;exact⟨B,by rw[ad0.ne (zH hc e (λ _ z=>by cases z))];exact e,RVL.dropC hc l B n r⟩
 | ro l =>
  obtain⟨B,e,r⟩:=h;exact⟨B,SqF.dropC hc e,RVL.dropC hc l B n r⟩
 | dc l =>
  obtain⟨B,e,r⟩:=h;exact⟨B,by rw[ad0.ne (zH hc e (λ _ z=>by cases z))];exact e,RVD.dropC hc l B n r⟩
 | dit l =>
  obtain⟨B,e,r⟩:=h;exact⟨B,by rw[ad0.ne (zH hc e (λ _ z=>by cases z))];exact e,RVD.dropC hc l B n r⟩
 | dicF l =>
  obtain⟨ob,B,e,r⟩:=h;exact⟨ob,B,by rw[ad0.ne (zH hc e (λ _ z=>by cases z))];exact e,RVD.dropC hc l B n r⟩
 | ins c l =>
  obtain⟨Cc,Y,gs,J,Uu,e,r⟩:=h;exact⟨Cc,Y,gs,J,Uu,by rw[ad0.ne (zH hc e (λ _ z=>by cases z))];exact e,RVD.dropC hc l gs n r⟩
def TabsH.dropC (hc:Cells clos H)(h:TabsH T H):TabsH T (ad0 clos H):=λ y hy=>by
 obtain⟨ps,e,t,c⟩:=h y hy;refine⟨ps,by rw[ad0.ne (zH hc e (λ _ z=>by cases z))];exact e,t,λ pos B q=>?_⟩;obtain⟨J,e1,e2⟩:=c pos B q;exact⟨J,e1,by rw[ad0.ne (zH hc e2 (λ _ z=>by unfold ql at z;cases z))];exact e2⟩
theorem Rp.dropC (hc:Cells clos H)(r:Rp Γ C H s)(n:s.all pB=bY):Rp Γ C (ad0 clos H) s :=
 ⟨r.inj,λ i o e=>RO.dropC hc (r.obj i o e) (aI.mp n o (aE e)),r.wf,TabsH.dropC hc r.tab⟩
def Gr.caught {kd:Str->Option cu}(h:Caught clos N kd W H1 H2)(g:Gr C s H2 C' s' H3):Gr C s H1 C' s' (ad0 clos H3):=by
 have nc:∀ b o,H1 b=al o->isC clos b≠true:=λ b o e z=>by rw[h.free b z]at e;cases e
 have up:∀ b o,H1 b=al o->H2 b=al o:=λ b o e=>by rw[h.ne b (nc b o e)];exact e
 refine⟨⟨g.w.map,λ b o e f=>?_⟩,g.le,λ i B Uu=>?_,g.kd,λ b e=>?_,λ b o kvs e=>?_,λ b o e Y J=>?_⟩
 .rw[ad0.ne (nc b o e)];exact g.w.kp b o (up b o e) f
 .have:=g.new i B Uu;by_cases z:isC clos (C' i)=bY
  .exact h.free _ z
  .rw[<-h.ne _ z];exact this
 .cases q:H1 b with
  | none=>exact iS q e
  | some o =>
   rw[ad0.ne (nc b o q)];exact g.st b (by rw[up b o q];simp)
 .rw[ad0.ne (nc b _ e)];exact g.fz b o kvs (up b _ e)
 .rw[ad0.ne (nc b o e)];exact g.fr b o (up b o e) Y J
def aW4 (h:∀ b,isC clos b=bY->H' b=aT):ag5 H' (Put clos H H'):=λ b o e=>by
 rw[Put.ne (λ z=>by simp_all)];exact e
def Gr.put (hc:Cells clos H)(J:∀ b,isC clos b=bY->H' b=aT)(hK:∀ b o,Γ.K.lookup b=al o->H b=aT)(R':Rp Γ C' H' s')(g:Gr C s (ad0 clos H) C' s' H'):Gr C s H C' s' (Put clos H H'):=by
 refine⟨⟨g.w.map,λ b o e f=>?_⟩,g.le,λ i h1 Y=>?_,g.kd,λ b e=>?_,λ b o kvs e=>?_,λ b o e nt no=>?_⟩
 .by_cases z:isC clos b=bY
  .rw[Put.cell z];exact e
  .rw[Put.ne z];exact g.w.kp b o (by rw[ad0.ne z];exact e) f
 .have hd:=g.new i h1 Y;by_cases z:isC clos (C' i)=bY
  .have B:=J _ z;obtain⟨o,Z⟩:∃ o,s'[i]?=al o:=⟨s'[i],au Y⟩
   have h:=R'.obj i o Z;cases o with
   | J l=>obtain⟨Uu,e,_⟩:=h;rw[B]at e;cases e
   | ro l =>
    obtain⟨Uu,e,_⟩:=h;rcases e.1 with(e|⟨_,e⟩)|⟨ob,its,n,e,_⟩
    all_goals simp_all
   | dc l=>obtain⟨Uu,e,_⟩:=h;rw[B]at e;cases e
   | dit l=>obtain⟨Uu,e,_⟩:=h;rw[B]at e;cases e
   | dicF l=>obtain⟨_,Uu,e,_⟩:=h;rw[B]at e;cases e
   | ins _ _=>obtain⟨_,_,_,_,_,e,_⟩:=h;lia
  .rw[ad0.ne z]at hd;exact hd
 .by_cases z:isC clos b=bY
  .rw[Put.cell z];exact e
  .rw[Put.ne z];exact g.st b (by rw[ad0.ne z];exact e)
 .by_cases z:isC clos b=bY
  .rw[Put.cell z];exact e
  .rw[Put.ne z];exact g.fz b o kvs (by rw[ad0.ne z];exact e)
 .by_cases z:isC clos b=bY
  .rw[Put.cell z];exact e
  .rw[Put.ne z];exact g.fr b o (by rw[ad0.ne z];exact e) nt no
def bs3 (hT:TabsH T H)(nd:(T.map (·.1)).Nodup)(hm:(P,q)∈T)
  (go:∀(f:Addr) (H':Hp),ba5 H H'->(∀ b,H b≠aT->H' b≠aT)->TabsH T H'->H f=aT->(∃ pm J Uu,H' f=al (aw4 f (cx "<lambda>" q params body scope (af6 cells scope.names []) pm (.ref J) Uu))/\H' J=al (ql J q))->Q (.ref f) H') :
  cr5 cells P q params body scope pos W H Q:=by
 obtain⟨ps,Z,ht,hc⟩:=hT _ hm;refine⟨ps,Z,ht,λ hn J f pm Uu n1 n2 ne=>?_,λ cv e=>?_⟩
 .have cP:J≠P:=λ z=>by lia
  have fP:f≠P:=λ z=>by lia
  have Y:∀ b,b≠P->H b≠aT->∀ o1 o2 o3,upd (upd (upd H P o1) J o2) f o3 b=H b:=λ b z1 z2 o1 o2 o3=>by
   rw[zb λ z=>by subst z;exact z2 n2,zb λ z=>by subst z;exact z2 n1,zb z1]
  refine go f _ (λ b o d e=>?_) (λ b hb=>?_) (λ y hy=>?_) n2 ⟨pm,J,Uu,zg,by rw[zb ne,zg]⟩
  .rw[Y b (λ z=>by subst z;rw[Z]at e;cases e;exact d _ rfl) (by rw[e];simp)];exact e
  .by_cases z:b=P
   .subst z;rw[zb (bH fP),zb (bH cP),zg];simp
   .rw[Y b z hb];exact hb
  .by_cases z:y.1=P
   .have ey:=by
     have:∀(l:List (Addr×Str)),(l.map (·.1)).Nodup->y∈l->(P,q)∈l->y=(P,q):=by
      intro l
      induction l with
      | nil=>intro _ h;simp at h
      | cons a l ih =>
       grind
     exact this T nd hy hm
    subst ey;refine⟨_,by rw[zb (bH fP),zb (bH cP),zg],?_,λ B cv e=>?_⟩
    .rw[eG];exact TriplesOk_snoc _ _ _ _ ht
    .rw[eG]at e;rcases codeAmong_add _ ht e with e'|e'
     .obtain⟨c2,e1,e2⟩:=hc B cv e';exact⟨c2,e1,by rw[Y c2 (λ z=>by subst z;rw[Z]at e2;unfold ql at e2;lia) (by rw[e2];simp)];exact e2⟩
     .exact⟨J,e',by rw[zb ne,zg]⟩
   .obtain⟨qs,e1,e2,e3⟩:=hT y hy;refine⟨qs,by rw[Y y.1 z (by rw[e1];simp)];exact e1,e2,λ B cv e=>?_⟩;obtain⟨c2,e4,e5⟩:=e3 B cv e;exact⟨c2,e4,by rw[Y c2 (λ z=>by subst z;rw[Z]at e5;unfold ql at e5;lia) (by rw[e5];simp)];exact e5⟩
 .obtain⟨J,e1,e2⟩:=hc pos cv e;refine⟨J,e1,λ f pm Uu n=>go f _ (.of ((ag5.refl H).new n)) (λ b hb=>by
   by_cases z:b=f
   .subst z;rw[zg];simp
   .rw[zb z];exact hb) (hT.new n) n ⟨pm,J,Uu,zg,?_⟩⟩
  rw[zb (zw e2 n)];exact e2
set_option tactic.hygienic true in
def bE9 {K:ac}{body:yM}{h:yC}
  (S:LamScope N ps fr scope) (len:∀ vs H Q E,sp vs H Q E->vs.length=ps.length) (a4:cap.length=fr.length)
  (Z:∀(Y pm:Value) (c':Addr) (a0:Value) (us:yH),us.length=ps.length->eM (cV name qual params body scope h .none .none Y pm aT (.ref c') a0) ⟨us,[]⟩=pure (ps.zip us))
  (a1:∀(A:aV) (B:List Env) (s:af) (H:Hp) (cd:Value) (vs:List V) (Q:VK),Room k (A.deeper (dE qual scope s.heap.objs.size f cd (aW (s.heap.objs.size+1) scope.names h)))->aq7 H f name qual params body scope fr cap h->(∀ b o,K.lookup b=al o->H b=aT)->sp vs H Q E0 ->
   ∃ t,PSs (aH5 P w K mg base N qual scope f cd h A B s H) body t/\t { nx:=λ _ H'=>(∀ b,isC h b=bY->H' b=aT)->Q .N (Put h H H'),rt:=λ v H'=>(∀ b,isC h b=bY->H' b=aT)->Q v (Put h H H') } (vs.map al++cap.map al) (ad0 h H)) :
  ClOk P w K mg base (k+1) (λ H=>aq7 H f name qual params body scope fr cap h) f sp:=by
 refine⟨λ A B s H us vs Q hr Uu hR r a3=>?_⟩;have hl:=len _ _ _ _ a3;obtain⟨Y,pm,c',a0,h1,h2,h3,h4,h5,h6⟩:=id hR;have a6:s.heap.NoLimit:=Uu.mod.nolimit.keeps λ b o e=>(Uu.bs b o e).1;refine iD hr.depth (ay2 Uu.hok h1) rfl S.co S.gen rfl (aC7 Uu.hok h2) ?_;rw[Z Y pm c' a0 us (by rw[<-r.length];exact hl)];refine aG (av5 S.kind (λ y hy=>?_) λ env he s1 x=>?_)
 .rcases S.par y.1 (eP (show(y.1,y.2)∈ps.zip us from hy)).1 with q|q
  .exact .inl q
  .exact .inr ⟨q,z0 q⟩
 .subst he;refine⟨a6.keeps x.toInCall.keep,codeAny_func ?_⟩;obtain⟨t,ht,hq⟩:=a1 A B s H (.ref c') vs Q (hr.deeper _) hR (λ b o e=>(Uu.bs b o (Uu.mod.kin b o e)).2) a3;have I:=bg2 S hr.hd Uu hl a4 r h3 h4 h5 h6 x;refine bF (ht [] s1 _ _ _ I hq) (λ fl s' hs=>?_) λ e s' hs=>hs.elim;have fin:∀ {W':St} {H':Hp} {v:V} {u:Value},Inv (aH5 P w K mg base N qual scope f (.ref c') h A B s H) [] W' H' s'->RelV v u->((∀ b,isC h b=bY->H' b=aT)->Q v (Put h H H'))->CE B P w H s Q u s':=λ {W' H' v u} J rv q=>by
   obtain⟨un,a5⟩:=bb5 Uu.hok h3 Uu.frf J.base J.hok;have a2:∀ b,isC h b=bY->H' b=none:=λ b y=>by
    obtain⟨o,v,z,_⟩:=h3.at y;exact(show Un (frs B) [] (ad0 h H) H' s.heap s'.heap from J.base).free b o (Uu.hok b _ z).1 (ad0.cell y) (by simp)
   exact⟨v,_,J.os,J.bare,un,a5,rv,q a2⟩
  cases fl with
  | ret u =>
   obtain⟨v,W',H',J,rv,q⟩:=hs;exact fin J rv q
  | next =>
   obtain⟨W',H',J,q⟩:=hs;exact fin (v:=V.N) (u:=Value.none) J rfl q
  | brk =>
   obtain⟨_,_,_,q⟩:=hs
   simp_all
  | cont =>
   obtain⟨_,_,_,q⟩:=hs
   simp_all
def bD4 {K:ac}{h:yC}
  (S:LamScope N ps fr scope) (len:∀ vs H Q E,sp vs H Q E->vs.length=ps.length) (a3:cap.length=fr.length)
  (Y:∀(pm:Value) (c':Addr) (Z:Value) (us:yH),us.length=ps.length->eM (cx "<lambda>" qual params body scope h pm (.ref c') Z) ⟨us,[]⟩=pure (ps.zip us))
  (a0:∀(A:aV) (B:List Env) (s:af) (H:Hp) (cd:Value) (vs:List V) (Q:VK),Room k (A.deeper (dE qual scope s.heap.objs.size f cd (aW (s.heap.objs.size+1) scope.names h)))->aE7 H f qual params body scope fr cap h->(∀ b o,K.lookup b=al o->H b=aT)->sp vs H Q E0 ->
   ∃ t,PE (aH5 P w K mg base N qual scope f cd h A B s H) body t/\t (vs.map al++cap.map al) (ad0 h H) λ v H'=>(∀ b,isC h b=bY->H' b=aT)->Q v (Put h H H')) :
  ClOk P w K mg base (k+1) (λ H=>aE7 H f qual params body scope fr cap h) f sp:=by
 refine⟨λ A B s H us vs Q hr Uu hR r a2=>?_⟩;have hl:=len _ _ _ _ a2;obtain⟨pm,c',Z,h1,h2,h3,h4,h5,h6⟩:=id hR;have a5:s.heap.NoLimit:=Uu.mod.nolimit.keeps λ b o e=>(Uu.bs b o e).1;refine PySem.W.kla_callFunE hr.depth (ay2 Uu.hok h1) rfl S.co S.gen rfl (aC7 Uu.hok h2) ?_;rw[Y pm c' Z us (by rw[<-r.length];exact hl)];refine aG (av5 S.kind (λ y hy=>?_) λ env he s1 x=>?_)
 .rcases S.par y.1 (eP (show(y.1,y.2)∈ps.zip us from hy)).1 with q|q
  .exact .inl q
  .exact .inr ⟨q,z0 q⟩
 .subst he;refine⟨a5.keeps x.toInCall.keep,PySem.W.kla_codeExpr ?_⟩;obtain⟨t,ht,hq⟩:=a0 A B s H (.ref c') vs Q (hr.deeper _) hR (λ b o e=>(Uu.bs b o (Uu.mod.kin b o e)).2) a2;have I:=bg2 S hr.hd Uu hl a3 r h3 h4 h5 h6 x;refine bF (ht [] s1 _ _ _ I hq) (λ u s' hs=>?_) λ e s' hs=>hs.elim;obtain⟨v,H',J,rv,q⟩:=hs;obtain⟨un,a4⟩:=bb5 Uu.hok h3 Uu.frf J.base J.hok;have a1:∀ b,isC h b=bY->H' b=none:=λ b y=>by
   obtain⟨o,v,z,_⟩:=h3.at y;exact(show Un (frs B) [] (ad0 h H) H' s.heap s'.heap from J.base).free b o (Uu.hok b _ z).1 (ad0.cell y) (by simp)
  exact⟨v,_,J.os,J.bare,un,a4,rv,q a1⟩
def Rp.sameT (r:Rp Γ C H s)(e:ba5 H H')(st:∀ b,H b≠aT->H' b≠aT)(tb:TabsH Γ.T H'):Gr C s H C s H'/\Rp Γ C H' s:=by
 have kp:Kp H H':=λ b o h f=>e b o (λ ps z=>by subst z;cases f) h;have Y:Gw C s.length H C H':=⟨λ _ _=>rfl,kp⟩
 refine⟨⟨Y,aj _,λ i h1 Z=>iS Z (by omega),λ i o o' e e'=>by lia,st,λ b o kvs h=>e b _ (by nofun) h,λ b o h Uu _=>e b o Uu h⟩,r.inj,λ i o J=>?_,r.wf,tb⟩;exact(r.obj i o J).mono Y (r.wf i o J) λ m u hu=>by
  obtain⟨u',B,_,Uu,_⟩:=(r.obj i o J).there m;rw[hu]at B;cases B;exact e _ _ Uu hu
def Cells.kp (h:Cells clos H)(k:Kp H H'):Cells clos H':=λ x c e=>by
 obtain⟨o,v,q,d⟩:=h x c e;exact⟨o,v,k _ _ q rfl,d⟩
def PVp (Γ:Gm)(cells:yC)(N:yI)(W:St)(C:Nat->Addr)(H:Hp)(d:ng)(v:V):Prop:=RV Γ C H d v\/∃ id cs,d=.clo id cs/\∃ f J,v=.ref f/\Γ.lg id J/\aj1 H f J (af6 cells J.scope.names []) /\
  cs.length=J.fr.length/\(∀ x,J.scope.names.lookup x=al .free->∃ c,cells.lookup x=al c) /\
  ∃ cap,RVL Γ C H cs cap/\∀(i:Nat)  x   v ,J.fr[i]?=al x->cap[i]?=al v->J.scope.names.lookup x=al .free/\∃ j:Nat,N[j]?=al x/\W[j]?=al (al v)
inductive PVL (Γ:Gm)(cells:yC)(N:yI)(W:St)(C:Nat->Addr)(H:Hp):List ng->List V->Prop where
 | nil:PVL Γ cells N W C H [] []
 | cons {d v l vs} (a:PVp Γ cells N W C H d v) (b:PVL Γ cells N W C H l vs):PVL Γ cells N W C H (d::l) (v::vs)
theorem PVp.mono (g:Gr C s H C' s' H')(b:d.bnd s.length=bY)(h:PVp Γ cells N W C H d v):PVp Γ cells N W C' H' d v:=by
 rcases h with h|⟨id,cs,rfl,h⟩
 .exact .inl (RV.mono g _ _ b h)
 .obtain⟨f,J,e,Uu,h2,B,z,cap,Z,Y⟩:=h;unfold nr at b;exact .inr ⟨id,cs,rfl,f,J,e,Uu,h2.kp g.w.kp,B,z,cap,RVL.mono g cs cap b Z,Y⟩
def PVp.caught (Uu:Caught cells N kd W H1 H2)(a0:∀ x c,cells.lookup x=al c->kd x=al .cell\/kd x=al .free)(b:d.bnd n=bY)(h:PVp Γ cells N W C H1 d v):RV Γ C H2 d v:=by
 have gw:Gw C n H1 C H2:=⟨λ _ _=>rfl,λ b o e _=>Uu.same b o e⟩
 rcases h with h|⟨id,cs,rfl,h⟩
 .exact RV.monoW gw _ _ b h
 .obtain⟨f,J,e,h1,B,h4,Y,cap,h6,h7⟩:=h;unfold nr at b;unfold RV;have z:∀(i:Nat) (x:Str) (v:V),J.fr[i]?=al x->cap[i]?=al v->J.scope.names.lookup x=al .free/\(kd x=al .cell\/kd x=al .free)/\∃ j:Nat,N[j]?=al x/\W[j]?=al (al v):=λ i x v e1 e2=>by
   obtain⟨q1,q2⟩:=h7 i x v e1 e2;obtain⟨c,q3⟩:=Y x q1;exact⟨q1,a0 x c q3,q2⟩
  have Z:CloAt H2 f J cap (af6 cells J.scope.names []):=by
   unfold CloAt;unfold aj1 at B;cases q:J.nm with
   | none=>rw[q]at B;exact bt3 Uu B Y z
   | some p=>rw[q]at B;exact bs9 Uu B Y z
  exact⟨f,cap,J,_,e,h1,Z,by rw[h6.length,h4],RVL.monoW gw cs cap b h6⟩
theorem PVL.caught (J:Caught cells N kd W B H2)(z:∀ x c,cells.lookup x=al c->kd x=al .cell\/kd x=al .free)(h:PVL Γ cells N W C B l vs)(b:nh n l=bY):RVL Γ C H2 l vs:=by
 induction h with
 | nil=>exact .nil
 | cons a _ ih =>
  unfold nh at b;rw[ae]at b;exact .cons (a.caught J z b.1) (ih b.2)
end
variable {Γ:Gm} {X:Cx}
def TEv (Γ:Gm)(m:ni->m9->nk ng):TE:=λ W H Q=>∃ C U s d s',RE Γ C H s.length U W/\Rp Γ C H s/\m U s=.ok d s'/\af8 Γ C s H d s' Q
def bU7 (Γ:Gm)(C:Nat->Addr)(s:m9)(H:Hp)(l:List ng)(s':m9)(Q:List V->Hp->Prop):Prop :=
 ∀ vs C' H',Gr C s H C' s' H'->s.length<=s'.length->nh s'.length l=bY->RVL Γ C' H' l vs->Rp Γ C' H' s'->Q vs H'
def TAv (Γ:Gm)(m:ni->m9->nk (List ng)):TA:=λ W H Q=>∃ C U s l s',RE Γ C H s.length U W/\Rp Γ C H s/\m U s=.ok l s'/\bU7 Γ C s H l s' Q
def aL9 (Γ:Gm)(C:Nat->Addr)(s:m9)(H:Hp)(b:Bool)(s':m9)(Q:Bool->Hp->Prop):Prop :=
 ∀ C' H',Gr C s H C' s' H'->s.length<=s'.length->Rp Γ C' H' s'->Q b H'
def TTv (Γ:Gm)(m:ni->m9->nk ng):TT:=λ W H Q=>∃ C U s b s',RE Γ C H s.length U W/\Rp Γ C H s/\m U s=.ok (.T b) s'/\aL9 Γ C s H b s' Q
def PE.imp (h:PE X e t)(i:∀ W H Q,t' W H Q->t W H Q):PE X e t':=λ z s W H Q I q=>h z s W H Q I (i W H Q q)
def PT.imp (h:PT X e t)(i:∀ W H Q,t' W H Q->t W H Q):PT X e t':=λ z s W H Q I q=>h z s W H Q I (i W H Q q)
def PA.imp (h:PA X e t)(i:∀ W H Q,t' W H Q->t W H Q):PA X e t':=λ pos z s W H Q I q=>h pos z s W H Q I (i W H Q q)
theorem aL9.trans (h:aL9 Γ C s H b s' Q)(g:Gr C s H C1 s1 z)(l:s.length<=s1.length):aL9 Γ C1 s1 z b s' Q :=
 λ C' H' g' B p=>h C' H' (g.trans g' l) (aq l B) p
set_option tactic.hygienic true in
def cc7  i (h:TEv Γ (λ U s=>pf U i s) W H Q):bx0 i W H Q:=by
 obtain⟨C,U,s,d,s',E,R,z,q⟩:=h;simp only[pf]at z;split at z
 .rename_i d' e;cases z;obtain⟨b,v,e1,e2⟩:=E.val i _ e;exact⟨v,e1,q.here R b e2⟩
 .exact fb z
def aC9 (hb:∀ n,c.bnd n=bY)(hv:∀ C H,RV Γ C H c v)(h:TEv Γ (λ U s=>.ok c s) W H Q):tC v W H Q:=by
 obtain⟨C,U,s,d,s',E,R,z,q⟩:=h;cases z;exact q.here R (hb _) (hv _ _)
def br6 (h:TEv Γ (λ U s=>(B U s).bind λ x s=>(Y U s).bind λ y s=>f x y s) W H Q):tOp (rOp Γ f) (TEv Γ B) (TEv Γ Y) W H Q:=by
 refine wl λ _ ua=>?_;obtain⟨C,U,s,d,s',E,R,z,q⟩:=h;obtain⟨x,s1,e1,z⟩:=aa1 z;obtain⟨y,s2,e2,z⟩:=aa1 z;refine ua ⟨C,U,s,x,s1,E,R,e1,λ v1 C1 H1 g1 l1 b1 r1 R1=>?_⟩;refine⟨C1,U,s1,y,s2,E.mono g1 l1,R1,e2,λ v2 C2 H2 Uu J b2 Z R2=>?_⟩;exact⟨C2,s2,x,y,d,s',R2,RV.mono Uu x v1 b1 r1,Z,zm J x b1,b2,z,q.trans (g1.trans Uu l1) (aq l1 J)⟩
def zQ {a:α}(h:nE r f=.ok a t):∃ b s,r=.ok (.T b) s/\f b s=.ok a t:=by
 unfold nE at h;obtain⟨d,s,e,h⟩:=aa1 h;cases d with
 | T b=>exact⟨b,s,e,h⟩
 | _=>exact fb h
def aL6 (h:TTv Γ m W H Q):tB (TEv Γ m) W H Q:=by
 obtain⟨C,U,s,b,s',E,R,B,q⟩:=h;refine⟨C,U,s,.T b,s',E,R,B,λ v C' H' g l J r z=>?_⟩;exact⟨b,r.blE,q C' H' g l z⟩
def bN2 (h:TTv Γ m W H Q):cg2 (TEv Γ m) W H Q:=aL6 h
def bW6 (h:TTv Γ (λ U s=>nE (m U s) λ b s=>.ok (.T (!b)) s) W H Q):cr6 (TTv Γ m) W H Q:=by
 obtain⟨C,U,s,b,s',E,R,z,q⟩:=h;obtain⟨c,s1,e1,z⟩:=zQ z;cases z;exact⟨C,U,s,c,_,E,R,e1,q⟩
def bA6 (h:TTv Γ (λ U s=>nE (J U s) λ c s=>if c then nE (B U s) λ c s=>.ok (.T c) s else .ok (.T ce) s) W H Q):cr2 (TTv Γ J) (TTv Γ B) W H Q:=by
 obtain⟨C,U,s,b,s',E,R,z,q⟩:=h;obtain⟨c,s1,e1,z⟩:=zQ z;refine⟨C,U,s,c,s1,E,R,e1,λ C1 Uu g1 l1 R1=>?_⟩;cases c with
 | true =>
  rw[ef rfl]at z ⊢;obtain⟨Y,s2,e2,z⟩:=zQ z;cases z;exact⟨C1,U,s1,_,_,E.mono g1 l1,R1,e2,q.trans g1 l1⟩
 | false =>
  rw[gc br]at z ⊢;cases z;exact q C1 Uu g1 l1 R1
def ca3 (h:TTv Γ (λ U s=>nE (J U s) λ c s=>if c then .ok (.T bY) s else nE (B U s) λ c s=>.ok (.T c) s) W H Q):tOr (TTv Γ J) (TTv Γ B) W H Q:=by
 obtain⟨C,U,s,b,s',E,R,z,q⟩:=h;obtain⟨c,s1,e1,z⟩:=zQ z;refine⟨C,U,s,c,s1,E,R,e1,λ C1 Uu g1 l1 R1=>?_⟩;cases c with
 | true =>
  rw[ef rfl]at z ⊢;cases z;exact q C1 Uu g1 l1 R1
 | false =>
  rw[gc br]at z ⊢;obtain⟨Y,s2,e2,z⟩:=zQ z;cases z;exact⟨C1,U,s1,_,_,E.mono g1 l1,R1,e2,q.trans g1 l1⟩
def cf6 (h:TEv Γ (λ U s=>nE (m U s) λ b s=>.ok (.T (!b)) s) W H Q):cd3 (TEv Γ m) W H Q:=by
 obtain⟨C,U,s,d,s',E,R,z,q⟩:=h;obtain⟨c,s1,e1,z⟩:=zQ z;cases z;exact⟨C,U,s,.T c,_,E,R,e1,λ v C1 B g l b r R1=>⟨c,r.blE,q _ C1 B g l rfl RV.blI R1⟩⟩
def bx3 (h:TEv Γ (λ U s=>nE (J U s) λ c s=>if c then nE (B U s) λ c s=>.ok (.T c) s else .ok (.T ce) s) W H Q):bT7 (TEv Γ J) (TEv Γ B) W H Q:=by
 obtain⟨C,U,s,d,s',E,R,z,q⟩:=h;obtain⟨c,s1,e1,z⟩:=zQ z;refine⟨C,U,s,.T c,s1,E,R,e1,λ v C1 Uu g1 l1 b1 r1 R1=>⟨c,r1.blE,?_⟩⟩;cases c with
 | true =>
  rw[ef rfl]at z ⊢;obtain⟨c,s2,e2,z⟩:=zQ z;cases z;exact⟨C1,U,s1,.T c,_,E.mono g1 l1,R1,e2,q.trans g1 l1⟩
 | false =>
  rw[gc br]at z ⊢;cases z;exact q _ C1 Uu g1 l1 rfl RV.blI R1
def bR6 (h:TEv Γ (λ U s=>nE (J U s) λ c s=>if c then .ok (.T bY) s else nE (B U s) λ c s=>.ok (.T c) s) W H Q):cs5 (TEv Γ J) (TEv Γ B) W H Q:=by
 obtain⟨C,U,s,d,s',E,R,z,q⟩:=h;obtain⟨c,s1,e1,z⟩:=zQ z;refine⟨C,U,s,.T c,s1,E,R,e1,λ v C1 Uu g1 l1 b1 r1 R1=>⟨c,r1.blE,?_⟩⟩;cases c with
 | true =>
  rw[ef rfl]at z ⊢;cases z;exact q _ C1 Uu g1 l1 rfl RV.blI R1
 | false =>
  rw[gc br]at z ⊢;obtain⟨c,s2,e2,z⟩:=zQ z;cases z;exact⟨C1,U,s1,.T c,_,E.mono g1 l1,R1,e2,q.trans g1 l1⟩
def bZ9 (h:TEv Γ (λ U s=>nE (mc U s) λ k s=>if k then J U s else B U s) W H Q):tIf (TTv Γ mc) (TEv Γ J) (TEv Γ B) W H Q:=by
 obtain⟨C,U,s,d,s',E,R,z,q⟩:=h;obtain⟨c,s1,e1,z⟩:=zQ z;refine⟨C,U,s,c,s1,E,R,e1,λ C1 Uu g1 l1 R1=>?_⟩;cases c with
 | true =>
  rw[ef rfl]at z ⊢;exact⟨C1,U,s1,d,s',E.mono g1 l1,R1,z,q.trans g1 l1⟩
 | false =>
  rw[gc br]at z ⊢;exact⟨C1,U,s1,d,s',E.mono g1 l1,R1,z,q.trans g1 l1⟩
def au3 (h:TAv Γ (λ U s=>.ok [] s) W H Q):aO3 W H Q:=by
 obtain⟨C,U,s,d,s',E,R,z,q⟩:=h;cases z;exact q [] C H (Gr.refl _ _ _) (aj _) rfl .nil R
def bQ0 (h:TAv Γ (λ U s=>(m U s).bind λ d s=>(ms U s).bind λ l s=>.ok (d::l) s) W H Q):ao7 (TEv Γ m) (TAv Γ ms) W H Q:=by
 refine wl λ _ ua=>?_;obtain⟨C,U,s,l,s',E,R,z,q⟩:=h;obtain⟨x,s1,e1,z⟩:=aa1 z;obtain⟨y,s2,e2,z⟩:=aa1 z;cases z;refine ua ⟨C,U,s,x,s1,E,R,e1,λ v1 C1 Z g1 l1 b1 r1 R1=>?_⟩;refine⟨C1,U,s1,y,_,E.mono g1 l1,R1,e2,λ Y C2 H2 J B b2 Uu R2=>?_⟩;refine q (v1::Y) C2 H2 (g1.trans J l1) (aq l1 B) ?_ (.cons (RV.mono J x v1 b1 r1) Uu) R2;unfold nh;rw[zm B x b1,b2];rfl
def aK3 (h:TEv Γ (λ U s=>(ms U s).bind λ l s=>f l s) W H Q):tCB (rCl Γ f) (TAv Γ ms) W H Q:=by
 obtain⟨C,U,s,d,s',E,R,z,q⟩:=h;obtain⟨l,s1,e1,z⟩:=aa1 z;exact⟨C,U,s,l,s1,E,R,e1,λ vs C1 B g1 l1 b1 r1 R1=>⟨C1,s1,l,d,s',R1,r1,b1,z,q.trans g1 l1⟩⟩
def ci4  :
  (TEv Γ (λ U s=>(m U s).bind λ x s=>(ml U s).bind λ y s=>match y with|.int i=>oS x (al i) aT s|_=>.B) W H Q->tSl (rSl Γ) (TEv Γ m) (bg3 (TEv Γ ml)) aI5 W H Q) /\
  (TEv Γ (λ U s=>(m U s).bind λ x s=>(Z U s).bind λ y s=>match y with|.int i=>oS x aT (al i) s|_=>.B) W H Q->tSl (rSl Γ) (TEv Γ m) aI5 (bg3 (TEv Γ Z)) W H Q) /\
  (TEv Γ (λ U s=>(m U s).bind λ x s=>(ml U s).bind λ y s=>match y with|.int i=>(Z U s).bind (λ z s=>match z with|.int j=>oS x (al i) (al j) s|_=>.B)|_=>.B) W H Q->tSl (rSl Γ) (TEv Γ m) (bg3 (TEv Γ ml)) (bg3 (TEv Γ Z)) W H Q):=by
 refine⟨λ h=>?_,λ h=>?_,λ h=>?_⟩
 .obtain⟨C,U,s,d,s',E,R,B,q⟩:=h;obtain⟨x,s1,e1,B⟩:=aa1 B;obtain⟨y,s2,e2,B⟩:=aa1 B;refine⟨C,U,s,x,s1,E,R,e1,λ v1 C1 H1 g1 l1 b1 r1 R1=>?_⟩;refine⟨C1,U,s1,y,s2,E.mono g1 l1,R1,e2,λ v2 C2 H2 Uu J b2 Y R2=>?_⟩;cases y with
  | int i=>exact⟨i,Y.intE,C2,s2,x,d,s',R2,RV.mono Uu x v1 b1 r1,zm J x b1,B,q.trans (g1.trans Uu l1) (aq l1 J)⟩
  | _=>exact fb B
 .obtain⟨C,U,s,d,s',E,R,B,q⟩:=h;obtain⟨x,s1,e1,B⟩:=aa1 B;obtain⟨y,s2,e2,B⟩:=aa1 B;refine⟨C,U,s,x,s1,E,R,e1,λ v1 C1 H1 g1 l1 b1 r1 R1=>?_⟩;refine⟨C1,U,s1,y,s2,E.mono g1 l1,R1,e2,λ v2 C2 H2 Uu J b2 Y R2=>?_⟩;cases y with
  | int i=>exact⟨i,Y.intE,C2,s2,x,d,s',R2,RV.mono Uu x v1 b1 r1,zm J x b1,B,q.trans (g1.trans Uu l1) (aq l1 J)⟩
  | _=>exact fb B
 .obtain⟨C,U,s,d,s',E,R,B,q⟩:=h;obtain⟨x,s1,e1,B⟩:=aa1 B;obtain⟨y,s2,e2,B⟩:=aa1 B;refine⟨C,U,s,x,s1,E,R,e1,λ v1 C1 H1 g1 l1 b1 r1 R1=>?_⟩;refine⟨C1,U,s1,y,s2,E.mono g1 l1,R1,e2,λ v2 C2 H2 Uu J b2 Y R2=>?_⟩;cases y with
  | int i =>
   obtain⟨z,s3,e3,B⟩:=aa1 B;refine⟨i,Y.intE,C2,U,s2,z,s3,E.mono (g1.trans Uu l1) (aq l1 J),R2,e3,λ v3 C3 H3 g3 l3 b3 r3 R3=>?_⟩;cases z with
   | int j=>exact⟨j,r3.intE,C3,s3,x,d,s',R3,RV.mono (Uu.trans g3 J) x v1 b1 r1,zm (aq J l3) x b1,B,q.trans ((g1.trans Uu l1).trans g3 (aq l1 J)) (aq (aq l1 J) l3)⟩
   | _=>exact fb B
  | _=>exact fb B
variable {Γ:Gm} {X:Cx}
def al0 (Γ:Gm)(J:It)(C0:Nat->Addr)(H0:Hp)(s0:m9)(q:oB):Prop :=
 ∀ C H s,Gr C0 s0 H0 C s H->s0.length<=s.length->Rp Γ C H s->n9 s0 s q.src=bY->∀ i:Nat,
  (i<q.its.length->J.go i H/\∀ x H',J.yld i H x H'->ag5 H H'/\∀ d,q.its[i]?=al d->RV Γ C H' d x)/\(q.its.length<=i->J.stop i H)
def TIv (Γ:Gm)(m:ni->m9->nk oB):TI:=λ W H R=>∃ C U s q s',RE Γ C H s.length U W/\Rp Γ C H s/\m U s=.ok q s' /\
 ∀ J C' H',Gr C s H C' s' H'->s.length<=s'.length->nh s'.length q.its=bY->Rp Γ C' H' s'->al0 Γ J C' H' s' q->R J H'
def PI.imp (h:PI X tg e t)(i:∀ W H R,t' W H R->t W H R):PI X tg e t':=λ z s W H R I q=>h z s W H R I (i W H R q)
def PI.or (h:PI X tg e t)(h':PI X tg e t'):PI X tg e (λ W H R=>t W H R\/t' W H R):=λ z s W H R I q=>q.elim (h z s W H R I) (h' z s W H R I)
def bv9 (h:SqT Γ.K H0 a B)(Uu:RVL Γ C0 H0 l B)(hb:nh s0.length l=bY):al0 Γ (Itt Γ.K a) C0 H0 s0 ⟨l,[]⟩:=by
 intro C H s g _ R _ i;have h':=g.w.kp.sqT h;have z:=RVL.mono g l B hb Uu;refine⟨λ hlt=>⟨⟨B,B[i]'(by rw[z.length];exact hlt),h',au _⟩,λ x H' y=>?_⟩,λ J=>⟨B,h',by rw[z.length];exact J⟩⟩;obtain⟨e,y⟩:=y;subst e;refine⟨ag5.refl _,λ d hd=>?_⟩;obtain⟨v,e1,e2⟩:=z.get hd
 simp_all
def bG6 (h:SqF Γ.K H0 a B)(Uu:RVL Γ C0 H0 l B)(hb:nh s0.length l=bY):al0 Γ (Itl Γ.K a) C0 H0 s0 ⟨l,[]⟩:=by
 intro C H s g _ R _ i;have h':=h.2 _ g.w.kp;have z:=RVL.mono g l B hb Uu;refine⟨λ hlt=>⟨⟨B,B[i]'(by rw[z.length];exact hlt),h',au _⟩,λ x H' y=>?_⟩,λ J=>⟨B,h',by rw[z.length];exact J⟩⟩;obtain⟨e,y⟩:=y;subst e;refine⟨ag5.refl _,λ d hd=>?_⟩;obtain⟨v,e1,e2⟩:=z.get hd
 simp_all
def bm9 (hr:s0[r]?=al (.J l)):al0 Γ (Itl Γ.K (C0 r)) C0 H0 s0 ⟨l,[r]⟩:=by
 intro C H s g _ R Uu i;have z:=(ag.mp hr).1;have hs:s[r]?=al (.J l):=by
  unfold n9 at Uu;simp only[dN,mB,fI,li]at Uu;rw[Uu];exact hr
 obtain⟨B,e,h⟩:=R.addr hs;rw[g.w.map r z]at e;have h':SqL Γ.K H (C0 r) B:=SqL.of e;refine⟨λ hlt=>⟨⟨B,B[i]'(by rw[h.length];exact hlt),h',au _⟩,λ x H' y=>?_⟩,λ J=>⟨B,h',by rw[h.length];exact J⟩⟩;obtain⟨e,y⟩:=y;subst e;refine⟨ag5.refl _,λ d hd=>?_⟩;obtain⟨v,e1,e2⟩:=h.get hd
 simp_all
def bt9 {l:List Nat}:al0 Γ (Its ⟨l.toArray⟩) C0 H0 s0 ⟨l.map λ c=>.str [c],[]⟩:=by
 intro C H s g _ R _ i;have hsz:(⟨l.toArray⟩:Str).cps.size=l.length:=by simp
 refine⟨λ hlt=>?_,λ h=>?_⟩
 .simp only[aw]at hlt;refine⟨show i<(⟨l.toArray⟩:Str).cps.size by rw[hsz];exact hlt,λ x H' y=>?_⟩;obtain⟨e,c,hc,rfl⟩:=y;subst e;refine⟨ag5.refl _,λ d hd=>?_⟩;have z:=by simpa using hc
  rw[aL,z]at hd;cases hd;exact RV.strI (by simp;decide)
 .simp only[aw]at h;show(⟨l.toArray⟩:Str).cps.size<=i;rw[hsz];exact h
def br8 :al0 Γ (Itr a (b - a).toNat) C0 H0 s0 ⟨oG a b,[]⟩:=by
 intro C H s g _ R _ i;have hn:(oG a b).length=(b - a).toNat:=by simp[oG]
 refine⟨λ hlt=>⟨show i<(b - a).toNat by rw[<-hn];exact hlt,λ x H' y=>?_⟩,λ h=>show(b - a).toNat<=i by rw[<-hn];exact h⟩;obtain⟨e,rfl⟩:=y;subst e;refine⟨ag5.refl _,λ d hd=>?_⟩;simp only[oG]at hd hlt;rw[aL,bQ (by simp_all)]at hd;cases hd;exact RV.intI
def bj6 :al0 Γ (ch9 a ((b - a+1) / 2).toNat) C0 H0 s0 ⟨oH a b 2,[]⟩:=by
 intro C H s g _ R _ i;have B:oH a b 2=(am ((b - a+1) / 2).toNat).map λ(k)=>.int (a+2*k):=by
  unfold oH;lia
 have hn:(oH a b 2).length=((b - a+1) / 2).toNat:=by simp_all
 refine⟨λ hlt=>⟨show i<((b - a+1) / 2).toNat by rw[<-hn];exact hlt,λ x H' y=>?_⟩,λ z=>show((b - a+1) / 2).toNat<=i by rw[<-hn];exact z⟩;obtain⟨e,rfl⟩:=y;subst e;refine⟨ag5.refl _,λ d hd=>?_⟩;have h:i<((b - a+1) / 2).toNat:=by rw[<-hn];exact hlt
 simp only[B]at hd;rw[aL,bQ h]at hd;cases hd;rw[Int.mul_comm];exact RV.intI
set_option tactic.hygienic true in
def bP7 (h:TIv Γ (λ U s=>(J U s).bind λ x s=>(Uu U s).bind λ y s=>match x,y with|.int i,.int j=>if(2:Int)=2/\(0<=i/\i<1048576)/\0<=j/\j<1048576 then .ok ⟨oH i j 2,[]⟩ s else .B|_,_=>.B) W H R) :
  bz0 (ao7 (TEv Γ J) (ao7 (TEv Γ Uu) (ao7 (tC (.int 2)) aO3))) W H R:=by
 obtain⟨C,U,s,q,s',E,P,z,k⟩:=h;obtain⟨x,s1,e1,z⟩:=aa1 z;obtain⟨y,s2,e2,z⟩:=aa1 z;refine⟨C,U,s,x,s1,E,P,e1,λ v C1 H1 g l b r Y=>?_⟩;refine⟨C1,U,s1,y,s2,E.mono g l,Y,e2,λ v2 C2 H2 g2 l2 b2 r2 Z=>?_⟩;cases x with
 | int i =>
  cases y with
  | int j =>
   simp only at z;split at z
   .rename_i B;cases z;refine⟨i,j,by rw[r.intE,r2.intE],⟨B.2.1.1,B.2.1.2,B.2.2.1,B.2.2.2⟩,k _ C2 H2 (g.trans g2 l) (aq l l2) ?_ Z bj6⟩;refine ab3.mpr λ d hd=>?_;unfold oH at hd;rw[ef (by decide),ao]at hd;obtain⟨_,_,rfl⟩:=hd;rfl
   .exact fb z
  | _=>exact fb z
 | _=>cases y<;>cases z
set_option tactic.hygienic true in
def bC2 (h:TIv Γ (λ U s=>(m U s).bind λ x s=>match x with|.int i=>if -pC<=i/\i<pC then .ok ⟨oG 0 i,[]⟩ s else .B|_=>.B) W H R) :
  bX6 (ao7 (TEv Γ m) aO3) W H R:=by
 obtain⟨C,U,s,q,s',E,P,z,k⟩:=h;obtain⟨x,s1,e1,z⟩:=aa1 z;refine⟨C,U,s,x,s1,E,P,e1,λ v C1 J g l b r Uu=>?_⟩;cases x with
 | int i =>
  simp only at z;split at z
  .rename_i B;cases z;have hw:pC=2^62:=by decide
   rw[hw]at B;refine⟨i,by rw[r.intE],B.1,B.2,k _ C1 J g l ?_ Uu ?_⟩
   .refine ab3.mpr λ d hd=>?_;simp only[oG,ao]at hd;obtain⟨_,_,rfl⟩:=hd;rfl
   .have:=br8 (Γ:=Γ) (C0:=C1) (H0:=J) (s0:=s') (a:=0) (b:=i)
    rwa [Int.sub_zero]at this
  .exact fb z
 | _=>exact fb z
def bR3 (h:TIv Γ (λ U s=>(m U s).bind λ d s=>DV.aA0 d s) W H R) :
  cl1 Γ.K (TEv Γ m) W H R\/bJ4 Γ.K (TEv Γ m) W H R\/cr8 (TEv Γ m) W H R:=by
 refine wl λ _ ua=>?_;obtain⟨C,U,s,q,s',E,P,z,k⟩:=h;obtain⟨x,s1,e1,z⟩:=aa1 z;unfold DV.aA0 at z;refine ua ?_;cases x with
 | tp l =>
  cases z;refine .inl ⟨C,U,s,_,_,E,P,e1,λ v C1 J g l b r B=>?_⟩;obtain⟨a,Y,rfl,h1,d1⟩:=r.tupE;unfold nr at b;exact⟨a,rfl,⟨Y,h1⟩,k _ C1 J g l b B (bv9 h1 d1 b)⟩
 | str l =>
  cases z;refine .inr (.inr ⟨C,U,s,_,_,E,P,e1,λ v C1 J g Uu b r B=>?_⟩);refine⟨_,r.strE,k _ C1 J g Uu ?_ B bt9⟩;refine ab3.mpr λ d hd=>?_;simp only[ao]at hd;obtain⟨_,_,rfl⟩:=hd;rfl
 | ref r =>
  simp only at z;cases hs:s1[r]? with
  | none=>rw[hs]at z;cases z
  | some o =>
   rw[hs]at z;cases o with
   | J l =>
    cases z;refine .inr (.inl ⟨C,U,s,_,_,E,P,e1,λ v C1 J g Uu b Z B=>?_⟩);have e:=Z.refE;subst e;obtain⟨Y,e2,d1⟩:=B.addr hs;have wf:=B.wf _ _ hs;unfold nu at wf;exact⟨C1 r,rfl,⟨Y,SqL.of e2⟩,k _ C1 J g Uu wf B (bm9 hs)⟩
   | ro l =>
    cases z;refine .inr (.inl ⟨C,U,s,_,_,E,P,e1,λ v C1 J g Uu b Z B=>?_⟩);have e:=Z.refE;subst e;obtain⟨Y,e2,d1⟩:=B.obj _ _ hs;have wf:=B.wf _ _ hs;unfold nu at wf;exact⟨C1 r,rfl,⟨Y,e2.1⟩,k _ C1 J g Uu wf B (bG6 e2 d1 wf)⟩
   | dc l=>exact fb z
   | dit l=>exact fb z
   | ins c l=>exact fb z
   | dicF l=>exact fb z
 | _=>exact fb z
def bJ5 (h:ai9 d=al k)(z:d.keyF=bY):RV Γ C H d (kV k):=by
 cases d with
 | int i=>cases h;exact RV.intI
 | str x=>cases h;exact RV.strI (aq (dO z) (by decide))
 | _=>cases h
theorem RVD.keyAt :∀ {l} {kvs} {i:Nat} {k} {v},RVD ai9 Γ C H l kvs->kvs[i]?=al (k,v)->∃ p,l[i]?=al p/\ai9 p.1=al k
 | [],_,_,_,_,h,e=>by cases(h);simp at e
 | (d,e0)::l,_,0,_,_,h,e=>by
  obtain⟨k',v',r,rfl,e2,B,z⟩:=h
  simp_all
 | (d,e0)::l,_,i+1,_,_,h,e=>by
  obtain⟨k',v',r,rfl,e2,B,z⟩:=h;exact RVD.keyAt (i:=i) z (by simpa using e)
def bg8 (h:H0 a=al (.frz o (.dK kvs)))(B:RVD ai9 Γ C0 H0 l kvs)(hk:l.all (λ p=>p.1.keyF)=bY):al0 Γ (Jk a o kvs) C0 H0 s0 ⟨l.map (·.1),[r]⟩:=by
 intro C H s g _ R _ i;have h':=g.fz _ _ _ h;have len:=B.length;refine⟨λ hlt=>⟨⟨h',by simp_all⟩,λ x H' y=>?_⟩,λ z=>⟨h',by simp_all⟩⟩;obtain⟨e,k,v,J,rfl⟩:=y;subst e;refine⟨ag5.refl _,λ d hd=>?_⟩;obtain⟨p,e1,e2⟩:=B.keyAt J;have hd:=hd;rw[aL,e1]at hd;cases hd;exact bJ5 e2 (aI.mp hk p (aE e1))
set_option tactic.hygienic true in
def bh8 (h:pD d s=.ok q s'):∃ r l,d=.ref r/\s[r]?=al (.dc l)/\l.all (λ p=>p.1.keyF)=bY/\q=⟨l.map (·.1),[r]⟩/\s'=s.set r (.dicF l):=by
 unfold pD at h;split at h
 .split at h
  .rename_i l e;split at h
   .rename_i hk;cases h;exact⟨_,l,rfl,e,hk,rfl,rfl⟩
   .exact fb h
  .exact fb h
 .exact fb h
def co4 (h:TIv Γ (λ U s=>(m U s).bind λ d s=>pD d s) W H R):cm8 (TEv Γ m) W H R:=by
 obtain⟨C,U,s,q,s',E,P,B,k⟩:=h;obtain⟨x,s1,e1,B⟩:=aa1 B;obtain⟨r,l,rfl,hs,hk,rfl,rfl⟩:=bh8 B;refine⟨C,U,s,_,s1,E,P,e1,λ v C1 H1 g Uu b Z J=>?_⟩;obtain⟨kvs,e2,d1⟩:=J.obj r _ hs;have wf:=J.wf _ _ hs;have z:=wf;unfold nu at z;rw[ae]at z;refine⟨C1 r,kvs,Z.refE,e2,λ o=>?_⟩;obtain⟨Y,R2⟩:=J.set (o:=.dicF l) hs rfl wf λ H' g e=>⟨o,kvs,e,RVD.monoW g l kvs z.2 d1⟩
 exact k _ C1 _ (g.trans Y Uu) (by simp_all) (by simp_all) R2 (bg8 zg (RVD.monoW Y.w l kvs z.2 d1) hk)
variable {Γ:Gm} {X:Cx}
noncomputable def ch3:List Nat->TGs
 | []=>cp1
 | i::is=>cb5 (aC2 i) (ch3 is)
def gOf (K:ac):og->TG
 | .Y i=>aC2 i
 | .tp is=>ck7 K is.length (ch3 is)
set_option tactic.hygienic true in
def bi8 (E:RE Γ C H n U W)(r:RV Γ C H d v)(b:d.bnd n=bY)(h:oh U i d=al U'):RE Γ C H n U' (W.set i (al v)):=by
 unfold oh at h;split at h
 .rename_i z;cases h;refine⟨by rw[bw,bw];exact E.len,λ j e hj=>?_⟩;by_cases hij:j=i
  .subst hij;rw[bA z]at hj;cases hj;exact⟨b,v,by rw[bA (by rw[<-E.len];exact z)],r⟩
  .rw[aC (bH hij)]at hj;obtain⟨B,w,J,h3⟩:=E.val j e hj;exact⟨B,w,by rw[aC (bH hij)];exact J,h3⟩
 .cases h
theorem cf9 :∀ is   l   z   U U'   W ,RE Γ C H n U W->RVL Γ C H l z->nh n l=bY->oV U is l=al U'->(∀ W',RE Γ C H n U' W'->Q W' H)->ch3 is z W H Q
 | [],[],z,U,U',W,E,r,_,h,k=>by
  cases h;exact⟨r.unnil,k W E⟩
 | [],d::l,_,_,_,_,_,_,_,h,_=>by cases h
 | i::is,[],_,_,_,_,_,_,_,h,_=>by cases h
 | i::is,d::l,z,U,U',W,E,r,b,h,k=>by
  have h:(oh U i d).bind (λ U=>oV U is l)=al U':=h;obtain⟨x,B,rfl,J,Uu⟩:=r.uncons;unfold nh at b;rw[ae]at b;cases e:oh U i d with
  | none=>simp_all
  | some U1 =>
   rw[e]at h;exact⟨x,B,rfl,cf9 is l B U1 U' _ (bi8 E J b.1 e) Uu b.2 h k⟩
def bd7 :∀ {is} {U U'},oV U is l=al U'->is.length=l.length:=by
 induction l with
 | nil=>intro is U U' h;cases is with
  | nil=>rfl
  | cons i is=>cases h
 | cons d l ih=>intro is U U' h;cases is with
  | nil=>cases h
  | cons i is =>
   have h:(oh U i d).bind (λ U=>oV U is l)=al U':=h;cases e:oh U i d with
   | none=>simp_all
   | some U1=>rw[e]at h;rw[aP,aP,ih h]
def bm6 (E:RE Γ C H n U W)(r:RV Γ C H d v)(b:d.bnd n=bY)(h:nN U tg d=al U')(k:∀ W',RE Γ C H n U' W'->Q W' H):gOf Γ.K tg v W H Q:=by
 cases tg with
 | Y i=>exact k _ (bi8 E r b h)
 | tp is =>
  cases d with
  | tp l =>
   have h:=h;obtain⟨a,z,rfl,B,d1⟩:=r.tupE;unfold nr at b;exact⟨a,z,rfl,B,by rw[d1.length,bd7 h],cf9 is l z U U' W E d1 b h k⟩
  | _=>cases h
def Off (C:Nat->Addr)(s:m9)(b:Addr):Prop:=∀ i   ob ,s[i]?=al ob->isMut ob=bY->C i≠b
def Off.mono (h:Off C s b)(g:Gr C s H C' s' H')(hb:H b=al o):Off C' s' b:=λ i ob e m z=>by
 by_cases Uu:i<s.length
 .obtain⟨B,J⟩:∃ B,s[i]?=al B:=⟨s[i],au Uu⟩
  exact h i B J (g.mu i B ob J e m) (by rw[<-g.w.map i Uu];exact z)
 .have:=g.new i (by lia) (ag.mp e).1;lia
def Off.new (r:Rp Γ C H s)(h:H b=aT):Off C s b:=λ i ob e m z=>by
 obtain⟨u,hu,_⟩:=(r.obj i ob e).there m;lia
def Rp.foreign (r:Rp Γ C H s)(hb:H b=al (.J ys))(ho:Off C s b):Rp Γ C (upd H b (.J h)) s:=by
 have g:Gw C s.length H C (upd H b (.J h)):=⟨λ _ _=>rfl,(Kp.refl H).put hb rfl⟩
 exact⟨r.inj,λ i o e=>(r.obj i o e).mono g (r.wf i o e) λ m u hu=>by rw[zb (ho i o e m)];exact hu,r.wf,r.tab.put hb⟩
def Gr.foreign (g:Gr C s H C' s' H')(h0:H b=aT)(hb:H' b=al (.J ys)):Gr C s H C' s' (upd H' b (.J B)):=by
 have ne:∀ c o,H c=al o->c≠b:=λ c o e=>zw e h0;refine⟨⟨g.w.map,λ c o e f=>?_⟩,g.le,g.new,g.kd,λ c hc=>?_,λ c o kvs e=>by rw[zb (ne c _ e)];exact g.fz c o kvs e,λ c o e z h=>?_⟩
 .rw[zb (ne c o e)];exact g.w.kp c o e f
 .unfold upd;split
  .simp
  .exact g.st c hc
 .rw[zb (ne c o e)];exact g.fr c o e z h
def bT8 (Γ:Gm)(C:Nat->Addr)(s:m9)(H:Hp)(l:List ng)(s':m9)(Q:VK):Prop :=
 ∀ p ys C' H',Gr C s H C' s' H'->s.length<=s'.length->nh s'.length l=bY->H' p=al (.J ys)->H p=aT->Off C' s' p->RVL Γ C' H' l ys->Rp Γ C' H' s'->Q (.ref p) H'
def TFv (Γ:Gm)(m:ni->m9->nk (List ng)):TE:=λ W H Q=>∃ C U s l s',RE Γ C H s.length U W/\Rp Γ C H s/\m U s=.ok l s'/\bT8 Γ C s H l s' Q
def aG5 (h:TEv Γ (λ U s=>(m U s).bind λ l s=>ow (.J l) s) W H Q):TFv Γ m W H Q:=by
 obtain⟨C,U,s,d,s',E,R,Y,q⟩:=h;obtain⟨l,s1,e1,Y⟩:=aa1 Y;obtain⟨rfl,rfl⟩:=qr Y;refine⟨C,U,s,l,s1,E,R,e1,λ p ys C' H' g hl hb hp h0 ho r J=>?_⟩;have gw:Gw C' s1.length H' (λ i=>if i=s1.length then p else C' i) H':=⟨λ i z=>gc (aH z),Kp.refl _⟩
 have key:∀ i   B ,(s1++[DV.O.J l])[i]?=al B->(i<s1.length/\s1[i]?=al B)\/(i=s1.length/\B=.J l):=λ i B e=>by
  rcases gI i s1.length with h|h|h
  .rw[aD h]at e;exact .inl ⟨h,e⟩
  .subst h;simp at e;exact .inr ⟨rfl,e.symm⟩
  .rw[bZ (by simp;lia)]at e;cases e
 have G:Gr C s H (λ i=>if i=s1.length then p else C' i) (s1++[.J l]) H':=by
  refine⟨⟨λ i z=>by skip;rw[gc (by lia)];exact g.w.map i z,g.w.kp⟩,by simp;lia,λ i h1 h2=>?_,λ i o B e e'=>?_,g.st,g.fz,g.fr⟩
  .by_cases z:i=s1.length
   .skip
    rw[ef z];exact h0
   .skip
    rw[gc z];exact g.new i h1 (by simp at h2;lia)
  .rcases key i B e' with⟨_,e2⟩|⟨z,_⟩
   .exact g.kd i o B e e2
   simp_all
 have P:Rp Γ (λ i=>if i=s1.length then p else C' i) H' (s1++[.J l]):=by
  refine⟨λ i j oi Z Uu ej mi mj e=>?_,λ i o e=>?_,λ i o e=>?_,J.tab⟩
  .rcases key i oi Uu with⟨z,Uu⟩|⟨z,_⟩<;>rcases key j Z ej with⟨hj,ej⟩|⟨hj,_⟩
   .rw[gc (aH z),gc (aH hj)]at e;exact J.inj i j oi Z Uu ej mi mj e
   .rw[gc (aH z),ef hj]at e;exact iS e (ho i oi Uu mi)
   .rw[gc (aH hj),ef z]at e;exact iS e.symm (ho j Z ej mj)
   .rw[z,hj]
  .rcases key i o e with⟨z,e⟩|⟨z,rfl⟩
   .skip
    rw[gc (aH z)];exact(J.obj i o e).mono gw (J.wf i o e) λ _ u hu=>hu
   .skip
    rw[ef z];exact⟨ys,hp,RVL.monoW gw l ys hb r⟩
  .rw[aM,cD];rcases key i o e with⟨_,e⟩|⟨_,rfl⟩
   .exact qi (dC _) _ (J.wf i o e)
   .exact qi (dC _) _ (by unfold nu;exact hb)
 exact q (.ref p) _ H' G (by simp;omega) (by unfold nr;simp) (by unfold RV;simp) P
def bU5 (E:RE Γ C H n U W) h :RE Γ C H n (oM U h) (aC4 h W):=by
 refine⟨by unfold oM aC4;simp,λ i d e=>?_⟩;unfold oM at e;rw[aL]at e;cases q:h[i]? with
 | none=>simp_all
 | some o =>
  rw[q]at e;cases o with
  | none=>cases e
  | some j =>
   have e':(U[j]?).join=al d:=av e;have ej:U[j]?=al (al d):=by
    cases q2:U[j]? with
    | none=>rw[q2]at e';cases e'
    | some o2=>rw[q2]at e';exact congrArg al e'
   obtain⟨b,v,z,B⟩:=E.val j d ej;refine⟨b,v,?_,B⟩;unfold aC4
   simp_all
set_option tactic.hygienic true in
def ba6 
  (h:TFv Γ (λ U s=>(mI U s).bind λ q s0=>if q.its.length<=nv then oZ (λ s=>n9 s0 s q.src) (λ d U s=>match nN U tg d with
   | some U=>nE (mc U s) λ k s=>if k then(me U s).bind λ v s=>.ok (al v,U) s else .ok (aT,U) s
   | none=>.B) q.its (oM U Y) s0 else .B) W H Q):tComp Y (TIv Γ mI) (gOf Γ.K tg) (TTv Γ mc) (TEv Γ me) W H Q:=by
 obtain⟨C,U,s,l,s',E,R,hm,k⟩:=h;obtain⟨q,s0,e1,hm⟩:=aa1 hm;split at hm
 case isFalse=>exact fb hm
 rename_i b4;refine⟨C,U,s,q,s0,E,R,e1,λ J C1 H1 g1 l1 b1 R1 wk D hD=>?_⟩;have h0:H D=none:=by
  cases e:H D with
  | none=>rfl
  | some o=>exact iS hD (g1.st D (by rw[e];simp))
 refine⟨λ i m W' H'=>∃ C' U' t B ys rest,Gr C1 s0 H1 C' t H'/\Rp Γ C' H' t/\RE Γ C' H' t.length U' W'/\H' D=al (.J ys)/\Off C' t D/\RVL Γ C' H' B ys/\nh t.length B=bY/\B.length<=i/\i<=q.its.length/\m=q.its.length - i /\
  oZ (λ s=>n9 s0 s q.src) (λ d U s=>match nN U tg d with
   | some U=>nE (mc U s) λ k s=>if k then(me U s).bind λ v s=>.ok (al v,U) s else .ok (aT,U) s
   | none=>.B) (q.its.drop i) U' t=.ok rest s'/\l=B++rest,⟨q.its.length,?_⟩,?_⟩
 .obtain⟨g2,R2⟩:=R1.same ((ag5.refl H1).new hD);exact⟨C1,oM U Y,s0,[],[],l,g2,R2,bU5 ((E.mono g1 l1).mono g2 (aj _)) Y,zg,Off.new R1 hD,.nil,rfl,aj _,cq _,by simp,by rw[d7];exact hm,rfl⟩
 .rintro i m W' H' ⟨C',U',t,B,ys,rest,g,R',E',hy,a2,ra,ba,b6,hil,rfl,hc,hl⟩
  have Uu:=g.le;rcases kH i q.its.length with hlt|hge
  .have hd:=au hlt;rw[cI hlt]at hc;unfold oZ at hc;split at hc
   case isFalse=>exact fb hc
   rename_i a4;obtain⟨b3,b0⟩:=(wk C' H' t g Uu R' a4 i).1 hlt;refine .inr ⟨b3,_,λ W2 H2 n=>⟨q.its.length - (i+1),by omega,n⟩,λ x H2 a8=>?_⟩;obtain⟨sm,rv⟩:=b0 x H2 a8;obtain⟨g2,R2⟩:=R'.same sm;have rd:=rv _ hd;have bd:=zm Uu _ (ah8 b1 hd);obtain⟨p,t3,hs,hc⟩:=aa1 hc;obtain⟨r2,t4,a5,hc⟩:=aa1 hc;cases hb:nN U' tg q.its[i]with
   | none=>rw[hb]at hs;cases hs
   | some U3 =>
    rw[hb]at hs;refine bm6 (E'.mono g2 (aj _)) rd bd hb λ W3 E3=>?_;obtain⟨c,t1,ec,hs⟩:=zQ hs;refine⟨C',U3,t,c,t1,E3,R2,ec,λ C2 H4 g4 l4 R4=>?_⟩;have a6:=sm _ _ hy;have a3:=g4.fr D _ a6 (by nofun) a2;have Z:=a2.mono g4 a6;have G4:=(g.trans g2 Uu).trans g4 Uu;cases c with
    | true =>
     rw[ef rfl]at hs;refine iteT ?_;obtain⟨v,t2,ev,hs⟩:=aa1 hs;cases hs;refine⟨C2,U3,t1,v,t3,E3.mono g4 l4,R4,ev,λ w C3 H5 g5 l5 b5 r5 R5=>?_⟩;have a0:=g5.fr D _ a3 (by nofun) Z;have a1:=Z.mono g5 a3;refine⟨ys,a0,?_,?_⟩
     .rw[ra.length];have:=qj;lia
     .have gw:Gw C3 t3.length H5 C3 (upd H5 D (.J (ys++[w]))):=⟨λ _ _=>rfl,(Kp.refl H5).put a0 rfl⟩
      have G5:=G4.trans g5 (aq Uu l4);have GG:=g2.trans (g4.trans g5 l4) (aj _);have b2:=RVL.mono GG _ _ ba ra;have bb:nh t3.length (B++[v])=true:=qJ (ab0 GG.le _ ba) (by unfold nh;rw[b5];rfl);refine⟨C3,U3,t3,B++[v],ys++[w],r2,G5.foreign hD a0,R5.foreign a0 a1,?_,zg,a1,RVL.monoW gw _ _ bb (b2.append (.cons r5 .nil)),bb,by simp;omega,hlt,rfl,?_,?_⟩
      .have E5:=(E3.mono g4 l4).mono g5 l5;exact⟨E5.len,λ j e hj=>by
        obtain⟨h1,z,h2,h3⟩:=E5.val j e hj;exact⟨h1,z,h2,RV.monoW gw _ _ h1 h3⟩⟩
      .cases hc;exact a5
      .cases hc;rw[hl];simp
    | false =>
     rw[gc br]at hs;refine ct6 ?_;cases hs;have GG:=g2.trans g4 (aj _);exact⟨C2,U3,t3,B,ys,r2,G4,R4,E3.mono g4 l4,a3,Z,RVL.mono GG _ _ ba ra,ab0 l4 _ ba,by lia,hlt,rfl,by cases hc;exact a5,by cases hc;exact hl⟩
  .have hi:=by omega
   rw[fx hge]at hc;unfold oZ at hc;split at hc
   case isFalse=>exact fb hc
   rename_i a4;cases hc;refine .inl ⟨(wk C' H' s' g Uu R' a4 i).2 hge,?_⟩;rw[aY]at hl;subst hl;exact k D ys C' H' (g1.trans g l1) (aq l1 Uu) ba hy h0 a2 ra R'
variable {Γ:Gm} {X:Cx}
def cq2 (Γ:Gm)(C:Nat->Addr)(H:Hp)(n:Nat)(D:Ends):nZ->Prop
 | .next U=>∀ W,RE Γ C H n U W->D.nx W H
 | .ret d=>∀ v,d.bnd n=bY->RV Γ C H d v->D.rt v H
 | .cont U=>∀ W,RE Γ C H n U W->D.ct W H
 | .brk U=>∀ W,RE Γ C H n U W->D.bk W H
def ao8 (Γ:Gm)(C:Nat->Addr)(s:m9)(H:Hp)(c:nZ)(s':m9)(D:Ends):Prop :=
 ∀ C' H',Gr C s H C' s' H'->s.length<=s'.length->Rp Γ C' H' s'->cq2 Γ C' H' s'.length D c
def TSv (Γ:Gm)(m:ni->m9->nk nZ):TS:=λ D W H=>∃ C U s c s',RE Γ C H s.length U W/\Rp Γ C H s/\m U s=.ok c s'/\ao8 Γ C s H c s' D
def PS.imp (h:PS X e t)(i:∀ D W H,t' D W H->t D W H):PS X e t':=λ z s W H Q I q=>h z s W H Q I (i Q W H q)
def PSs.imp (h:PSs X e t)(i:∀ D W H,t' D W H->t D W H):PSs X e t':=λ z s W H Q I q=>h z s W H Q I (i Q W H q)
theorem ao8.trans {D}(h:ao8 Γ C s H c s' D)(g:Gr C s H C1 s1 z)(l:s.length<=s1.length):ao8 Γ C1 s1 z c s' D :=
 λ C' H' g' B p=>h C' H' (g.trans g' l) (aq l B) p
def ao8.here {D}(h:ao8 Γ C s H c s D)(p:Rp Γ C H s):cq2 Γ C H s.length D c:=h C H (Gr.refl C s H) (aj _) p
variable {D:Ends} {W:St} {H:Hp}
def bQ1 (z:∀ U s,m U s=.ok (.next U) s)(h:TSv Γ m D W H):bY1 D W H:=by
 obtain⟨C,U,s,c,s',E,R,e,q⟩:=h;rw[z]at e;cases e;exact q.here R W E
def bC7 (h:TSv Γ (λ U s=>.ok (.ret .N) s) D W H):cc9 D W H:=by
 obtain⟨C,U,s,c,s',E,R,e,q⟩:=h;cases e;exact q.here R .N rfl RV.nonI
def bX8 (h:TSv Γ (λ U s=>(m U s).bind λ d s=>.ok (.ret d) s) D W H):cr1 (TEv Γ m) D W H:=by
 obtain⟨C,U,s,c,s',E,R,e,q⟩:=h;obtain⟨x,s1,e1,e⟩:=aa1 e;cases e;exact⟨C,U,s,x,_,E,R,e1,λ v C1 z g1 l1 b1 r1 R1=>q C1 z g1 l1 R1 v b1 r1⟩
def bD7 (h:TSv Γ (λ U s=>(m U s).bind λ _ s=>.ok (.next U) s) D W H):bY3 (TEv Γ m) D W H:=by
 obtain⟨C,U,s,c,s',E,R,e,q⟩:=h;obtain⟨x,s1,e1,e⟩:=aa1 e;cases e;exact⟨C,U,s,x,_,E,R,e1,λ v C1 z g1 l1 b1 r1 R1=>q C1 z g1 l1 R1 W (E.mono g1 l1)⟩
def bj0 (h:TSv Γ (λ U s=>(m U s).bind λ d s=>match nN U tg d with|some U=>.ok (.next U) s|none=>.B) D W H):bq2 (TEv Γ m) (gOf Γ.K tg) D W H:=by
 obtain⟨C,U,s,c,s',E,R,e,q⟩:=h;obtain⟨x,s1,e1,e⟩:=aa1 e;refine⟨C,U,s,x,s1,E,R,e1,λ v C1 z g1 l1 b1 r1 R1=>?_⟩;cases hb:nN U tg x with
 | none=>simp_all
 | some U1 =>
  rw[hb]at e;cases e;exact bm6 (E.mono g1 l1) r1 b1 hb λ W' B=>q C1 z g1 l1 R1 W' B
def bv4 (h:TSv Γ (λ U s=>((m U s).bind λ l s=>ow (.J l) s).bind λ d s=>match nN U tg d with|some U=>.ok (.next U) s|none=>.B) D W H):bq2 (TFv Γ m) (gOf Γ.K tg) D W H :=
 aG5 (bj0 h)
def cc8 (Γ:Gm):cg9:=λ o i v H Q=>∃ C s x y d s',Rp Γ C H s/\RV Γ C H x o/\RV Γ C H y i/\RV Γ C H d v/\x.bnd s.length=bY/\y.bnd s.length=bY/\d.bnd s.length=bY/\oI x y d s=.ok () s' /\
 ∀ C' H',Gr C s H C' s' H'->s.length<=s'.length->Rp Γ C' H' s'->Q H'
def bv0 (h:TSv Γ (λ U s=>(Uu U s).bind λ d s=>(mo U s).bind λ x s=>(mi U s).bind λ y s=>(oI x y d s).bind λ _ s=>.ok (.next U) s) D W H) :
  bq2 (TEv Γ Uu) (cr0 (TEv Γ mo) (TEv Γ mi) (cc8 Γ)) D W H:=by
 refine wl λ _ ua=>?_;obtain⟨C,U,s,c,s',E,R,e,q⟩:=h;obtain⟨d,s1,e1,e⟩:=aa1 e;obtain⟨x,s2,e2,e⟩:=aa1 e;obtain⟨y,s3,e3,e⟩:=aa1 e;obtain⟨u,s4,e4,e⟩:=aa1 e;cases e;refine ua ⟨C,U,s,d,s1,E,R,e1,λ v1 C1 H1 g1 l1 b1 r1 R1=>?_⟩;refine⟨C1,U,s1,x,s2,E.mono g1 l1,R1,e2,λ v2 C2 H2 Z J b2 r2 R2=>?_⟩;have G2:=g1.trans Z l1;have L2:=aq l1 J;refine⟨C2,U,s2,y,s3,E.mono G2 L2,R2,e3,λ v3 C3 H3 z B b3 r3 R3=>?_⟩;refine⟨C3,s3,x,y,d,_,R3,RV.mono z x v2 b2 r2,r3,RV.mono (Z.trans z J) d v1 b1 r1,zm B x b2,b3,zm (aq J B) d b1,e4,λ C4 H4 Y l4 R4=>?_⟩;have G3:=G2.trans z L2;have L3:=aq L2 B;exact q C4 H4 (G3.trans Y L3) (aq L3 l4) R4 W (E.mono (G3.trans Y L3) (aq L3 l4))
set_option tactic.hygienic true in
def cd9 (hu:X.A.units+2<cLine):cn1 X (cc8 Γ):=by
 intro Y sh W H o i v ov iv u Q I ro ri rv h;obtain⟨C,s,x,y,d,s',R,rx,ry,rd,bx,a0,bd,B,q⟩:=h;cases x with
 | ref r =>
  have B:(match s[r]? with
   | some (.J l)=>(match y with
    | .int i=>(match oy l.length i with|some j=>DV.R.ok () (s.set r (.J (l.set j d)))|none=>.B)
    | _=>.B)
   | some (.dc l)=>if y.key&&decide (l.length<nv)then .ok () (s.set r (.dc (nG y d l)))else .B
   | some (.dit l)=>if y.keyT&&decide (l.length<nv)then .ok () (s.set r (.dit (nG y d l)))else .B
   | _=>.B)=.ok () s':=B
  cases e:s[r]? with
  | none=>simp_all
  | some ob =>
   rw[e]at B;cases ob with
   | J l =>
    cases y with
    | int k =>
     have B:(match oy l.length k with|some j=>DV.R.ok () (s.set r (.J (l.set j d)))|none=>.B)=.ok () s':=B;cases ej:oy l.length k with
     | none=>simp_all
     | some j =>
      rw[ej]at B;cases B;obtain⟨xs,h1,J⟩:=R.addr e;have hb:nh s.length (l.set j d)=true:=ab3.mpr λ z hz=>by
       rcases gu hz with h|h
       .exact ab3.mp (by have:=R.wf r _ e;unfold nu at this;exact this) z h
       lia
      refine bs2 Y sh W H o i v ov iv u Q I ro ri rv ⟨C r,xs,k,j,rx.refE,ry.intE,h1,?_,?_⟩
      .rw[J.length];exact ej
      .obtain⟨g,Z⟩:=R.set (o:=.J (l.set j d)) e rfl hb λ H' g e=>⟨_,e,RVL.monoW g _ _ hb (J.set j rd)⟩
       exact q _ _ g (by simp) Z
    | _=>exact fb B
   | dc l =>
    have B:(if y.key&&decide (l.length<nv)then DV.R.ok () (s.set r (.dc (nG y d l)))else .B)=.ok () s':=B;split at B
    case isFalse=>exact fb B
    rename_i hc;cases B;rw[ae]at hc;obtain⟨k,hk⟩:=an1 hc.1;have hlt:=dO hc.2;obtain⟨kvs,h1,J⟩:=R.obj r _ e;have ex:=rx.refE;subst ex;cases ro;have ey:=aO0 hk ry;subst ey;have hb:=aL5 (R.wf r _ e) a0 bd;have Uu:=by
     unfold nu at hb;rw[ae]at hb;exact hb.2
    obtain⟨g,Z⟩:=R.set e rfl hb λ H' g e=>⟨_,e,RVD.monoW g _ _ Uu (J.put keyOf_inj hk rd)⟩
    exact aB8 hu I (bP0.k h1 (by rw[J.length];exact az hlt qj)) ri rv λ s4 I4=>⟨_,I4,q _ _ g (by simp) Z⟩
   | dit l =>
    have B:(if y.keyT&&decide (l.length<nv)then DV.R.ok () (s.set r (.dit (nG y d l)))else .B)=.ok () s':=B;split at B
    case isFalse=>exact fb B
    rename_i hc;cases B;rw[ae]at hc;obtain⟨k,hk⟩:=as0 hc.1;have hlt:=dO hc.2;obtain⟨kvs,h1,J⟩:=R.obj r _ e;have ex:=rx.refE;subst ex;cases ro;obtain⟨kb,ey,a1⟩:=aF7 hk ry;subst ey;have hb:=bn7 (R.wf r _ e) a0 bd;have Uu:=by
     unfold nu at hb;rw[ae]at hb;exact hb.2
    obtain⟨g,Z⟩:=R.set e rfl hb λ H' g e=>⟨_,e,RVD.monoW g _ _ Uu (J.put keyT_inj hk rd)⟩
    exact aB8 hu I (bP0.t h1 a1 (by rw[J.length];exact az hlt qj)) ri rv λ s4 I4=>⟨_,I4,q _ _ g (by simp) Z⟩
   | _=>exact fb B
 | _=>exact fb B
set_option tactic.hygienic true in
def bZ3  (h:TSv Γ (λ U s=>(pf U i s).bind λ x s=>(m U s).bind λ y s=>match x,y with
  | .int a,.int b=>match oh U i (.int (a+b))with|some U=>.ok (.next U) s|none=>.B
  | _,_=>.B) D W H):cq0 i (TEv Γ m) (ipI λ i j=>i+j) D W H:=by
 obtain⟨C,U,s,c,s',E,R,z,q⟩:=h;obtain⟨x,s1,e1,B⟩:=aa1 z;obtain⟨y,s2,e2,e⟩:=aa1 B;clear z B;unfold pf at e1;split at e1
 case h_2=>cases e1
 rename_i d hd;cases e1;obtain⟨b,v,J,Y⟩:=E.val i _ hd;refine⟨v,J,C,U,s,y,s2,E,R,e2,λ w C1 Uu g1 l1 b1 r1 R1=>?_⟩;cases x with
 | int a =>
  cases y with
  | int b =>
   refine⟨a,b,Y.intE,r1.intE,?_⟩;have e:(match oh U i (.int (a+b))with|some U=>DV.R.ok (DV.Ct.next U) s2|none=>.B)=.ok c s':=e;cases hs:oh U i (.int (a+b))with
   | none=>simp_all
   | some U1 =>
    rw[hs]at e;cases e;exact q C1 Uu g1 l1 R1 _ (bi8 (E.mono g1 l1) RV.intI rfl hs)
  | _=>cases e
 | _=>cases e
def cn8 (h:TSv Γ (λ U s=>nE (mc U s) λ k s=>if k then J U s else B U s) D W H):cs6 (TTv Γ mc) (TSv Γ J) (TSv Γ B) D W H:=by
 obtain⟨C,U,s,d,s',E,R,z,q⟩:=h;obtain⟨c,s1,e1,z⟩:=zQ z;refine⟨C,U,s,c,s1,E,R,e1,λ C1 Uu g1 l1 R1=>?_⟩;cases c with
 | true =>
  rw[ef rfl]at z ⊢;exact⟨C1,U,s1,d,s',E.mono g1 l1,R1,z,q.trans g1 l1⟩
 | false =>
  rw[gc br]at z ⊢;exact⟨C1,U,s1,d,s',E.mono g1 l1,R1,z,q.trans g1 l1⟩
set_option tactic.hygienic true in
def bA7 (h:TSv Γ (λ U s=>(Uu U s).bind λ c s=>match c with|.next U=>J U s|c=>.ok c s) D W H):cl2 (TSv Γ Uu) (TSv Γ J) D W H:=by
 obtain⟨C,U,s,c,s',E,R,z,q⟩:=h;obtain⟨c1,s1,e1,z⟩:=aa1 z;refine⟨C,U,s,c1,s1,E,R,e1,λ C1 B g1 l1 R1=>?_⟩;cases c1 with
 | next U1=>exact λ W1 Y=>⟨C1,U1,s1,c,s',Y,R1,z,q.trans g1 l1⟩
 | ret d=>cases z;exact q C1 B g1 l1 R1
 | cont U=>cases z;exact q C1 B g1 l1 R1
 | brk U=>cases z;exact q C1 B g1 l1 R1
set_option tactic.hygienic true in
def bn6 (h:TSv Γ (DV.whl mc mb) D W H):bh5 (TTv Γ mc) (TSv Γ mb) D W H:=by
 obtain⟨C,U,s,c,s',E,R,z,q⟩:=h;unfold DV.whl at z;split at z
 case isFalse=>exact fb z
 rename_i hn;generalize hn.choose=n at z;refine⟨λ n W H=>∃ C U s,RE Γ C H s.length U W/\Rp Γ C H s/\DV.al5 mc mb n U s=.ok c s'/\ao8 Γ C s H c s' D,⟨n,C,U,s,E,R,z,q⟩,?_⟩;clear E R z q hn
 rintro n W H ⟨C,U,s,E,R,z,q⟩
 cases n with
 | zero=>exact fb z
 | succ n =>
  unfold DV.al5 at z;obtain⟨b,s1,e1,z⟩:=zQ z;refine⟨C,U,s,b,s1,E,R,e1,λ C1 Y g1 l1 R1=>?_⟩;cases b with
  | false =>
   rw[gc br]at z ⊢;cases z;exact q C1 Y g1 l1 R1 W (E.mono g1 l1)
  | true =>
   rw[ef rfl]at z ⊢;obtain⟨c1,s2,e2,z⟩:=aa1 z;refine⟨_,λ W' H' w=>⟨n,dv n,w⟩,C1,U,s1,c1,s2,E.mono g1 l1,R1,e2,λ C2 H2 Uu J R2=>?_⟩;have G:=g1.trans Uu l1;have L:=aq l1 J;cases c1 with
   | next U1=>exact λ W1 B=>⟨C2,U1,s2,B,R2,z,q.trans G L⟩
   | cont U1=>exact λ W1 B=>⟨C2,U1,s2,B,R2,z,q.trans G L⟩
   | ret d=>cases z;exact q C2 H2 G L R2
   | brk U=>cases z;exact q C2 H2 G L R2
set_option tactic.hygienic true in
def bS8  (h:TSv Γ (λ U s=>(mI U s).bind λ q s0=>ph (λ s=>n9 s0 s q.src) (λ d U s=>match nN U tg d with
  | some U=>mb U s
  | none=>.B) q.its U s0) D W H):ck8 (TIv Γ mI) (gOf Γ.K tg) (TSv Γ mb) D W H:=by
 obtain⟨C,U,s,c,s',E,R,hm,k⟩:=h;obtain⟨q,s0,e1,hm⟩:=aa1 hm;refine⟨C,U,s,q,s0,E,R,e1,λ J C1 H1 g1 l1 b1 R1 wk=>?_⟩;refine⟨λ i m W' H'=>∃ C' U' t,Gr C1 s0 H1 C' t H'/\Rp Γ C' H' t/\RE Γ C' H' t.length U' W'/\i<=q.its.length/\m=q.its.length - i /\
  ph (λ s=>n9 s0 s q.src) (λ d U s=>match nN U tg d with
   | some U=>mb U s
   | none=>.B) (q.its.drop i) U' t=.ok c s',⟨q.its.length,?_⟩,?_⟩
 .exact⟨C1,U,s0,Gr.refl _ _ _,R1,E.mono g1 l1,cq _,by simp,by rw[d7];exact hm⟩
 .rintro i m W' H' ⟨C',U',t,g,Uu,E',hil,rfl,hc⟩
  have z:=g.le;rcases kH i q.its.length with hlt|hge
  .have hd:=au hlt;rw[cI hlt]at hc;unfold ph at hc;split at hc
   case isFalse=>exact fb hc
   rename_i B;obtain⟨a0,a1⟩:=(wk C' H' t g z Uu B i).1 hlt;refine .inr ⟨a0,_,λ W2 H2 n=>⟨q.its.length - (i+1),by omega,n⟩,λ x H2 Z=>?_⟩;obtain⟨sm,rv⟩:=a1 x H2 Z;obtain⟨g2,R2⟩:=Uu.same sm;have rd:=rv _ hd;have bd:=zm z _ (ah8 b1 hd);obtain⟨c1,t3,hs,hc⟩:=aa1 hc;cases hb:nN U' tg q.its[i]with
   | none=>rw[hb]at hs;cases hs
   | some U3 =>
    rw[hb]at hs;refine bm6 (E'.mono g2 (aj _)) rd bd hb λ W3 E3=>?_;refine⟨C',U3,t,c1,t3,E3,R2,hs,λ C2 H4 g4 l4 Y=>?_⟩;have G4:=(g.trans g2 z).trans g4 z;have L4:=aq z l4;have GG:=g1.trans G4 l1;cases c1 with
    | next U1=>exact λ W1 E1=>⟨C2,U1,t3,G4,Y,E1,hlt,rfl,hc⟩
    | cont U1=>exact λ W1 E1=>⟨C2,U1,t3,G4,Y,E1,hlt,rfl,hc⟩
    | ret d=>cases hc;exact k C2 H4 GG (aq l1 L4) Y
    | brk U=>cases hc;exact k C2 H4 GG (aq l1 L4) Y
  .rw[fx hge]at hc;unfold ph at hc;split at hc
   case isFalse=>exact fb hc
   rename_i B;cases hc;exact .inl ⟨(wk C' H' s' g z Uu B i).2 hge,k C' H' (g1.trans g l1) (aq l1 z) Uu W' E'⟩
structure Ck where
 N:List Str
 sc:Scope
 lk:String->List Nat->Expr->Bool
noncomputable abbrev ck0 (N:yI)(sc:Scope):Ck:=⟨N,sc,λ _ _ _=>ce⟩
noncomputable def Ck.vis (c:Ck)(x:Str):Bool:=match c.sc.names.lookup x with|some .local=>bY|some .cell=>bY|some .free=>bY|_=>ce
noncomputable def Ck.loc (c:Ck)(x:Str):Bool:=match c.sc.names.lookup x with|some .local=>bY|some .cell=>bY|_=>ce
noncomputable def Ck.gl (c:Ck)(x:Str):Bool:=(match c.sc.names.lookup x with|some .globalImplicit=>bY|_=>ce)&&!(x==("__debug__"))&&!decide (x=("__name__"))
noncomputable def Ck.var (c:Ck)(i:Nat)(x:Str):Bool:=decide (c.N[i]?=al x)&&c.vis x&&!(x==("__debug__"))&&!(x==("__classdict__"))
noncomputable def shp:Expr->Bool
 | .Starred ..=>ce
 | .Set ..=>ce
 | .SetComp ..=>ce
 | .DictComp ..=>ce
 | .GeneratorExp ..=>ce
 | .Slice ..=>ce
 | .NamedExpr ..=>ce
 | _=>bY
noncomputable def ap1:Expr->Bool
 | .ListComp ..=>ce
 | .SetComp ..=>ce
 | .DictComp ..=>ce
 | _=>bY
noncomputable def cg3:Expr->Bool
 | .Tuple ..=>ce
 | _=>bY
noncomputable def ce8:Expr->Bool
 | .Call _ [] [] _=>ce
 | _=>bY
noncomputable def mC:DV.Cn->Const->Bool
 | .N,.none=>bY
 | .T b,.bool c=>b==c
 | .int i,.int j=>decide (i=j)
 | .str x,.str y=>decide (y=⟨x.toArray⟩)&&decide (x.length<=1000)
 | _,_=>ce
noncomputable def ch6 (ck:Ck):List Nat->List Expr->Bool
 | [],[]=>bY
 | i::is,.Name x _::es=>decide (ck.N[i]?=al x)&&ck.loc x&&ch6 ck is es
 | _,_=>ce
def mTg (ck:Ck):og->Expr->Bool
 | .Y i,.Name x _=>decide (ck.N[i]?=al x)&&ck.loc x
 | .tp is,.Tuple es _ _=>ch6 ck is es
 | _,_=>ce
noncomputable def tgN:Expr->List Str
 | .Name x _=>[x]
 | .Tuple es _ _=>es.filterMap λ e=>match e with|.Name x _=>al x|_=>aT
 | _=>[]
structure ItT where
 x:Str
 y:Str
 ob:Expr
 sc:Scope
 p1:Pos
 p2:Pos
 p3:Pos
 p4:Pos
 p5:Pos
 p6:Pos
 p7:Pos
 k1:Nat
 k2:Nat
 ap:Pos
 cp:Pos
 pos:Pos
noncomputable def ItT.tg (q:ItT):Expr:=.Tuple [.Name q.x q.p5,.Name q.y q.p6] q.k2 q.p7
noncomputable def ItT.it (q:ItT):Expr:=.Call (.Attribute q.ob "items" q.ap) [] [] q.cp
noncomputable def ItT.text (q:ItT):Expr:=.ListComp (.BinOp (.Name q.x q.p1) .Add (.Tuple [.Name q.y q.p2] q.k1 q.p3) q.p4) [⟨q.tg,q.it,[],0⟩] q.sc q.pos
def ckC (ck:Ck)(tgt:Expr)(caps:yE)(scope:Scope):Ck:=⟨tgN tgt++(caps.filterMap id).map λ j=>ck.N.getD j "",scope,λ _ _ _=>ce⟩
def aS8 (ck:Ck)(tg:og)(tgt iter:Expr)(caps:yE)(scope:Scope):Bool :=
 qa (ckC ck tgt caps scope).N caps scope ck.N ck.sc&&decide ((ckC ck tgt caps scope).N.Nodup)&&mTg (ckC ck tgt caps scope) tg tgt&&shp iter
noncomputable def isK:DV.L->Bool
 | .compK ..=>bY
 | _=>ce
def noK:ot->Bool
 | .mk _ l=>!isK l
 | _=>bY
noncomputable def biT:on->Option Str
 | .len=>al "len" | .abs=>al "abs" | .min2=>al "min" | .max2=>al "max" | .max3=>al "max" | .int=>al "int" | .str=>al "str" | _=>aT
noncomputable def biK:on->Option (Nat×Str)
 | _=>aT
noncomputable def mkT:o4->Option Str
 | .tuple=>al "tuple" | .list=>al "list" | _=>aT
noncomputable def mkF:o4->Option Str
 | .min=>al "min" | _=>aT
noncomputable def mtT:o5->Option (Str×Nat)
 | .append=>al ("append",1)|_=>aT
noncomputable def bs0:n6->Bool
 | .nil=>ce
 | .ex _ as=>bs0 as
 | .lam _ _ _=>bY
 | .fn _ as=>bs0 as
def ch0 (ck:Ck)(b:on)(x:Str)(xs:yL)(m1 m2:Bool):Bool:=match biK b with
 | some p=>(match xs with|[_,.Name y _]=>decide (x=("isinstance"))&&ck.gl x&&decide (y=p.2)&&ck.gl y&&m2|_=>ce)
 | none=>(match xs with|_::_=>decide (biT b=al x)&&ck.gl x&&m1|[]=>ce)
noncomputable def lamArgs:bD->Option (List Str)
 | ⟨[],args,aT,[],[],aT,[]⟩=>al (args.map (·.arg))
 | _=>aT
mutual
noncomputable def mE (ck:Ck):ot->Expr->Bool
 | .X i,E=>match E with|.Name x _=>ck.var i x|_=>ce
 | .K c,E=>match E with|.Constant v _ _=>mC c v|_=>ce
 | .gl g,E=>match E with|.Name x _=>decide (x=(g:Str))&&ck.gl x|_=>ce
 | .G op a b,E=>match E with|.BinOp l o r _=>decide (o=cn6 op)&&mE ck a l&&mE ck b r|_=>ce
 | .not a,E=>match E with|.UnaryOp .Not l _=>mE ck a l|_=>ce
 | .Z op a b,E=>match E with|.Compare l [o] [r] _=>decide (o=bD0 op)&&mE ck a l&&mE ck b r|_=>ce
 | .isN a,E=>match E with|.Compare l [.Is] [.Constant .none _ _] _=>mE ck a l|_=>ce
 | .notN a,E=>match E with|.Compare l [.IsNot] [.Constant .none _ _] _=>mE ck a l|_=>ce
 | .and a b,E=>match E with
  | .BoolOp .And [l,r] _=>mE ck a l&&mE ck b r
  | .BoolOp .And (l::m::r::es) p=>mE ck a l&&mE ck b (.BoolOp .And (m::r::es) p)
  | _=>ce
 | .or a b,E=>match E with
  | .BoolOp .Or [l,r] _=>mE ck a l&&mE ck b r
  | .BoolOp .Or (l::m::r::es) p=>mE ck a l&&mE ck b (.BoolOp .Or (m::r::es) p)
  | _=>ce
 | .ite c a b,E=>match E with|.IfExp t l r _=>mE ck c t&&mE ck a l&&mE ck b r|_=>ce
 | .tp es,E=>match E with|.Tuple xs _ _=>mEs ck es xs&&decide (xs.length<=1000)|_=>ce
 | .J es,E=>match E with|.List xs _=>mEs ck es xs&&decide (xs.length<=1000)|_=>ce
 | .dc ks vs,E=>match E with|.Dict a b _=>(match a,b with|[],[]=>mEs ck ks []&&mEs ck vs []|[al x],[y]=>mEs ck ks [x]&&mEs ck vs [y]|_,_=>ce)|_=>ce
 | .slU a hi,E=>match E with|.Subscript o (.Slice aT (al h) aT _) _=>mE ck a o&&mE ck hi h|_=>ce
 | .dicT,E=>match E with|.Dict [] [] _=>bY|_=>ce
 | .ix a b,E=>match E with|.Subscript o i _=>mE ck a o&&mE ck b i|_=>ce
 | .call f as,E=>match E with|.Call (.Name x _) xs [] _=>decide (x=(f:Str))&&ck.gl x&&mAs ck as xs|_=>ce
 | .callC f as,E=>match E with|.Call (.Name x _) (y::ys) [] _=>decide (x=(f:Str))&&ck.gl x&&bs0 as&&bQ2 ck as (y::ys)|_=>ce
 | .callV i es,E=>match E with|.Call (.Name x _) (y::ys) [] _=>ck.var i x&&mEs ck es (y::ys)|_=>ce
 | .bi b es,E=>match E with|.Call (.Name x _) xs [] _=>ch0 ck b x xs (mEs ck es xs) (mEs ck es (xs.take 1))|_=>ce
 | .mk k l,E=>match E with
  | .Call (.Name x _) [a] [] _=>ck.gl x&&shp a&&((decide (mkT k=al x)&&mL ck 2 l a)||(decide (mkF k=al x)&&mL ck 1 l a))
  | .ListComp e gs sc p=>decide (k=.list)&&(mL ck 0 l (.ListComp e gs sc p)||(isK l&&mL ck 1 l (.ListComp e gs sc p)))
  | _=>ce
 | .mkD k l d,E=>match E with
  | .Call (.Name x _) [a] [⟨al y,de,_⟩] _=>(decide (k=.min)&&decide (x=("min":Str)))&&decide (y=("default":Str))&&ck.gl x&&shp a&&mL ck 1 l a&&mE ck d de
  | _=>ce
 | .me m o es,E=>match E with
  | .Call (.Attribute ob x ap) xs [] cp=>decide (mtT m=al (x,xs.length))&&ce8 ob&&(ap.endLine==cp.line)&&mE ck o ob&&mEs ck es xs
  | _=>ce
 | .attr o f,E=>match E with|.Attribute ob x _=>decide (x=⟨f.toArray⟩)&&ce8 ob&&mE ck o ob|_=>ce
 | .new c as,E=>match E with|.Call (.Name x _) xs [] _=>decide (x=(c:Str))&&ck.gl x&&mAs ck as xs|_=>ce
 | .mcall o m as,E=>match E with|.Call (.Attribute ob x ap) xs [] cp=>(match ob with|.Name y py=>decide (x=(m:Str))&&mE ck o (.Name y py)&&(ap.endLine==cp.line)&&decide (xs.length<29)&&mAs ck as xs|_=>ce)|_=>ce
noncomputable def mEs (ck:Ck):nO->List Expr->Bool
 | .nil,xs=>match xs with|[]=>bY|_=>ce
 | .cons e es,xs=>match xs with|x::xs=>mE ck e x&&shp x&&mEs ck es xs|_=>ce
noncomputable def mFs (ck:Ck):nO->List Expr->Bool
 | .nil,xs=>match xs with|[]=>bY|_=>ce
 | .cons e es,xs=>match xs with
  | .FormattedValue v c aT _::xs=>decide (c=-1)&&mE ck e v&&mFs ck es xs
  | .Constant v j p::xs=>mE ck e (.Constant v j p)&&mFs ck es xs
  | _=>ce
noncomputable def mAs (ck:Ck):n6->List Expr->Bool
 | .nil,xs=>match xs with|[]=>bY|_=>ce
 | .ex e es,xs=>match xs with|x::xs=>mE ck e x&&shp x&&mAs ck es xs|_=>ce
 | .lam _ _ _,_=>ce
 | .fn _ _,_=>ce
noncomputable def bQ2 (ck:Ck):n6->List Expr->Bool
 | .nil,xs=>match xs with|[]=>bY|_=>ce
 | .ex e es,xs=>match xs with|x::xs=>mE ck e x&&shp x&&bQ2 ck es xs|_=>ce
 | .lam id caps es,xs=>match xs with|x::xs=>ck.lk id caps x&&shp x&&bQ2 ck es xs|_=>ce
 | .fn _ _,_=>ce
noncomputable def mI (ck:Ck)(tgt:Expr):DV.I->Expr->Bool
 | .rg a,E=>match E with|.Call (.Name x _) [l] [] _=>decide (x=("range":Str))&&ck.gl x&&mE ck a l&&shp l|_=>ce
 | .seq e,x=>mE ck e x&&shp x
 | .rng3 a b c,E=>match E with|.Call (.Name x _) [l,r,.Constant v _ _] [] _=>decide (x=("range":Str))&&ck.gl x&&mE ck a l&&shp l&&mE ck b r&&shp r&&decide (c=2)&&decide (v=.int 2)|_=>ce
 | .keys _,_=>ce
noncomputable def mL (ck:Ck)(k:Nat):DV.L->Expr->Bool
 | .comp tg it e caps,E=>match E with|.ListComp elt [⟨tgt,iter,[],z⟩] scope _=>decide (z=0)&&aS8 ck tg tgt iter caps scope&&mI ck tgt it iter&&mE (ckC ck tgt caps scope) e elt|_=>ce
 | .compIf tg it c e caps,E=>match E with|.ListComp elt [⟨tgt,iter,[i],z⟩] scope _=>decide (z=0)&&aS8 ck tg tgt iter caps scope&&mI ck tgt it iter&&mE (ckC ck tgt caps scope) c i&&mE (ckC ck tgt caps scope) e elt|_=>ce
 | .disp es,E=>match E with|.List xs _=>decide (1<=k)&&mEs ck es xs&&decide (xs.length<=1000)|_=>ce
 | .seq e,x=>decide (k=2)&&mE ck e x
 | .compK _ _ _ _,_=>ce
end
def ff {p:Prop}(h:ce=bY):p:=k7 h
noncomputable def bH6:bD->Bool
 | ⟨[], args, aT, [], [], aT, []⟩ => args.all λ y => y.annotation.isNone
 | _=>ce
noncomputable def cs3:List Stmt->Option (Str×bD×Expr×Pos×Scope×Pos×List Stmt)
 | .FunctionDef nm params [.Return (al b) rp] [] aT [] scope aT nm' pos::xs=>if nm'=nm then al (nm,params,b,rp,scope,pos,xs)else aT
 | _=>aT
noncomputable def cr7 (nm:Str):List Stmt->Option (Str×Pos×Expr×Pos×Pos×Pos)
 | [.Return (al (.Call (.Name g gp) [a,.Name x p2] [] cp)) rp2]=>if x=nm then al (g,gp,a,p2,cp,rp2)else aT
 | _=>aT
noncomputable def cj7:pF->oJ->Option (Nat×String×ot×String×List Nat)
 | .und i,.cons (.ret (.callC g (.ex e (.lam id caps .nil)))) .nil=>al (i,g,e,id,caps)
 | _,_=>aT
def cf8 (ck:Ck)(s:pF)(ss:oJ)(S:yM):Bool :=
 (cj7 s ss).any λ d=>(cs3 S).any λ q=>(cr7 q.1 q.2.2.2.2.2.2).any λ r =>
  decide (ck.N[d.1]?=al q.1)&&ck.loc q.1&&ck.var d.1 q.1&&ck.lk d.2.2.2.1 d.2.2.2.2 (.NamedExpr (.Name q.1 q.2.2.2.1) (.Lambda q.2.1 q.2.2.1 q.2.2.2.2.1 q.2.2.2.2.2.1) q.2.2.2.2.2.1)&&decide (r.1=(d.2.1))&&ck.gl r.1&&mE ck d.2.2.1 r.2.2.1&&shp r.2.2.1&&bH6 q.2.1
mutual
noncomputable def mS (ck:Ck):pF->Stmt->Bool
 | .A tg e,S=>match S with
  | .Assign [t] v _=>mTg ck tg t&&mE ck e v&&(match tg with|.Y _=>noK e|.tp _=>cg3 v&&ap1 v)
  | _=>ce
 | .setIx o i e,S=>match S with|.Assign [.Subscript ob ix _] v _=>mE ck o ob&&mE ck i ix&&mE ck e v&&ap1 v|_=>ce
 | .aug i e,S=>match S with|.AugAssign (.Name x _) .Add v _=>decide (ck.N[i]?=al x)&&ck.loc x&&mE ck e v|_=>ce
 | .ex e,S=>match S with|.Expr v _=>mE ck e v&&ap1 v|_=>ce
 | .ret e,S=>match S with|.Return (al v) _=>mE ck e v|_=>ce
 | .retN,S=>match S with|.Return aT _=>bY|_=>ce
 | .ite c a b,S=>match S with|.If t l r _=>mE ck c t&&mSs ck a l&&mSs ck b r|_=>ce
 | .whl c b,S=>match S with|.While t l [] _=>mE ck c t&&mSs ck b l|_=>ce
 | .fo tg it b,S=>match S with|.For tgt iter l [] _=>mTg ck tg tgt&&mI ck tgt it iter&&mSs ck b l|_=>ce
 | .raise,_=>bY
 | .und _,_=>ce
 | .setA o f e,S=>match S with|.Assign [.Attribute ob x _] v _=>decide (x=⟨f.toArray⟩)&&mE ck o ob&&mE ck e v&&ap1 v|_=>ce
noncomputable def mSs (ck:Ck):oJ->List Stmt->Bool
 | .nil,xs=>match xs with|[]=>bY|_=>ce
 | .cons s ss,xs=>match xs with|x::xs=>cf8 ck s ss (x::xs)||(mS ck s x&&mSs ck ss xs)|_=>ce
end
def aK6 (h:mE z e E=bY):shp E=true:=by
 cases E<;>first|rfl|(exfalso;cases e<;>exact ff h)
def bw8 (h:mI B z e E=bY):shp E=true:=by
 cases e with
 | seq e=>have h:(mE B e E&&shp E)=true:=h;rw[ae]at h;exact h.2
 | _=>cases E<;>first|rfl|exact ff h
def bD2 (h:DV.mkq x s t r=.ok d s'):oW x s=oW x t/\r=.ok d s':=by
 unfold DV.mkq at h;lia
def cn5 (h:s[a]?=al o)(g:t[a]?=al z)(n:o.kd≠z.kd):¬ oW (.ref a) s=oW (.ref a) t:=by
 unfold oW
 simp_all
def ze {es:yL}(h:shp e=bY):a9 (e::es) env=(ce,eval e env)::a9 es env:=by
 cases e<;>first|rfl|cases h
theorem zr :∀ {es:yL},(∀ e∈es,shp e=bY)->(cQ pos (a9 es env)).any (·.1)=ce/\(cQ pos (a9 es env)).all (λ x=>!x.1)=bY
 | [],_=>⟨rfl,rfl⟩
 | e::es,h=>by
  have B:=ze (es:=es) (env:=env) (h e (ar ..));obtain⟨z,h3⟩:=zr (env:=env) (pos:=pos) λ x hx=>h x (ah _ hx);rw[B];unfold cQ at z h3 ⊢;simp only[aR,gT,dN,z,h3];exact⟨rfl,rfl⟩
def ax4 (h:shp e=bY) x :dY e env x=pure x:=by
 cases e<;>first|rfl|cases h
def aD2 (h:shp e=bY):dQ op e=false:=by
 cases e<;>first|rfl|cases h
def aj8 (h:ap1 e=bY):fA e t l env=pure false:=by
 cases e<;>first|rfl|cases h
def ay8 (h:ce8 e=bY):eK e f env (eval e env)=eval e env:=by
 cases e with
 | Call g a k p =>
  cases g with
  | Name x p' =>
   cases a with
   | nil=>cases k with
    | nil=>cases h
    | cons _ _=>rfl
   | cons _ _=>rfl
  | _=>rfl
 | _=>rfl
def aU7 {es:yL}(h:cg3 e=bY):jY [.Tuple es k p] e env=pure none:=by
 cases e<;>first|rfl|cases h
def aR8 :jY [.Subscript o i p] e env=pure none:=by
 cases e<;>rfl
def aR6 (h:shp e=bY):bf3 e:=by
 intro o i;cases e<;>first|rfl|cases h
def spV (Γ:Gm)(c:List ng->m9->nk ng):Sp:=λ vs H Q _=>rCl Γ c vs H Q
noncomputable def bNames:List Str:=["len", "abs", "min", "max", "int", "isinstance", "bool", "str", "tuple", "list", "range", "sum", "all", "any", "sorted", "zip", "enumerate", "ord"]
def spL (Γ:Gm)(c:List ng->List ng->m9->nk ng)(cap:List V):Sp:=λ vs H Q _=>∃ C s cs l d s',Rp Γ C H s/\RVL Γ C H l vs/\RVL Γ C H cs cap/\nh s.length l=bY/\nh s.length cs=bY/\c cs l s=.ok d s'/\af8 Γ C s H d s' Q
noncomputable def LamI.own (J:LamI):Str:=match J.nm with|none => "<lambda>" | some p=>p.1
noncomputable def lamText (J:LamI)(params:bD)(body:Expr)(scope:Scope)(pos:Pos):Expr:=match J.nm with
 | none=>.Lambda params body scope pos
 | some p=>.NamedExpr (.Name p.1 p.2) (.Lambda params body scope pos) pos
structure LamHere (Γ:Gm)(X:Cx)(N:yI)(id:String)(caps:List Nat)(params:bD)(body:Expr)(scope:Scope)(c P:Addr)(J:LamI):Prop where
 code:X.env.code=.ref c
 hd:bG X.base c P
 bm:BM X.mg X.base
 ck:lamCheck scope X.env.scope=bY
 df:lK params X.env=([],[])
 lg:Γ.lg id J
 q:J.qual=X.env.qual++J.own
 p:J.params=params
 b:J.body=body
 s:J.scope=scope
 len:J.fr.length=caps.length
 at_:∀(i j:Nat) (x:Str),caps[i]?=al j->J.fr[i]?=al x->N[j]?=al x
 fr:∀ x∈J.fr,scope.names.lookup x=al .free
 cl:∀ x,scope.names.lookup x=al .free->∃ c,X.env.cells.lookup x=al c
 tab:(P,J.qual)∈Γ.T
 nd:(Γ.T.map (·.1)).Nodup
 fn:∀ x,X.fn x=bY
 kd:∀ x c,X.env.cells.lookup x=al c->X.env.kindOf x=al .cell\/X.env.kindOf x=al .free
 gs:LamScope (J.ps++J.fr) J.ps J.fr J.scope
 gp:lamArgs J.params=al J.ps
 gb:∀(clos:yC) (pm:Value) (c':Addr) (ctv:Value) (us:yH),us.length=J.ps.length->eM (cx "<lambda>" J.qual J.params J.body J.scope clos pm (.ref c') ctv) ⟨us,[]⟩=pure (J.ps.zip us)
noncomputable def strD (kvs:List (List Nat×List Nat)):List (PyData×PyData):=kvs.map λ p=>(.str ⟨p.1.toArray⟩,.str ⟨p.2.toArray⟩)
structure ObOk (Γ:Gm)(prog:aF)(w:World)(K:ac)(mg:yD)(base:Heap)(F:nA)(n:Nat):Prop where
 att:∀(c:String) (f:List Nat) (Cc:Addr),F.att c f=bY->Γ.cls c=al Cc->NoAttr K Cc ⟨f.toArray⟩
 mc:∀ c m:String,(∀ l s,F.mcall c m l s=.B)\/∃ Cc a fd ps,Γ.cls c=al Cc/\Cls K Cc/\Meth K Cc (m:Str) a/\FnOk prog w K mg base CX0 n a fd ps (spV Γ (F.mcall c m))/\Binds K fd ps []
 nw:∀ c:String,(∀ l s,F.new c l s=.B)\/∃ k Cc a fd ps,k+1<=n/\(Γ.cls c=al Cc/\Cls K Cc)/\mg (c:Str)=al (.ref Cc)/\Mk K Cc a/\FnOk prog w K mg base CX0 k a fd ps (spV Γ (F.new c))/\Binds K fd ps []
structure CG (Γ:Gm)(F:nA)(n:Nat)(X:Cx)(ck:Ck):Prop where
 K:X.K=Γ.K
 N:X.N=ck.N
 nd:ck.N.Nodup
 xe:X.xe=λ _ _=>False
 calm:X.calm=bY
 deep:nF+1<=n
 room:Room n X.A
 sc:∀ x k,ck.sc.names.lookup x=al k->X.env.scope.names.lookup x=al k\/(k=.free/\X.env.scope.names.lookup x=al .cell)
 fn:∀ x,ck.sc.names.lookup x=al .cell->X.fn x=bY
 bi:∀ x∈bNames,X.mg x=aT
 call:∀ f:String,(∀ l s,F.call f l s=.B)\/∃ a fd ps,FnOk X.prog X.w X.K X.mg X.base CX0 n a fd ps (spV Γ (F.call f))/\X.mg (f:Str)=al (.ref a)/\bJ X.K (.ref a)=bY/\Binds X.K fd ps []
 con:∀ x d,F.con x=al d->∃ v u,X.mg (x:Str)=al u/\RelV v u/\(∀ m,d.bnd m=bY)/\∀ C H,RV Γ C H d v
 lam:∀ id caps E,ck.lk id caps E=bY->∃ c P params body scope pos J,E=lamText J params body scope pos/\LamHere Γ X ck.N id caps params body scope c P J
 cl:∀(id:String) (J:LamI) (f:Addr) (cap:List V) (clos:yC),Γ.lg id J->cap.length=J.fr.length->ClOk X.prog X.w X.K X.mg X.base n (λ H=>CloAt H f J cap clos) f (spL Γ (F.lam id) cap)
 fa:∀(f:String) (a:Addr),Γ.fa f=al a->X.mg (f:Str)=al (.ref a)/\∃ oc od fd sl,X.K.lookup a=al ⟨oc,od,.func fd,sl⟩
 cdc:∀ c kvs,F.cdc c=al kvs->∃ a,X.mg (c:Str)=al (.ref a)/\∀ h:Heap,X.K.In h->StrTab X.prog X.w h a (strD kvs)
 ob:ObOk Γ X.prog X.w X.K X.mg X.base F n
section
variable {Γ:Gm} {F:nA} {n:Nat} {X:Cx} {ck:Ck}
set_option tactic.hygienic true in
theorem CG.vis (G:CG Γ F n X ck)(h:ck.vis x=bY):Vis X.env.scope x:=by
 unfold Ck.vis at h;split at h
 .rename_i e;rcases G.sc _ _ e with z|⟨z,_⟩
  .exact .inl z
  .cases z
 .rename_i e;rcases G.sc _ _ e with z|⟨z,_⟩
  .exact .inr (.inl z)
  .cases z
 .rename_i e;rcases G.sc _ _ e with z|⟨_,z⟩
  .exact .inr (.inr z)
  .exact .inr (.inl z)
 .cases h
set_option tactic.hygienic true in
theorem CG.loc (G:CG Γ F n X ck)(h:ck.loc x=bY):Loc X.env.scope x/\(X.fn x=bY\/X.env.scope.names.lookup x=al .local):=by
 unfold Ck.loc at h;split at h
 .rename_i e;rcases G.sc _ _ e with z|⟨z,_⟩
  .exact⟨.inl z,.inr z⟩
  .cases z
 .rename_i e;rcases G.sc _ _ e with z|⟨z,_⟩
  .exact⟨.inr z,.inl (G.fn _ e)⟩
  .cases z
 .cases h
set_option tactic.hygienic true in
theorem CG.gl (G:CG Γ F n X ck)(h:ck.gl x=bY):Gl X x/\(x==("__debug__"))=ce/\x ≠ "__name__":=by
 unfold Ck.gl at h;simp only[ae,fv]at h;obtain⟨⟨B,J⟩,h3⟩:=h;refine⟨?_,J,of_decide_eq_false h3⟩;split at B
 .rename_i e;rcases G.sc _ _ e with z|⟨z,_⟩
  .exact z
  .cases z
 .cases B
theorem bB3 (G:CG Γ F n X ck):∀ {is} {es:yL},ch6 ck is es=bY->PGs X es (ch3 is)/\(cY es X.env).length=is.length/\(cY es X.env).findIdx? (·.1)=aT
 | [],[],_=>⟨bI0,rfl,rfl⟩
 | [],_::_,h=>by cases h
 | i::is,[],h=>by cases h
 | i::is,e::es,h=>by
  cases e with
  | Name x p =>
   unfold ch6 at h;simp only[ae,li]at h;obtain⟨⟨z,B⟩,h3⟩:=h;obtain⟨l1,J⟩:=G.loc B;obtain⟨a,b,c⟩:=bB3 G h3;have hs:cY (.Name x p::es) X.env=(ce,hJ (.Name x p) X.env)::cY es X.env:=rfl;refine⟨bq6 (aZ5 (by rw[G.N];exact G.nd) (by rw[G.N];exact z) l1 J) a (by rw[hs];rfl),by simp_all,?_⟩;rw[hs,List.findIdx?_cons];simp[c]
  | _=>cases h
def bu8 (G:CG Γ F n X ck)(h:mTg ck tg e=bY):PG X e (gOf Γ.K tg):=by
 unfold mTg at h;split at h
 .simp only[ae,li]at h;obtain⟨l1,z⟩:=G.loc h.2;exact aZ5 (by rw[G.N];exact G.nd) (by rw[G.N];exact h.1) l1 z
 .obtain⟨a,b,c⟩:=bB3 G h;exact bF9 G.K G.calm a b c
 .cases h
set_option tactic.hygienic true in
def CG.comp (G:CG Γ F n X ck)(h:aS8 ck tg J iter B scope=bY) :
  qa (ckC ck J B scope).N B scope X.N X.env.scope=bY/\shp iter=bY /\
  ∀(Cc:Addr) (cells:yC) (s:af) (H:Hp) (ex:List Addr),CG Γ F n (zP X (ckC ck J B scope).N scope Cc cells s H ex) (ckC ck J B scope)/\PG (zP X (ckC ck J B scope).N scope Cc cells s H ex) J (gOf Γ.K tg):=by
 unfold aS8 at h;simp only[ae,li]at h;obtain⟨⟨⟨Uu,h2⟩,h3⟩,Z⟩:=h;refine⟨?_,Z,λ Cc cells s H ex=>?_⟩
 .rw[G.N];unfold qa at Uu ⊢;simp only[ae]at Uu ⊢;obtain⟨⟨⟨⟨⟨a1,a2⟩,a3⟩,a4⟩,a5⟩,a6⟩:=Uu;refine⟨⟨⟨⟨⟨a1,?_⟩,a3⟩,a4⟩,a5⟩,a6⟩;rw[aI]at a2 ⊢;intro y hy;have:=a2 y hy;rw[b7]at this ⊢;rcases this with q|q
  .exact .inl q
  .right
   rw[b7]at q ⊢;rcases q with q|q
   .rcases G.sc _ _ (iN q)with z|⟨z,_⟩
    .left;rw[z];exact beq_self_eq_true _
    .cases z
   .rcases G.sc _ _ (iN q)with z|⟨_,z⟩
    .right;rw[z];exact beq_self_eq_true _
    .left;rw[z];exact beq_self_eq_true _
 .have Y:CG Γ F n (zP X (ckC ck J B scope).N scope Cc cells s H ex) (ckC ck J B scope):=by
   refine⟨G.K,rfl,h2,rfl,G.calm,G.deep,G.room,λ x k e=>?_,λ x e=>?_,G.bi,G.call,G.con,λ _ _ _ h=>(by cases h),G.cl,G.fa,G.cdc,G.ob⟩
   .have q:=qz (env:=X.env) e;have q':(fG scope X.env).names.lookup x=al (if(k==NameKind.free&&X.env.scope.kind==.function&&X.env.kindOf x==al .cell)then NameKind.cell else k):=q;show(fG scope X.env).names.lookup x=al k\/_;rw[q'];split
    .rename_i hc;simp only[ae]at hc;exact .inr ⟨iN hc.1.1,rfl⟩
    .exact .inl rfl
   .show(scope.names.lookup x==al .cell)=bY;rw[show scope.names.lookup x=al .cell from e];rfl
  exact⟨Y,bu8 Y h3⟩
end
section
variable {Γ:Gm} {F:nA} {n:Nat} {X:Cx} {ck:Ck} {W:St} {H:Hp} {Q:VK}
def TEv.eq (e:∀ U s,m U s=m' U s)(q:TEv Γ m W H Q):TEv Γ m' W H Q:=by
 have:=funext λ U=>funext λ s=>e U s
 simp_all
def TTv.eq {Q}(e:∀ U s,m U s=m' U s)(q:TTv Γ m W H Q):TTv Γ m' W H Q:=by
 have:=funext λ U=>funext λ s=>e U s
 simp_all
def TAv.eq {Q}(e:∀ U s,m U s=m' U s)(q:TAv Γ m W H Q):TAv Γ m' W H Q:=by
 have:=funext λ U=>funext λ s=>e U s
 simp_all
def TFv.eq (e:∀ U s,m U s=m' U s)(q:TFv Γ m W H Q):TFv Γ m' W H Q:=by
 have:=funext λ U=>funext λ s=>e U s
 simp_all
def TIv.eq (e:∀ U s,m U s=m' U s)(q:TIv Γ m W H R):TIv Γ m' W H R:=by
 have:=funext λ U=>funext λ s=>e U s
 simp_all
def TSv.eq (e:∀ U s,m U s=m' U s)(q:TSv Γ m D W H):TSv Γ m' D W H:=by
 have:=funext λ U=>funext λ s=>e U s
 simp_all
def EvT (Γ:Gm)(X:Cx)(E:Expr)(m:ni->m9->nk ng):Prop:=PE X E (TEv Γ m)/\PT X E (TTv Γ m)
def EvT.val (h:PE X E (TEv Γ m))(B:autoParam (∀ z,gN E X.env z=(do let v <- z;kq E.pos;gz [v] (truthy v))) Zq3._auto_1):EvT Γ X E m :=
 ⟨h,(bZ8 h B).imp λ W H Q q=>aL6 q⟩
def bq5 (hc:PT X c Y)(ha:PT X a tb)(hb:PT X b Uu):PT X (.IfExp c a b pos) (λ W H Q=>Y W H λ k B=>if k=bY then tb W B Q else Uu W B Q):=by
 intro z s W H Q I h;have e:gN (.IfExp c a b pos) X.env (eval (.IfExp c a b pos) X.env)=(do if <- gN c X.env (eval c X.env)then gN a X.env (eval a X.env)else gN b X.env (eval b X.env)):=rfl;rw[e];refine ai (thn (hc z s W H _ I h) λ k s1 ⟨B,Z,J⟩=>?_);cases k with
 | true=>exact ha z s1 W B Q Z J
 | false=>exact hb z s1 W B Q Z J
def bW8 {Q}(h:TTv Γ (λ U s=>nE (mc U s) λ k s=>if k then Uu U s else J U s) W H Q):TTv Γ mc W H λ k B=>if k=bY then TTv Γ Uu W B Q else TTv Γ J W B Q:=by
 refine wl λ _ ua=>?_;obtain⟨C,U,s,d,s',E,R,z,q⟩:=h;obtain⟨c,s1,e1,z⟩:=zQ z;refine ua ⟨C,U,s,c,s1,E,R,e1,λ C1 B g1 l1 R1=>?_⟩;cases c with
 | true =>
  rw[ef rfl]at z ⊢;exact⟨C1,U,s1,d,s',E.mono g1 l1,R1,z,q.trans g1 l1⟩
 | false =>
  rw[gc br]at z ⊢;exact⟨C1,U,s1,d,s',E.mono g1 l1,R1,z,q.trans g1 l1⟩
section
variable {a b c:ot} {l r t:Expr} {pos:Pos}
def bM7 (G:CG Γ F n X ck) op (ha:EvT Γ X l (nq F a))(hb:EvT Γ X r (nq F b)):EvT Γ X (.BinOp l (cn6 op) r pos) (nq F (.G op a b)) :=
 .val ((cm2 (bQ8 G.K op) ha.1 hb.1).imp λ W H Q q=>br6 (TEv.eq (λ U s=>rfl) q))
def bG1 (ha:EvT Γ X l (nq F a)):EvT Γ X (.UnaryOp .Not l pos) (nq F (.not a)) :=
 ⟨(bV4 ha.1).imp λ W H Q q=>cf6 (TEv.eq (λ U s=>rfl) q),(bS4 ha.2).imp λ W H Q q=>bW6 (TTv.eq (λ U s=>rfl) q)⟩
def bG7 (G:CG Γ F n X ck) op (hs:shp r=bY)(ha:EvT Γ X l (nq F a))(hb:EvT Γ X r (nq F b)):EvT Γ X (.Compare l [bD0 op] [r] pos) (nq F (.Z op a b)):=by
 have ho:=bS6 G.K (G.room.mono G.deep) op;refine⟨(bJ2 ho ha.1 hb.1 (aD2 hs)).imp λ W H Q q=>br6 (TEv.eq (λ U s=>rfl) q),(bD9 ho ha.1 hb.1 (aD2 hs)).imp λ W H Q q=>?_⟩;have q:=bN2 q;exact br6 (TEv.eq (λ U s=>rfl) q)
def RV.nonIff (r:RV Γ C H x v):decide (v=.N)=decide (x=.N):=by
 cases x with
 | N=>rw[r.nonE];rfl
 | T b=>rw[r.blE];rfl
 | int i=>rw[r.intE];rfl
 | str z=>rw[r.strE];rfl
 | tp l=>obtain⟨a,h,rfl,_⟩:=r.tupE;rfl
 | ref k=>rw[r.refE];rfl
 | fn f=>unfold RV at r;obtain⟨a,_,rfl⟩:=r;rfl
 | clo f cs=>unfold RV at r;obtain⟨f,_,_,_,rfl,_⟩:=r;rfl
def bF5 (ha:EvT Γ X l (nq F a)):EvT Γ X (.Compare l [.Is] [.Constant .none j pos'] pos) (nq F (.isN a)):=by
 have key:∀ W H Q,TEv Γ (nq F (.isN a)) W H Q->cp7 (TEv Γ (nq F a)) W H Q:=λ W H Q q=>by
  obtain⟨C,U,s,d,s',E,R,h,k⟩:=q;obtain⟨x,s1,e1,h⟩:=aa1 h;cases h;refine⟨C,U,s,x,_,E,R,e1,λ v C1 z g1 l1 b1 r1 R1=>?_⟩;show Q (.T (decide (v=.N))) z;rw[r1.nonIff];exact k _ C1 z g1 l1 rfl RV.blI R1
 exact⟨(by0 (bw2 ha.1)).imp key,(bx1 (bw2 ha.1)).imp λ W H Q q=>key _ _ _ (aL6 q)⟩
def bl5 (ha:EvT Γ X l (nq F a)):EvT Γ X (.Compare l [.IsNot] [.Constant .none j pos'] pos) (nq F (.notN a)):=by
 have key:∀ W H Q,TEv Γ (nq F (.notN a)) W H Q->cg0 (TEv Γ (nq F a)) W H Q:=λ W H Q q=>by
  obtain⟨C,U,s,d,s',E,R,h,k⟩:=q;obtain⟨x,s1,e1,h⟩:=aa1 h;cases h;refine⟨C,U,s,x,_,E,R,e1,λ v C1 z g1 l1 b1 r1 R1=>?_⟩;show Q (.T (!decide (v=.N))) z;rw[r1.nonIff];exact k _ C1 z g1 l1 rfl RV.blI R1
 exact⟨(by0 (bb0 ha.1)).imp key,(bx1 (bb0 ha.1)).imp λ W H Q q=>key _ _ _ (aL6 q)⟩
def be2 {es:yL}{t}(h:PT X (.BoolOp op es pos) t):PW X (.BoolOp op es pos) t:=by
 intro B z s W H Q I q;have:=h z s W H Q I q;have e:∀ w,gN (.BoolOp op es pos) X.env w=allTrue op es X.env:=λ w=>rfl
 simp_all
def bL4 (ha:EvT Γ X l (nq F a))(hb:EvT Γ X r (nq F b)):EvT Γ X (.BoolOp .And [l,r] pos) (nq F (.and a b)) :=
 ⟨(bw9 ha.1 (bw4 hb.1)).imp λ W H Q q=>bx3 (TEv.eq (λ U s=>rfl) q),(bz8 ha.2 (bO7 hb.2)).pt.imp λ W H Q q=>bA6 (TTv.eq (λ U s=>rfl) q)⟩
def bP9 {es:yL}(ha:EvT Γ X l (nq F a))(hb:EvT Γ X (.BoolOp .And (r::es) pos) (nq F b)):EvT Γ X (.BoolOp .And (l::r::es) pos) (nq F (.and a b)) :=
 ⟨(bw9 ha.1 hb.1).imp λ W H Q q=>bx3 (TEv.eq (λ U s=>rfl) q),(bz8 ha.2 (be2 hb.2)).pt.imp λ W H Q q=>bA6 (TTv.eq (λ U s=>rfl) q)⟩
def bX9 (ha:EvT Γ X l (nq F a))(hb:EvT Γ X r (nq F b)):EvT Γ X (.BoolOp .Or [l,r] pos) (nq F (.or a b)) :=
 ⟨(bW1 ha.1 (bw4 hb.1)).imp λ W H Q q=>bR6 (TEv.eq (λ U s=>rfl) q),(bS0 ha.2 (cc2 hb.2)).pt.imp λ W H Q q=>ca3 (TTv.eq (λ U s=>rfl) q)⟩
def bR7 {es:yL}(ha:EvT Γ X l (nq F a))(hb:EvT Γ X (.BoolOp .Or (r::es) pos) (nq F b)):EvT Γ X (.BoolOp .Or (l::r::es) pos) (nq F (.or a b)) :=
 ⟨(bW1 ha.1 hb.1).imp λ W H Q q=>bR6 (TEv.eq (λ U s=>rfl) q),(bS0 ha.2 (be2 hb.2)).pt.imp λ W H Q q=>ca3 (TTv.eq (λ U s=>rfl) q)⟩
def bC4 (hc:EvT Γ X t (nq F c))(ha:EvT Γ X l (nq F a))(hb:EvT Γ X r (nq F b)):EvT Γ X (.IfExp t l r pos) (nq F (.ite c a b)) :=
 ⟨(bp2 hc.2 ha.1 hb.1).imp λ W H Q q=>bZ9 (TEv.eq (λ U s=>rfl) q),(bq5 hc.2 ha.2 hb.2).imp λ W H Q q=>bW8 (TTv.eq (λ U s=>rfl) q)⟩
def cg1 (G:CG Γ F n X ck)(hs:shp r=bY)(ha:EvT Γ X l (nq F a))(hb:EvT Γ X r (nq F b)):EvT Γ X (.Subscript l r pos) (nq F (.ix a b)) :=
 .val ((cn3 (ck5 G.K (at9 G.room)) ha.1 hb.1 (aR6 hs)).imp λ W H Q q=>br6 (TEv.eq (λ U s=>rfl) q))
def bM8 (G:CG Γ F n X ck)(ha:EvT Γ X l (nq F a))(hb:EvT Γ X r (nq F b)):EvT Γ X (.Subscript l (.Slice aT (al r) aT h) pos) (nq F (.slU a b)) :=
 .val ((bm2 (ci7 G.K) ha.1 bE4 (bO9 hb.1)).imp λ W H Q q=>(ci4 (ml:=nq F b)).2.1 (TEv.eq (λ U s=>rfl) q))
end
end
section
variable {Γ:Gm} {F:nA} {n:Nat} {X:Cx} {ck:Ck} {W:St} {H:Hp} {Q:VK}
theorem ax6:∀ {es} {U} {s s'} {l} {z:yL} {B},nW F es U s=.ok l s'->mEs B es z=bY->l.length=z.length
 | .nil,U,s,s',l,z,B,h,m=>by
  cases h;cases z with
  | nil=>rfl
  | cons _ _=>rw[mEs]at m<;>first|cases m|(intros;simp_all)
 | .cons e es,U,s,s',l,z,B,h,m=>by
  obtain⟨d,s1,e1,h⟩:=aa1 h;obtain⟨r,s2,e2,h⟩:=aa1 h;cases h;cases z with
  | nil=>rw[mEs]at m<;>first|cases m|(intros;simp_all)
  | cons x z =>
   rw[mEs,ae]at m;rw[aP,aP,ax6 e2 m.2]
theorem aw2:∀ {es} {z:yL},mEs ck es z=bY->∀ x∈z,shp x=bY
 | .nil,[],_,x,hx=>by cases hx
 | .nil,_::_,m,_,_=>by rw[mEs]at m<;>first|cases m|(intros;simp_all)
 | .cons e es,[],m,x,hx=>by cases hx
 | .cons e es,y::z,m,x,hx=>by
  rw[mEs,ae,ae]at m;rcases aB.mp hx with h|h
  .rw[h];exact m.1.2
  .exact aw2 m.2 x h
theorem jG:∀ {es} {z:yL},mAs ck es z=bY->∀ x∈z,shp x=bY
 | .nil,[],_,x,hx=>by cases hx
 | .nil,_::_,m,_,_=>by rw[mAs]at m<;>first|cases m|(intros;simp_all)
 | .ex e es,[],m,x,hx=>by cases hx
 | .lam _ _ _,_,m,_,_=>by rw[mAs]at m<;>first|cases m|(intros;simp_all)
 | .fn _ _,_,m,_,_=>by rw[mAs]at m<;>first|cases m|(intros;simp_all)
 | .ex e es,y::z,m,x,hx=>by
  rw[mAs,ae,ae]at m;rcases aB.mp hx with h|h
  .rw[h];exact m.1.2
  .exact jG m.2 x h
def aQ2 (hs:shp x=bY)(z:PE X x (TEv Γ (nq F e)))(B:PA X h (TAv Γ ms)) :
  PA X (x::h) (TAv Γ (λ U s=>(nq F e U s).bind λ d s=>(ms U s).bind λ l s=>.ok (d::l) s)) :=
 (zR z B (ze hs)).imp λ W H Q q=>bQ0 q
def aP7 (h:k<=1000):k<=a7:=by rw[fK];lia
theorem bB9 {z:yL}(m:mEs ck es z=bY)(hz:z.length<=1000)(h:PA X z (TAv Γ (nW F es))):EvT Γ X (.Tuple z k pos) (nq F (.tp es)) :=
 .val ((ce4 h).imp λ W H Q q=>tv_tup' hz m q)
where
 tv_tup' {es} {z} {W} {H} {Q} (hz:z.length<=1000) (m:mEs ck es z=bY) (q:TEv Γ (nq F (.tp es)) W H Q):cq8 (TAv Γ (nW F es)) W H Q:=by
  obtain⟨C,U,s,d,s',E,R,B,q⟩:=q;obtain⟨l,s1,e1,B⟩:=aa1 B;cases B;refine⟨C,U,s,l,_,E,R,e1,λ vs C1 Uu g1 l1 b1 r1 R1=>⟨by rw[r1.length,ax6 e1 m];exact aP7 hz,λ p J=>?_⟩⟩;exact(q.trans g1 l1).tup R1 r1 b1 J
def bK2 {z:yL}(m:mEs ck es z=bY)(hz:z.length<=1000)(h:PA X z (TAv Γ (nW F es))):EvT Γ X (.List z pos) (nq F (.J es)):=by
 refine .val ((be6 h).imp λ W H Q q=>?_);obtain⟨C,U,s,d,s',E,R,B,q⟩:=q;obtain⟨l,s1,e1,B⟩:=aa1 B;obtain⟨rfl,rfl⟩:=qr B;refine⟨C,U,s,l,_,E,R,e1,λ vs C1 Uu g1 l1 b1 r1 R1=>⟨by rw[r1.length,ax6 e1 m];exact aP7 hz,λ p J=>?_⟩⟩;exact(q.trans g1 l1).alloc R1 r1 b1 J
def bm4 {f:String}{J:yL}(G:CG Γ F n X ck)(hg:ck.gl (f:Str)=bY)(m:mAs ck z J=bY)(h:PA X J (TAv Γ (nI F z))):EvT Γ X (.Call (.Name (f) p) J [] pos) (nq F (.call f z)):=by
 refine .val ?_;obtain⟨g1,Z,g3⟩:=G.gl hg;rcases G.call f with hbad|⟨a,fd,ps,hF,B,hk,hb⟩
 .intro a0 s W H Q I q;refine wl λ _ ua=>?_;obtain⟨C,U,s,d,s',E,R,Uu,q⟩:=q;obtain⟨l,s1,e1,Uu⟩:=aa1 Uu
  refine ua ?_;simp_all
 have key:∀ W H Q,TEv Γ (nq F (.call f z)) W H Q->aQ7 (spV Γ (F.call f)) [] E0 (TAv Γ (nI F z)) W H Q:=λ W H Q q=>by
  have:=aK3 (TEv.eq (λ U s=>rfl) q);unfold tCB at this;unfold aQ7 spV
  simp_all
 cases J with
 | nil =>
  have h0:PE X (.Call (.Name (f) p) [] [] pos) (aQ7 (spV Γ (F.call f)) [] E0 aO3):=bu7 hF G.room g1 B hk hb .nil aR3 Z;cases z with
  | nil =>
   refine h0.imp λ W H Q q=>?_;have Y:=key W H Q q;unfold aQ7 at Y ⊢;exact au3 (TAv.eq (λ U s=>rfl) Y)
  | _=>rw[mAs]at m<;>first|cases m|(intros;simp_all)
 | cons x J =>
  have hs:=jG m;exact(ba9 hF G.room g1 B hk hb .nil aR3 h Z (ze (hs x (ar ..))) (zr λ e he=>hs e (ah _ he)).1).imp key
def BiC (Γ:Gm)(X:Cx)(b:on)(x:Str):Prop:=(∃ id,cf x=al (.builtin id)/\ae5 X (.builtin id) (rCl Γ (pj b)))\/∃ T,cf x=al (.type T)/\ae5 X (.type T) (rCl Γ (pj b))
def bW9 (G:CG Γ F n X ck){b:on}{x:Str}(h:biT b=al x):x∈bNames/\BiC Γ X b x:=by
 cases b<;>first|cases h|skip
 .exact⟨by decide,.inl ⟨_,cm5,bb3 G.K G.calm (k:=1) rfl⟩⟩
 .exact⟨by decide,.inl ⟨_,cm4,bb3 G.K G.calm (k:=1) rfl⟩⟩
 .exact⟨by decide,.inr ⟨_,cj1,cc5⟩⟩
 .exact⟨by decide,.inr ⟨_,ck9,bS1⟩⟩
 .exact⟨by decide,.inl ⟨_,bI3,bb3 G.K G.calm (k:=2) rfl⟩⟩
 .exact⟨by decide,.inl ⟨_,bY9,bb3 G.K G.calm (k:=2) rfl⟩⟩
 .exact⟨by decide,.inl ⟨_,bY9,bb3 G.K G.calm (k:=3) rfl⟩⟩
def bS5 {z:yL}(G:CG Γ F n X ck)(hb:biT b=al x)(hg:ck.gl x=bY)(m:mEs ck es (y::z)=bY)(h:PA X (y::z) (TAv Γ (nW F es))) :
  EvT Γ X (.Call (.Name x p) (y::z) [] pos) (nq F (.bi b es)):=by
 refine .val ?_;obtain⟨g1,Z,Uu⟩:=G.gl hg;obtain⟨Y,hc⟩:=bW9 G hb;have hs:=aw2 m;have s1:=ze (es:=z) (env:=X.env) (hs y (ar ..));have s2:=(zr (env:=X.env) (pos:=pos) λ e he=>hs e (ah _ he)).1;rcases hc with⟨id,B,J⟩|⟨T,B,J⟩
 .exact(az2 J g1 (G.bi _ Y) B h Uu Z s1 s2).imp λ W H Q q=>aK3 (TEv.eq (λ U s=>rfl) q)
 .exact(ao1 J g1 (G.bi _ Y) B h Uu Z s1 s2).imp λ W H Q q=>aK3 (TEv.eq (λ U s=>rfl) q)
def PEs (Γ:Gm)(F:nA)(X:Cx):nO->List Expr->Prop
 | .nil,[]=>True
 | .cons e es,x::xs=>(shp x=bY/\EvT Γ X x (nq F e))/\PEs Γ F X es xs
 | _,_=>False
theorem ar0:∀ {es} {z:yL},PEs Γ F X es z->PA X z (TAv Γ (nW F es))
 | .nil,[],_=>af5.imp λ W H Q q=>au3 (TAv.eq (λ U s=>rfl) q)
 | .nil,_::_,h=>h.elim
 | .cons _ _,[],h=>h.elim
 | .cons e es,x::z,h=>(aQ2 h.1.1 h.1.2.1 (ar0 h.2)).imp λ W H Q q=>TAv.eq (λ U s=>rfl) q
def bJ1 (G:CG Γ F n X ck)(hb:biK b=al (k,t))(J:ck.gl "isinstance"=bY)(z:ck.gl t=bY)(h:PEs Γ F X es [a]) :
  EvT Γ X (.Call (.Name "isinstance" p) [a,.Name t B] [] pos) (nq F (.bi b es)):=by
 cases hb
end
section
variable {Γ:Gm} {F:nA} {n:Nat} {X:Cx} {ck:Ck} {W:St} {H:Hp}
def TAp (Γ:Gm)(cells:yC)(N:yI)(m:ni->m9->nk (List ng)):TA:=λ W H Q=>∃ C U s l s',RE Γ C H s.length U W/\Rp Γ C H s/\m U s=.ok l s' /\
 ∀ vs C' H',Gr C s H C' s' H'->s.length<=s'.length->nh s'.length l=bY->PVL Γ cells N W C' H' l vs->Rp Γ C' H' s'->Q vs H'
def TAp.eq (e:∀ U s,m U s=m' U s)(q:TAp Γ cells N m W H Q):TAp Γ cells N m' W H Q:=by
 obtain⟨C,U,s,l,s',E,R,h,q⟩:=q;exact⟨C,U,s,l,s',E,R,by rw[<-e];exact h,q⟩
def bH0 (h:TAp Γ cells N (λ U s=>.ok [] s) W H Q):aO3 W H Q:=by
 obtain⟨C,U,s,l,s',E,R,z,q⟩:=h;cases z;exact q [] C H (Gr.refl _ _ _) (aj _) rfl .nil R
def bZ6 (h:TAp Γ cells N (λ U s=>(m U s).bind λ d s=>(ms U s).bind λ l s=>.ok (d::l) s) W H Q):ao7 (TEv Γ m) (TAp Γ cells N ms) W H Q:=by
 refine wl λ _ ua=>?_;obtain⟨C,U,s,l,s',E,R,z,q⟩:=h;obtain⟨x,s1,e1,z⟩:=aa1 z;obtain⟨y,s2,e2,z⟩:=aa1 z;cases z;refine ua ⟨C,U,s,x,s1,E,R,e1,λ v C1 Y g1 l1 b1 r1 R1=>?_⟩;refine⟨C1,U,s1,y,s',E.mono g1 l1,R1,e2,λ vs C2 H2 J B b2 Uu R2=>?_⟩;exact q (v::vs) C2 H2 (g1.trans J l1) (aq l1 B) (by unfold nh;rw[zm B x b1,b2];rfl) (.cons (PVp.mono J b1 (.inl r1)) Uu) R2
theorem ao4 :∀ {is} {cs},nY U is=al cs->cs.length=is.length/\∀(i j:Nat),is[i]?=al j->∃ d,cs[i]?=al d/\U[j]?=al (al d)
 | [],cs,h=>by cases h;exact⟨rfl,λ i j e=>by cases e⟩
 | k::is,cs,h=>by
  unfold nY at h;cases e:U[k]? with
  | none=>rw[e]at h;cases h
  | some o =>
   cases o with
   | none=>rw[e]at h;cases h
   | some d =>
    cases e2:nY U is with
    | none=>rw[e,e2]at h;cases h
    | some l =>
     rw[e,e2]at h;cases h;obtain⟨B,J⟩:=ao4 e2;refine⟨by rw[aP,aP,B],λ i j z=>?_⟩;cases i with
     | zero=>cases z;exact⟨d,rfl,e⟩
     | succ i=>exact J i j z
theorem bf4 (E:RE Γ C H s.length U W):∀ {is} {cs},nY U is=al cs->∃ cap,RVL Γ C H cs cap/\nh s.length cs=bY/\∀(i j:Nat)  v ,is[i]?=al j->cap[i]?=al v->W[j]?=al (al v)
 | [],cs,h=>by cases h;exact⟨[],.nil,rfl,λ i j v e=>by cases e⟩
 | k::is,cs,h=>by
  unfold nY at h;cases e:U[k]? with
  | none=>simp_all
  | some o =>
   cases o with
   | none=>simp_all
   | some d =>
    cases e2:nY U is with
    | none=>simp_all
    | some l =>
     rw[e,e2]at h;cases h;obtain⟨cap,J,Y,h3⟩:=bf4 E e2;obtain⟨hb,v,Uu,hv⟩:=E.val k d e;refine⟨v::cap,.cons hv J,by unfold nh;rw[hb,Y];rfl,λ i j w B z=>?_⟩;cases i with
     | zero=>cases B;cases z;exact Uu
     | succ i=>exact h3 i j w B z
def ce7 (L:LamHere Γ X X.N Z h params body scope c P J)(hnm:J.nm=aT)(h2:PA X xs (TAp Γ X.env.cells X.N ms)) :
  PA X (.Lambda params body scope pos::xs) (TAp Γ X.env.cells X.N (λ U s=>match nY U h with|some cs=>(ms U s).bind λ l s=>.ok (.clo Z cs::l) s|none=>.B)):=by
 refine(zR (aX7 L.code L.hd L.bm L.ck L.df) h2).imp λ W H Q q=>?_;obtain⟨C,U,s,l,s',E,R,z,q⟩:=q;have z:(match nY U h with|some cs=>(ms U s).bind λ l s=>DV.R.ok (DV.D.clo Z cs::l) s|none=>DV.R.B)=.ok l s':=z;cases eg:nY U h with
 | none=>simp_all
 | some cs =>
  rw[eg]at z;refine wl λ _ ua=>?_;obtain⟨y,s2,e2,z⟩:=aa1 z;cases z;obtain⟨cap,Uu,B,hW⟩:=bf4 E eg;have Y:=(ao4 eg).1;have hq:J.qual=X.env.qual ++ "<lambda>":=by rw[L.q];unfold LamI.own;rw[hnm]
  refine ua ?_;rw[<-hq];refine bs3 R.tab L.nd L.tab λ f H' e st tb hf ho=>?_;obtain⟨g1,R1⟩:=R.sameT e st tb;refine⟨C,U,s,y,s',E.mono g1 (aj _),R1,e2,λ vs C2 H2 g2 l2 b2 r2 R2=>?_⟩;refine q (.ref f::vs) C2 H2 (g1.trans g2 (aj _)) l2 (by unfold nh nr;rw[ab0 l2 cs B,b2];rfl) (.cons ?_ r2) R2;have p1:PVp Γ X.env.cells X.N W C H' (.clo Z cs) (.ref f):=by
   refine .inr ⟨Z,cs,rfl,f,J,rfl,L.lg,by unfold aj1;rw[hnm];skip;rw[L.p,L.b,L.s];exact ho,by rw[Y,L.len],by rw[L.s];exact L.cl,cap,RVL.mono g1 cs cap B Uu,λ i x v e1 e3=>?_⟩;have hi:i<h.length:=by rw[<-L.len];exact(ag.mp e1).1
   have hj:=au hi;exact⟨by rw[L.s];exact L.fr x (aE e1),h[i],L.at_ i _ x hj e1,hW i _ v hj e3⟩
  exact p1.mono g2 (by unfold nr;exact B)
set_option tactic.hygienic true in
def bk0 {f:String}{es:yL}(G:CG Γ F n X ck)(hg:ck.gl (f:Str)=bY)(Uu:∀ x,X.fn x=bY)(Y:∀ x c,X.env.cells.lookup x=al c->X.env.kindOf x=al .cell\/X.env.kindOf x=al .free)
  (hs:∀ y∈e::es,shp y=bY) (h:PA X (e::es) (TAp Γ X.env.cells X.N ms)) :
  PE X (.Call (.Name (f) p) (e::es) [] pos) (TEv Γ (λ U s=>(ms U s).bind λ l s=>(F.call f l s).bind λ d s'=>if(d.ncl&&s'.all pB)=bY then .ok d s' else .B)):=by
 obtain⟨g1,g2,g3⟩:=G.gl hg;rcases G.call f with hb|⟨a,fd,ps,hF,J,hk,hB⟩
 .intro a0 s W H Q I q;obtain⟨C,U,s,d,s',E,R,z,q⟩:=q;obtain⟨l,s1,e1,z⟩:=aa1 z;rw[hb]at z;exact fb z
 .refine(aM7 hF G.room g1 J hk hB Uu h g2 (ze (hs e (ar ..))) (zr λ y hy=>hs y (ah _ hy)).1).imp λ W H Q q=>?_;obtain⟨C,U,s,d,s',E,R,z,q⟩:=q;obtain⟨l,s1,e1,z⟩:=aa1 z;obtain⟨d2,s2,e2,z⟩:=aa1 z;split at z
  case isFalse=>exact fb z
  rename_i hn;cases z;rw[ae]at hn;refine⟨C,U,s,l,s1,E,R,e1,λ vs C1 H1 gg l1 b1 r1 R1=>λ H2 B=>?_⟩;obtain⟨gs,R2⟩:=R1.same B.same;refine⟨C1,s1,l,d,s',R2,r1.caught B Y b1,b1,e2,λ v C' Z g' l' b' r' R'=>?_⟩;have hc:=B.cells.kp g'.w.kp;exact q v C' (ad0 X.env.cells Z) (gg.trans (Gr.caught B g') l1) (aq l1 l') b' (RV.dropC hc d v hn.1 r') (R'.dropC hc hn.2)
def be1 {xs:yL}(G:CG Γ F n X ck)(hv:ck.var i x=bY)(hs:∀ y∈e::xs,shp y=bY)(h:PA X (e::xs) (TAv Γ (nW F es)))(a0:PE X (.Name x p) (bx0 i)) :
  PE X (.Call (.Name x p) (e::xs) [] pos) (TEv Γ (nq F (.callV i es))):=by
 refine(bs4 rfl rfl rfl rfl rfl G.room a0 h (ze (hs e (ar ..))) (zr λ y hy=>hs y (ah _ hy)).1).imp λ W H Q q=>?_;refine wl λ _ ua=>?_;obtain⟨C,U,s,d,s',E,R,z,q⟩:=q;have z:=z;obtain⟨l,s1,e1,z⟩:=aa1 z;refine ua ?_;cases eU:U[i]? with
 | none=>rw[eU]at z;exact fb z
 | some o =>
  cases o with
  | none=>rw[eU]at z;exact fb z
  | some v0 =>
   obtain⟨hb,v,hW,rv⟩:=E.val i v0 eU;cases v0 with
   | fn f =>
    rw[eU]at z;have z:F.call f l s1=.ok d s':=z;unfold RV at rv;obtain⟨a,ha,e2⟩:=rv;subst e2;obtain⟨h1,h2⟩:=G.fa f a ha;rcases G.call f with hb|⟨a',fd,ps,hF,Y,hk,hB⟩
    .rw[hb]at z;exact fb z
    .rw[h1]at Y;cases Y;refine⟨a,hW,.inr h2,C,U,s,l,s1,E,R,e1,λ vs C1 H1 g1 l1 b1 r1 R1=>?_⟩;exact⟨.inr h2,_,_,ClOk.ofFn hF hB,trivial,C1,s1,l,d,s',R1,r1,b1,z,q.trans g1 l1⟩
   | clo id cs =>
    rw[eU]at z;have z:=z;unfold RV at rv;unfold nr at hb;obtain⟨f,cap,J,B,e2,a1,Z,hcl,a2⟩:=rv;subst e2;have fin:∀ H',CloAt H' f J cap B->bI7 X.K H' f:=λ H' h'=>h'.fn;refine⟨f,hW,fin H Z,C,U,s,l,s1,E,R,e1,λ vs C1 H1 g1 l1 b1 r1 R1=>?_⟩;have Uu:=Z.kp g1.w.kp;exact⟨fin H1 Uu,_,_,G.cl id J f cap B a1 hcl,Uu,C1,s1,cs,l,d,s',R1,r1,RVL.mono g1 cs cap hb a2,b1,ab0 l1 cs hb,z,q.trans g1 l1⟩
   | _=>rw[eU]at z;exact fb z
end
section
variable {Γ:Gm} {F:nA} {n:Nat} {X:Cx} {ck:Ck} {W:St} {H:Hp} {Q:VK}
def cu1 (K:ac)(H:Hp)(v:V)(ys:List V)(z:Bool):Prop:=(∃ a,v=.ref a/\(SqL K H a ys\/(SqT K H a ys/\(z=bY->H a=al (.tp ys)))))\/∃ x,v=.str ⟨x.toArray⟩/\x.length<=nv/\ys=sgV x
def TLv (Γ:Gm)(m:ni->m9->nk (List ng)):TE:=λ W H Q=>∃ C U s l s',RE Γ C H s.length U W/\Rp Γ C H s/\m U s=.ok l s' /\
 ∀ v ys C' H',Gr C s H C' s' H'->s.length<=s'.length->nh s'.length l=bY->cu1 Γ.K H' v ys (nD l)->RVL Γ C' H' l ys->Rp Γ C' H' s'->Q v H'
def aO8 (h:TLv Γ m W H Q):TFv Γ m W H Q:=by
 obtain⟨C,U,s,l,s',E,R,J,q⟩:=h;exact⟨C,U,s,l,s',E,R,J,λ p ys C' H' g Uu hb z h0 ho r B=>q (.ref p) ys C' H' g Uu hb (.inl ⟨p,rfl,.inl (SqL.of z)⟩) r B⟩
theorem aD7 :∀ x:List Nat,RVL Γ C H (x.map λ c=>.str [c]) (sgV x)
 | []=>.nil
 | c::x=>.cons (RV.strI (by unfold nv;simp)) (aD7 x)
theorem au5 :∀ x:List Nat,nh k (x.map λ c=>.str [c])=bY
 | []=>rfl
 | c::x=>by rw[aR];unfold nh;rw[au5 x];rfl
def cb1 (h:TLv Γ (λ U s=>(m U s).bind λ d s=>DV.aY3 d s) W H Q):TEv Γ m W H Q:=by
 obtain⟨C,U,s,l,s',E,R,z,q⟩:=h;obtain⟨d,s1,e1,z⟩:=aa1 z;refine⟨C,U,s,d,s1,E,R,e1,λ v C1 Y g1 l1 b1 r1 R1=>?_⟩;cases d with
 | tp l' =>
  cases z;obtain⟨a,Uu,⟨rfl,z1⟩,B,J⟩:=r1.tupZ;unfold nr at b1;exact q _ Uu C1 Y g1 l1 b1 (.inl ⟨a,rfl,.inr ⟨B,z1⟩⟩) J R1
 | str x =>
  cases z;exact q v (sgV x) C1 Y g1 l1 (au5 x) (.inr ⟨x,r1.strE,r1.strL,rfl⟩) (aD7 x) R1
 | ref k =>
  have z:(match s1[k]? with
   | some (.J l)=>DV.R.ok l s1
   | some (.ro l)=>.ok l s1
   | _=>.B)=.ok l s':=z
  rw[r1.refE];cases e:s1[k]? with
  | none=>rw[e]at z;exact fb z
  | some ob =>
   rw[e]at z;cases ob with
   | J l' =>
    cases z;obtain⟨Uu,B,J⟩:=R1.addr e;have:=R1.wf k _ e;unfold nu at this;exact q _ Uu C1 Y g1 l1 this (.inl ⟨_,rfl,.inl (SqL.of B)⟩) J R1
   | ro l' =>
    cases z;obtain⟨Uu,B,J⟩:=R1.obj k _ e;have:=R1.wf k _ e;unfold nu at this;exact q _ Uu C1 Y g1 l1 this (.inl ⟨_,rfl,.inl B.1⟩) J R1
   | _=>exact fb z
 | _=>exact fb z
def TLv.eq (e:∀ U s,m U s=m' U s)(q:TLv Γ m W H Q):TLv Γ m' W H Q:=by
 have:=funext λ U=>funext λ s=>e U s
 simp_all
def aS9 (G:CG Γ F n X ck)(Uu:ck.gl "tuple"=bY)(hs:shp a=bY)(h:PE X a (TLv Γ m)) :
  PE X (.Call (.Name "tuple" p) [a] [] pos) (TEv Γ (λ U s=>(m U s).bind λ l s=>o6 .tuple l s)):=by
 obtain⟨g1,Y,J⟩:=G.gl Uu;refine(ao1 ((aG2 G.K).or (aG1 G.calm)) g1 (G.bi _ (by decide)) bN5 (zR h af5 (ze hs)) J Y (ze hs) rfl).imp λ W H Q q=>?_;obtain⟨C,U,s,d,s',E,R,z,q⟩:=q;obtain⟨l,s1,e1,z⟩:=aa1 z;cases z;refine⟨C,U,s,l,_,E,R,e1,λ v ys C1 Z g1 l1 b1 hq r1 R1=>?_⟩;rcases hq with⟨a,rfl,hq|hq⟩|⟨x,rfl,hx,rfl⟩
 .exact .inl ⟨a,ys,rfl,.inl ⟨hq,λ p B=>(q.trans g1 l1).tup R1 r1 b1 B⟩⟩
 .exact .inl ⟨a,ys,rfl,.inr ⟨hq.1,q _ C1 Z g1 l1 (by unfold nr;exact b1) (RV.tupC hq.1 hq.2 r1) R1⟩⟩
 .exact .inr ⟨x,rfl,hx,λ p B=>(q.trans g1 l1).tup R1 r1 b1 B⟩
def bg5 (G:CG Γ F n X ck)(Uu:ck.gl "list"=bY)(hs:shp a=bY)(h:PE X a (TLv Γ m)) :
  PE X (.Call (.Name "list" p) [a] [] pos) (TEv Γ (λ U s=>(m U s).bind λ l s=>o6 .list l s)):=by
 obtain⟨g1,Y,J⟩:=G.gl Uu;refine(ao1 ((aT4 G.K).or (aU1 G.calm)) g1 (G.bi _ (by decide)) bW5 (zR h af5 (ze hs)) J Y (ze hs) rfl).imp λ W H Q q=>?_;obtain⟨C,U,s,d,s',E,R,z,q⟩:=q;obtain⟨l,s1,e1,z⟩:=aa1 z;obtain⟨rfl,rfl⟩:=qr z;refine⟨C,U,s,l,_,E,R,e1,λ v ys C1 Z g1 l1 b1 hq r1 R1=>?_⟩;rcases hq with⟨a,rfl,hq⟩|⟨x,rfl,hx,rfl⟩
 .exact .inl ⟨a,ys,rfl,hq.imp id (·.1),λ p B=>(q.trans g1 l1).alloc R1 r1 b1 B⟩
 .exact .inr ⟨x,rfl,hx,λ p B=>(q.trans g1 l1).alloc R1 r1 b1 B⟩
def bZ1 (G:CG Γ F n X ck)(hk:mkT k=al x)(z:ck.gl x=bY)(hs:shp a=bY)(h:PE X a (TLv Γ m)) :
  PE X (.Call (.Name x p) [a] [] pos) (TEv Γ (λ U s=>(m U s).bind λ l s=>o6 k l s)):=by
 cases k<;>cases hk
 .exact aS9 G z hs h
 .exact bg5 G z hs h
def FrC (Γ:Gm)(X:Cx)(x:Str)(k:o4):Prop:=∃ id r,cf x=al (.builtin id)/\x∈bNames/\ae5 X (.builtin id) r/\∀ C H s l ys p d s' Q,Rp Γ C H s->RVL Γ C H l ys->H p=al (.J ys)->o6 k l s=.ok d s'->af8 Γ C s H d s' Q->r [.ref p] H Q
theorem aL7:∀(l:List Int)  a ,(l.foldl min a=a\/l.foldl min a∈l)/\l.foldl min a<=a/\∀ y∈l,l.foldl min a<=y
 | [],a=>⟨.inl rfl,cE _,λ y hy=>by grind⟩
 | b::l,a=>by
  obtain⟨B,J,h3⟩:=aL7 l (min a b);rw[iu];refine⟨?_,by lia,λ y hy=>?_⟩
  all_goals grind
def aN9 (h:oC l=al m):m∈l/\∀ y∈l,m<=y:=by
 cases l with
 | nil=>cases h
 | cons a l =>
  cases h;obtain⟨B,J,h3⟩:=aL7 l a
  simp_all
def bG4 (G:CG Γ F n X ck)(hk:mkF k=al x):FrC Γ X x k:=by
 cases k<;>cases hk
 .refine⟨_,_,bI3,by decide,aW0 G.calm G.K,λ C H s l ys p d s' Q R r J h q=>?_⟩;unfold o6 at h;dsimp only at h;cases e:oq l with
  | none=>rw[e]at h;exact fb h
  | some is =>
   rw[e]at h;have h:(match oC is with|some m=>DV.R.ok (DV.D.int m) s|none=>.B)=.ok d s':=h;cases e2:oC is with
   | none=>rw[e2]at h;exact fb h
   | some mm =>
    rw[e2]at h;cases h;have:=zW e;subst this;refine⟨p,is,rfl,SqL.of (by rw[<-r.ints];exact J),(λ(z)=>by rw[z]at e2;cases e2),λ m h B=>?_⟩;obtain⟨a,b⟩:=aN9 e2;have:=lu (B mm a) (b m h);rw[this];exact q.here R rfl RV.intI
def bU0 (G:CG Γ F n X ck)(hk:mkF k=al x)(Uu:ck.gl x=bY)(hs:shp a=bY)(h:PE X a (TFv Γ m)) :
  PE X (.Call (.Name x p) [a] [] pos) (TEv Γ (λ U s=>(m U s).bind λ l s=>o6 k l s)):=by
 obtain⟨g1,Y,B⟩:=G.gl Uu;obtain⟨id,r,hb,hx,hc,hr⟩:=bG4 G hk;refine(az2 hc g1 (G.bi _ hx) hb (zR h af5 (ze hs)) B Y (ze hs) rfl).imp λ W H Q q=>?_;obtain⟨C,U,s,d,s',E,R,z,q⟩:=q;obtain⟨l,s1,e1,z⟩:=aa1 z;exact⟨C,U,s,l,_,E,R,e1,λ p ys C1 Z g1 l1 b1 J h0 ho r1 R1=>hr C1 Z s1 l ys p d s' Q R1 r1 J z (q.trans g1 l1)⟩
def bV7 (G:CG Γ F n X ck)(hg:ck.gl "min"=bY)(hs:shp a=bY)(h:PE X a (TFv Γ ml))(hd:PE X de (TEv Γ md)) :
  PE X (.Call (.Name "min" p) [a] [⟨al "default",de,kp⟩] pos) (TEv Γ (λ U s=>(ml U s).bind λ l s=>(md U s).bind λ d s=>DV.mkD .min l d s)):=by
 obtain⟨g1,g2,g3⟩:=G.gl hg;refine(bI8 rfl G.calm g1 (G.bi _ (by decide)) h hd (ze hs)).imp λ W H Q q=>?_;obtain⟨C,U,s,d,s',E,R,B,q⟩:=q;obtain⟨l,s1,e1,B⟩:=aa1 B;obtain⟨d0,s2,e2,B⟩:=aa1 B;refine⟨C,U,s,l,s1,E,R,e1,λ p ys C1 H1 g1 l1 b1 hp h0 ho r1 R1=>?_⟩;refine⟨C1,U,s1,d0,s2,E.mono g1 l1,R1,e2,λ v C2 H2 g2 l2 b2 r2 R2=>?_⟩;have Z:=g2.fr p _ hp (by nofun) (λ i ob e mu=>ho i ob e mu);unfold DV.mkD at B
 skip
 cases e:oq l with
 | none=>rw[e]at B;exact fb B
 | some is =>
  rw[e]at B;have J:(match oC is with|some m=>DV.R.ok (DV.D.int m) s2|none=>DV.R.ok d0 s2)=.ok d s':=B;have:=zW e;subst this;have hq:=q.trans (g1.trans g2 l1) (aq l1 l2);refine⟨p,is,rfl,SqL.of (by rw[<-r1.ints];exact Z),λ z=>?_,λ m Y Uu=>?_⟩
  .subst z;cases J;exact hq.here R2 b2 r2
  .clear e2;cases e2:oC is with
   | none =>
    cases is with
    | nil=>cases Y
    | cons _ _=>cases e2
   | some mm =>
    rw[e2]at J;cases J;obtain⟨x,y⟩:=aN9 e2;have:=lu (Uu mm x) (y m Y);rw[this];exact hq.here R2 rfl RV.intI
def bs5 (R:Rp Γ C H s)(g:Gr C s H C' s' H')(hb:r<s.length)(e:s'[r]?=al (.J l)):tyV Γ.K "list" (.ref (C r)) H:=by
 obtain⟨h,z⟩:∃ h,s[r]?=al h:=⟨s[r],au hb⟩
 have J:=g.mu r h _ z e rfl;have ho:=R.obj r h z;cases h with
 | J l0 =>
  obtain⟨Uu,B,_⟩:=ho;exact .inl ⟨rfl,Uu,SqL.of B⟩
 | ro _=>cases J
 | _=>have:=g.kd r _ _ z e;cases this
def mtR (Γ:Gm)(m:o5):V->List V->Hp->VK->Prop:=λ x vs H Q=>∃ C s a l d s',Rp Γ C H s/\RV Γ C H a x/\RVL Γ C H l vs/\a.bnd s.length=bY/\nh s.length l=bY/\pp m a l s=.ok d s'/\af8 Γ C s H d s' Q
def cb6:nv<a7:=by rw[fK];decide
def aM0 (J:mtT m=al (x,k))(h:pp m a l s=.ok d s'):∃ r l0,a=.ref r/\s[r]?=al (.J l0):=by
 have go:∀ {r:Nat} {f:List ng->nk ng},(match s[r]? with|some (.J l)=>f l|_=>.B)=.ok d s'->∃ l0,s[r]?=al (.J l0):=λ {r f} h=>by
  cases e:s[r]? with
  | none=>rw[e]at h;exact fb h
  | some ob =>
   cases ob with
   | J l0=>exact⟨l0,rfl⟩
   | _=>rw[e]at h;exact fb h
 cases a with
 | ref r =>
  have z:∀ {f:List ng->nk ng},(match s[r]? with|some (.J l)=>f l|_=>.B)=.ok d s'->∃ B l0,DV.D.ref r=.ref B/\s[B]?=al (.J l0):=λ h=>by obtain⟨l0,e⟩:=go h;exact⟨_,l0,rfl,e⟩
  cases m with
  | append=>match l with
   | [d]=>exact z h
   | []=>exact fb h
   | _::_::_=>exact fb h
  | _=>exact fb h
 | _=>cases m<;>exact fb h
set_option tactic.hygienic true in
def bu1:MtR X "list.append" (mtR Γ .append):=by
 intro J sh W H x vs v us Q I rx rv h;obtain⟨C,s,a,l,d,s',R,Z,rl,ba,bl,B,q⟩:=h;obtain⟨r,l0,rfl,e⟩:=aM0 rfl B;cases l with
 | nil=>exact fb B
 | cons y t =>
  cases t with
  | cons _ _=>exact fb B
  | nil =>
   simp only[pp,e]at B;split at B
   case isFalse=>exact fb B
   rename_i hlt;cases B;obtain⟨z,rfl,rz⟩:=rl.one;obtain⟨xs,h1,Y⟩:=R.addr e;have Uu:=by have:=R.wf r _ e;unfold nu at this;exact this
   refine aB9 J sh W H x [z] v us Q I rx rv ⟨C r,xs,z,Z.refE,rfl,h1,by rw[Y.length];have:=cb6;lia,?_⟩;exact q.put R e (Y.append (.cons rz .nil)) (qJ Uu bl) rfl RV.nonI
structure MtOk (Γ:Gm)(X:Cx)(m:o5)(x:Str):Prop where
 ex:∃ id,PySem.Slot "list" x id/\my (.builtin id)=pure (.type "method_descriptor")/\MtR X id (mtR Γ m)
def bR8 (hK:X.K=Γ.K)(z:Room (nF+1) X.A)(h:mtT m=al (x,k)):MtOk Γ X m x:=by
 cases m<;>cases h
 .exact⟨_,iE,PySem.F.type_list_append,bu1⟩
def bt1 {B:yL}(G:CG Γ F n X ck)(Uu:mtT m=al (x,B.length))(hab:ce8 ob=bY)(hl:(ap.endLine==cp.line)=bY)(ho:PE X ob (TEv Γ (nq F o)))
  (a1:mEs ck es B=bY) (h:PEs Γ F X es B):EvT Γ X (.Call (.Attribute ob x ap) B [] cp) (nq F (.me m o es)):=by
 refine .val ?_;obtain⟨id,slot,a0,hr⟩:=(bR8 (Γ:=Γ) (X:=X) G.K (G.room.mono G.deep) Uu).ex;have hs:=aw2 a1;have key:∀ W H Q,TEv Γ (nq F (.me m o es)) W H Q->tBM Γ.K "list" (mtR Γ m) (TEv Γ (nq F o)) (TAv Γ (nW F es)) W H Q:=λ W H Q q=>by
  refine wl λ _ ua=>?_;obtain⟨C,U,s,d,s',E,R,z,q⟩:=q;obtain⟨a,s1,e1,z⟩:=aa1 z;obtain⟨l,s2,e2,z⟩:=aa1 z;obtain⟨hq,z⟩:=bD2 z;refine ua ⟨C,U,s,a,s1,E,R,e1,λ v C1 H1 g1 l1 b1 r1 R1=>?_⟩;obtain⟨r,l0,rfl,er⟩:=aM0 Uu z;rw[r1.refE];have hk:∀ C2 H2,Gr C1 s1 H1 C2 s2 H2->tyV Γ.K "list" (.ref (C1 r)) H1:=λ C2 H2 g2=>bs5 R1 g2 (by unfold nr at b1;lia) er;have J:TAv Γ (nW F es) W H1 λ B H2=>mtR Γ m (.ref (C1 r)) B H2 Q:=by
   refine⟨C1,U,s1,l,s2,E.mono g1 l1,R1,e2,λ vs C2 H2 g2 l2 b2 r2 R2=>?_⟩;refine⟨C2,s2,.ref r,l,d,s',R2,?_,r2,zm l2 _ b1,b2,z,q.trans (g1.trans g2 l1) (aq l1 l2)⟩;have:=RV.mono g2 _ _ b1 r1;rw[r1.refE]at this
   simp_all
  refine⟨?_,J⟩;have hlt:r<s1.length:=by unfold nr at b1;lia
  obtain⟨o0,e0⟩:∃ o0,s1[r]?=al o0:=⟨s1[r],au hlt⟩
  have Z:=R1.obj r o0 e0;cases o0 with
  | J l0 =>
   obtain⟨B,Y,_⟩:=Z;exact .inl ⟨rfl,B,SqL.of Y⟩
  | ro l0 =>
   obtain⟨B,Y,_⟩:=Z;exact .inl ⟨rfl,B,Y.1⟩
  | _ =>
   exact iS hq (cn5 e0 er (λ h=>by cases h))
 cases B with
 | nil =>
  have p0:PE X (.Call (.Attribute ob x ap) [] [] cp) (cs2 X.K "list" (mtR Γ m) (TEv Γ (nq F o))):=bQ9 g6 slot a0 hr ho (ay8 hab) hl;rw[G.K]at p0;refine p0.imp λ W H Q q=>?_;cases es with
  | cons _ _=>exact h.elim
  | nil =>
   obtain⟨C,U,s,d,s',E,R,z,k⟩:=key W H Q q;refine⟨C,U,s,d,s',E,R,z,λ v C1 H1 g1 l1 b1 r1 R1=>?_⟩;obtain⟨Y,h2⟩:=k v C1 H1 g1 l1 b1 r1 R1;exact⟨Y,au3 (TAv.eq (λ U s=>rfl) h2)⟩
 | cons y ys =>
  refine(ca8 G.K g6 slot a0 hr ho (ar0 h) (ay8 hab) ?_ hl (ze (hs y (ar ..))) (zr λ e he=>hs e (ah _ he)).1).imp key;rw[(zr hs).2];have:(y::ys).length<=1:=by
   unfold mtT at Uu;lia
  simp only[dh,fT,mF];show(bY&&decide ((y::ys).length+0+0<30))=bY;lia
end
section
variable {Γ:Gm} {F:nA} {n:Nat} {X:Cx} {ck:Ck} {W:St} {H:Hp} {Q:VK}
def PIf.imp (h:PIf X e t)(i:∀ W H Q,t' W H Q->t W H Q):PIf X e t':=λ z s W H Q I q=>h z s W H Q I (i W H Q q)
structure CompF (Γ:Gm)(X:Cx)(m:ni->m9->nk (List ng))(E:Expr):Prop where
 ex:∃ elt tgt iter ifs scope pos N' caps wi g tc te,E=.ListComp elt [⟨tgt,iter,ifs,0⟩] scope pos/\qa N' caps scope X.N X.env.scope=bY/\PI X tgt iter wi /\
  (∀(Cc:Addr) (cells:yC) (s:af) (H:Hp) (ex:List Addr),PG (zP X N' scope Cc cells s H ex) tgt g/\PIf (zP X N' scope Cc cells s H ex) ifs tc/\PE (zP X N' scope Cc cells s H ex) elt te) /\
  (∀ x,dY iter X.env x=pure x)/\∀ W H Q,TFv Γ m W H Q->tComp caps wi g tc te W H Q
def CompF.pe (h:CompF Γ X m E)(hc:X.calm=bY):PE X E (TFv Γ m):=by
 obtain⟨Y,Z,iter,a0,scope,pos,N',z,wi,g,tc,te,rfl,Uu,h2,h3,J,B⟩:=h.ex;exact(aV7 N' z Uu h2 hc h3 J).imp B
def bH4 {mI}(G:CG Γ F n X ck)(Uu:aS8 ck tg z iter h scope=bY)
  (Y:PI X z iter (TIv Γ mI)) (hc:∀ Cc cells s H ex,PT (zP X (ckC ck z h scope).N scope Cc cells s H ex) i (TTv Γ mc)) (Z:∀ Cc cells s H ex,PE (zP X (ckC ck z h scope).N scope Cc cells s H ex) B (TEv Γ J)) :
  CompF Γ X (λ U s=>(mI U s).bind λ q s0=>if q.its.length<=nv then oZ (λ s=>n9 s0 s q.src) (λ d U s=>match nN U tg d with
   | some U=>nE (mc U s) λ k s=>if k then(J U s).bind λ v s=>.ok (al v,U) s else .ok (aT,U) s
   | none=>.B) q.its (oM U h) s0 else .B) (.ListComp B [⟨z,iter,[i],0⟩] scope pos):=by
 obtain⟨c1,c2,c3⟩:=G.comp Uu;exact⟨B,z,iter,[i],scope,pos,_,h,_,_,_,_,rfl,c1,Y,λ Cc cells s H ex=>⟨(c3 Cc cells s H ex).2,bJ0 (hc Cc cells s H ex),Z Cc cells s H ex⟩,ax4 c2,λ W H Q q=>ba6 q⟩
def bv7 {mI}(G:CG Γ F n X ck)(J:aS8 ck tg z iter h scope=bY)
  (Y:PI X z iter (TIv Γ mI)) (Z:∀ Cc cells s H ex,PE (zP X (ckC ck z h scope).N scope Cc cells s H ex) B (TEv Γ Uu)) :
  CompF Γ X (λ U s=>(mI U s).bind λ q s0=>if q.its.length<=nv then oZ (λ s=>n9 s0 s q.src) (λ d U s=>match nN U tg d with
   | some U=>(Uu U s).bind λ v s=>.ok (al v,U) s
   | none=>.B) q.its (oM U h) s0 else .B) (.ListComp B [⟨z,iter,[],0⟩] scope pos):=by
 obtain⟨c1,c2,c3⟩:=G.comp J;refine⟨B,z,iter,[],scope,pos,_,h,_,_,TTv Γ (λ U s=>.ok (.T bY) s),_,rfl,c1,Y,λ Cc cells s H ex=>⟨(c3 Cc cells s H ex).2,bL8.imp λ W H Q q=>?_,Z Cc cells s H ex⟩,ax4 c2,λ W H Q q=>ba6 (TFv.eq (λ U s=>?_) q)⟩
 .obtain⟨C,U,s,b,s',E,R,J,q⟩:=q;cases J;exact q C H (Gr.refl _ _ _) (aj _) R
 .congr 1
def bP4 (G:CG Γ F n X ck)(h:PE X E (TEv Γ (nq F e))):PI X tg E (TIv Γ (oK F (.seq e))):=by
 refine(PI.or (bI5 G.K h) (PI.or (bu2 G.K h) (bR5 h))).imp λ W H R q=>bR3 (TIv.eq (λ U s=>rfl) q)
def bn9 (G:CG Γ F n X ck)(z:ck.gl "range"=bY)(hs:shp l=bY)(h:PE X l (TEv Γ (nq F a))):PI X tg (.Call (.Name "range" p) [l] [] pos) (TIv Γ (oK F (.rg a))) :=
 (bj2 (G.gl z).1 (G.bi _ (by decide)) (zR h af5 (ze hs)) (ze hs)).imp λ W H R q=>bC2 (TIv.eq (λ U s=>rfl) q)
def bm0 {ck0:Nat}(G:CG Γ F n X ck)(B:ck.gl "range"=bY)(hs:shp l=bY)(z:shp r=bY)(h:PE X l (TEv Γ (nq F a)))(J:PE X r (TEv Γ (nq F b))):PI X tg (.Call (.Name "range" p) [l,r,.Constant (.int 2) ck0 cp] [] pos) (TIv Γ (oK F (.rng3 a b 2))) :=
 (aS4 (G.gl B).1 (G.bi _ (by decide)) (zR h (zR J (zR bx5 af5 rfl) (ze z)) (ze hs)) (ze hs) (by rw[ze z];rfl)).imp λ W H R q=>bP7 (TIv.eq (λ U s=>rfl) q)
def bR4 (h:TEv Γ (λ U s=>ow (.dc []) s) W H Q):by2 W H Q:=by
 obtain⟨C,U,s,d,s',E,R,J,q⟩:=h;obtain⟨rfl,rfl⟩:=qr J;intro p z;obtain⟨g,B⟩:=R.new (o:=.dc []) z rfl λ C' H' g e=>⟨[],e,rfl⟩
 exact q (.ref p) _ _ g (by simp) (by unfold nr;simp) (by unfold RV;simp) B
set_option tactic.hygienic true in
def bY6 (h:TEv Γ (λ U s=>(mk U (s++[.dc []])).bind λ kd s1=>(mv U s1).bind λ J s2=>if kd.key=bY/\s2[s.length]?=al (.dc [])then .ok (.ref s.length) (s2.set s.length (.dc [(kd,J)]))else .B) W H Q):cd4 [(TEv Γ mk,TEv Γ mv)] W H Q:=by
 obtain⟨C,U,s,d,s',E,R,B,q⟩:=h;obtain⟨kd,s1,e1,B⟩:=aa1 B;obtain⟨J,s2,e2,B⟩:=aa1 B;split at B
 case isFalse=>exact fb B
 rename_i hc;cases B;intro p hp;obtain⟨g0,R0⟩:=R.new (o:=.dc []) hp rfl λ C' H' g e=>⟨[],e,rfl⟩
 have l0:s.length<=(s++[DV.O.dc []]).length:=by simp
 refine⟨_,U,s++[DV.O.dc []],kd,s1,E.mono g0 l0,R0,e1,λ v1 C1 H1 g1 l1 b1 r1 R1=>?_⟩;refine⟨C1,U,s1,J,s2,(E.mono g0 l0).mono g1 l1,R1,e2,λ Z C2 H2 Y Uu b2 r2 R2=>?_⟩;have z:C2 s.length=p:=by
  rw[Y.w.map s.length (az (by simp) l1),g1.w.map s.length (by simp)];simp
 obtain⟨k,hk⟩:=an1 hc.1;have ek:=aO0 hk (RV.mono Y kd v1 b1 r1);obtain⟨kvs,z1,z2⟩:=R2.obj s.length _ hc.2;have z2:=z2;subst z2;rw[z]at z1;refine⟨z1,[(k,Z)],by rw[ek];rfl,by simp,?_⟩;have hb:(DV.O.dc [(kd,J)]).bnd s2.length=true:=by
  unfold nu;simp only[aR,fk,nh,fI,ae];exact⟨zm Uu _ b1,b2⟩
 obtain⟨g3,R3⟩:=R2.set hc.2 rfl hb λ H' g e=>⟨_,e,k,Z,[],rfl,hk,RV.monoW g _ _ b2 r2,rfl⟩
 rw[z]at g3 R3;have L:=aq l0 (aq l1 Uu);have lt:s.length<s2.length:=az (by simp) (aq l1 Uu);exact q (.ref p) _ _ (((g0.trans g1 l0).trans Y (aq l0 l1)).trans g3 L) (by simp_all) (by unfold nr;simp_all) (by unfold RV;rw[z]) R3
def bE8 (h:TEv Γ (λ U s=>ow (.dit []) s) W H Q):by9 W H Q:=by
 obtain⟨C,U,s,d,s',E,R,J,q⟩:=h;obtain⟨rfl,rfl⟩:=qr J;intro p z;obtain⟨g,B⟩:=R.new (o:=.dit []) z rfl λ C' H' g e=>⟨[],e,rfl⟩
 exact q (.ref p) _ _ g (by simp) (by unfold nr;simp) (by unfold RV;simp) B
section
variable {c:String} {kvs:List (List Nat×List Nat)} {a:Addr}
end
end
section
variable {Γ:Gm} {F:nA} {n:Nat} {X:Cx} {ck:Ck}
end
section
variable {Γ:Gm} {F:nA} {n:Nat} {X:Cx} {ck:Ck}
def TJv (Γ:Gm)(m:ni->m9->nk (List ng))(out:List Nat):TE:=λ W H Q=>∃ C U s l s' ws,RE Γ C H s.length U W/\Rp Γ C H s/\m U s=.ok l s'/\oX l=al ws/\(out++ws.flatten).length<=nv /\
 ∀ C' H',Gr C s H C' s' H'->s.length<=s'.length->Rp Γ C' H' s'->Q (.str ⟨(out++ws.flatten).toArray⟩) H'
def PF (Γ:Gm)(X:Cx)(vs:yL)(m:ni->m9->nk (List ng)):Prop :=
 ∀ out   pins   s  (W:St)  H   Q ,Inv X pins W H s->TJv Γ m out W H Q->wpAny (model X.prog X.w) X.A (joinParts ⟨out.toArray⟩ (evalEach vs X.env)) (EP X pins W Q) X.xe s
def PF.eq (e:∀ U s,m U s=m' U s)(h:PF Γ X vs m):PF Γ X vs m':=λ out z s W H Q I q=>by
 refine wl λ _ ua=>?_;obtain⟨C,U,s0,l,s',ws,E,R,B,q⟩:=q;exact ua $ h out z s W H Q I ⟨C,U,s0,l,s',ws,E,R,by rw[e];exact B,q⟩
def aH1 (w:List Nat):(⟨w.toArray⟩:Str).length=w.length:=by simp[Str.length]
def bX0:PF Γ X [] (λ _ s=>.ok [] s):=λ out z s W H Q I q=>by
 refine wl λ _ ua=>?_;obtain⟨C,U,s0,l,s',ws,E,R,B,hw,h,q⟩:=q;cases B;cases hw;rw[List.flatten_nil,aY]at q h;exact ua $ joinParts_nilE (joinParts_nil ⟨.str ⟨out.toArray⟩,H,I.tok _,⟨_,rfl⟩,q C H (Gr.refl _ _ _) (aj _) R⟩ (by rw[aH1];exact aq h qj))
def bd4 (h:oX (d::l)=al ws):∃ w z,d=.str w/\oX l=al z/\ws=w::z:=by
 cases d with
 | str w =>
  have h:(oX l).map (w::·)=al ws:=h;cases e:oX l with
  | none=>simp_all
  | some z=>simp_all
 | _=>cases h
def bc9 (h2:PF Γ X vs m2)
  (h1:∀(h:yA) (s:af) (W:St) (H:Hp) (w:List Nat) (Q:VK),w.length<=nv->Inv X h W H s->TEv Γ m1 W H (λ x z=>x=.str ⟨w.toArray⟩/\Q x z) ->
   wpAny (model X.prog X.w) X.A (eval v X.env) (λ u s1=>∃ t z,u=.str ⟨w.toArray⟩ t/\Inv X h W z s1/\Q (.str ⟨w.toArray⟩) z) X.xe s) :
  PF Γ X (v::vs) (λ U s=>(m1 U s).bind λ d s=>(m2 U s).bind λ l s=>.ok (d::l) s):=λ out h s W H Q I q=>by
 refine wl λ _ ua=>?_;obtain⟨C,U,s0,l,s',ws,E,R,B,hw,hl,q⟩:=q;obtain⟨d,s1,e1,B⟩:=aa1 B;obtain⟨l2,s2,e2,B⟩:=aa1 B;cases B;obtain⟨w,Z,rfl,Y,rfl⟩:=bd4 hw;rw[gC,<-bo]at hl q;have Uu:(out++w).length<=nv:=by grind
 have J:w.length<=nv:=by grind
 refine ua ?_;refine joinParts_consE (joinParts_cons (bF (h1 h s W H w (λ x z=>∃ C1,Gr C s0 H C1 s1 z/\s0.length<=s1.length/\Rp Γ C1 z s1) J I ⟨C,U,s0,.str w,s1,E,R,e1,λ v C1 z g1 l1 b1 r1 R1=>⟨r1.strE,C1,g1,l1,R1⟩⟩) (λ u a0 hu=>?_) λ _ _ x=>x));obtain⟨t,z,rfl,I1,C1,g1,l1,R1⟩:=hu;show(_++_:Str).length<=a7/\_;rw[be7];refine⟨by rw[aH1];exact aq Uu qj,h2 (out++w) h a0 W z Q I1 ⟨C1,U,s1,l2,s',Z,E.mono g1 l1,R1,e2,Y,hl,λ C2 H2 g2 l2 R2=>q C2 H2 (g1.trans g2 l1) (aq l1 l2) R2⟩⟩
def bB6 (hv:PE X v (TEv Γ B)) h  s (W:St) H (w:List Nat)(Q:VK)(I:Inv X h W H s)(q:TEv Γ B W H (λ x z=>x=.str ⟨w.toArray⟩/\Q x z)) :
  wpAny (model X.prog X.w) X.A (eval v X.env) (λ u s1=>∃ t z,u=.str ⟨w.toArray⟩ t/\Inv X h W z s1/\Q (.str ⟨w.toArray⟩) z) X.xe s :=
 bF (hv h s W H _ I q) (λ u s1 hu=>by
  obtain⟨x,z,J,Y,ex,Uu⟩:=hu;subst ex;obtain⟨t,rfl⟩:=(Y)
  exact⟨t,z,rfl,J,Uu⟩) λ _ _ x=>x
def ca9 (hv:PE X v (TEv Γ z))(Y:PF Γ X vs B) :
  PF Γ X (.FormattedValue v (-1) aT p::vs) (λ U s=>(z U s).bind λ d s=>(B U s).bind λ l s=>.ok (d::l) s) :=
 bc9 Y λ h s W H w Q hw I q=>FormattedValue_plain (bF (bB6 hv h s W H w Q I q) (λ u s1 hu=>by
  obtain⟨t,J,rfl,Uu,Z⟩:=hu;exact formatField_str (λ t' tk=>⟨t',J,rfl,Uu.tok tk,Z⟩) (by rw[aH1];exact aq hw qj)) λ _ _ x=>x)
def cb8 (hv:PE X v (TEv Γ B))(J:PF Γ X vs z) :
  PF Γ X (v::vs) (λ U s=>(B U s).bind λ d s=>(z U s).bind λ l s=>.ok (d::l) s) :=
 bc9 J λ h s W H w Q hw I q=>bB6 hv h s W H w Q I q
end
section
variable {Γ:Gm} {F:nA} {n:Nat} {X:Cx} {ck:Ck} {W:St} {H:Hp} {Q:VK}
def aP6:bo2 bU1:=λ {a b k} ha hb=>by
 cases a with
 | str x =>
  cases ha;cases b with
  | str y =>
   have h:=av hb;lia
  | _=>cases hb
 | _=>cases ha
set_option tactic.hygienic true in
theorem RVD.lk :∀ {l} {gs},RVD bU1 Γ C H l gs->nJ (.str f) l=al d->∃ v,gs.lookup ⟨f.toArray⟩=al v/\RV Γ C H d v/\((⟨f.toArray⟩,v))∈gs/\d∈l.map (·.2)
 | [],_,_,e=>by cases e
 | (a,e0)::l,_,h,e=>by
  obtain⟨k',v',r,rfl,e2,J,B⟩:=h;unfold nJ at e;split at e
  .rename_i ha;subst ha;cases e2
   simp_all
  .rename_i ha;obtain⟨v,Uu,q2,q3,q4⟩:=RVD.lk B e;refine⟨v,?_,q2,ah _ q3,by simp_all⟩;have ne:((⟨f.toArray⟩)==k')=false:=beq_eq_false_iff_ne.mpr λ z=>ha (aP6 e2 (by rw[<-z];rfl));rw[bh,ne];exact Uu
theorem RVD.putA (hv:RV Γ C H d v):∀ {l} {gs},RVD bU1 Γ C H l gs->RVD bU1 Γ C H (ol (.str f) d l) (ar1 ⟨f.toArray⟩ v gs)
 | [],_,h=>by cases(h);exact⟨_,v,[],rfl,rfl,hv,rfl⟩
 | (a,e0)::l,_,h=>by
  obtain⟨k',v',r,rfl,e2,J,B⟩:=h;rw[show ar1 ⟨f.toArray⟩ v ((k',v')::r)=(if k'=⟨f.toArray⟩then(k',v)::r else(k',v')::ar1 ⟨f.toArray⟩ v r)from rfl];unfold ol;by_cases ha:a=.str f
  .subst ha;cases e2;rw[ef rfl,ef rfl];exact⟨_,v,r,rfl,rfl,hv,B⟩
  .rw[gc ha,gc λ z=>ha (aP6 e2 (by rw[z];rfl))];exact⟨k',v',_,rfl,e2,J,RVD.putA hv B⟩
set_option tactic.hygienic true in
theorem putA_mem :∀ {l},p∈ol k v l->p∈l\/(p.1=k/\p.2=v)
 | [],h=>by simp[ol]at h;exact .inr (by rw[h];exact⟨rfl,rfl⟩)
 | (a,e)::l,h=>by
  unfold ol at h;split at h
  .rename_i ha;rcases aB.mp h with z|z
   .subst z;exact .inr ⟨ha,rfl⟩
   .exact .inl (ah _ z)
  .rcases aB.mp h with z|z
   .subst z;exact .inl (ar ..)
   .rcases putA_mem z with z|z
    .exact .inl (ah _ z)
    .exact .inr z
def bn5 (h:(DV.O.ins c l).bnd n=bY)(hd:d.bnd n=bY):(DV.O.ins c (ol (.str f) d l)).bnd n=true:=by
 unfold nu at h ⊢;rw[ae]at h ⊢;have g1:=ab3.mp h.1;have J:=ab3.mp h.2;refine⟨ab3.mpr λ x hx=>?_,ab3.mpr λ x hx=>?_⟩
 .obtain⟨p,B,rfl⟩:=ao.mp hx;rcases putA_mem B with z|⟨z,_⟩
  .exact g1 _ (bv z)
  .rw[z];rfl
 .obtain⟨p,B,rfl⟩:=ao.mp hx;rcases putA_mem B with z|⟨_,z⟩
  .exact J _ (bv z)
  .rw[z];exact hd
set_option tactic.hygienic true in
def aZ1 (h:pG f x s=.ok d s'):∃ r c fs,x=.ref r/\s[r]?=al (.ins c fs)/\nJ (.str f) fs=al d/\s'=s:=by
 unfold pG at h;split at h
 .split at h
  .rename_i c fs e;split at h
   .rename_i e2;cases h;exact⟨_,c,fs,rfl,e,e2,rfl⟩
   .exact fb h
  .exact fb h
 .exact fb h
def bs7 (G:CG Γ F n X ck)(hab:ce8 o=bY)(h:PE X o (TEv Γ m)):PE X (.Attribute o ⟨f.toArray⟩ pos) (TEv Γ (λ U s=>(m U s).bind λ x s=>pG f x s)):=by
 refine(ce2 h (ay8 hab)).imp λ W H Q q=>?_;refine wl λ _ ua=>?_;obtain⟨C,U,s,d,s',E,R,z,q⟩:=q;obtain⟨x,s1,e1,z⟩:=aa1 z;obtain⟨r,c,fs,rfl,hs,hl,rfl⟩:=aZ1 z;refine ua ⟨C,U,s,.ref r,_,E,R,e1,λ v C1 H1 g1 l1 b1 r1 R1=>?_⟩;obtain⟨Cc,Z,gs,⟨hc,hcl⟩,B,J,Uu⟩:=R1.obj r _ hs;obtain⟨v',Y,q2,q3,q4⟩:=Uu.lk hl;have wf:=R1.wf _ _ hs;unfold nu at wf;rw[ae]at wf;rw[G.K];exact⟨C1 r,Cc,Z,gs,v',r1.refE,J,hcl,B _ q3,Y,(q.trans g1 l1).here R1 (ab3.mp wf.2 _ q4) q2⟩
set_option tactic.hygienic true in
def aX9 (h:pH ok f x v s=.ok u s'):∃ r c fs,x=.ref r/\s[r]?=al (.ins c fs)/\ok c=bY/\fs.length<1000/\s'=s.set r (.ins c (ol (.str f) v fs)):=by
 unfold pH at h;split at h
 .split at h
  .rename_i c fs e;split at h
   .rename_i hc;rw[ae]at hc;cases h;exact⟨_,c,fs,rfl,e,hc.1,dO hc.2,rfl⟩
   .exact fb h
  .exact fb h
 .exact fb h
def bl9 (G:CG Γ F n X ck)(ho:PE X o (TEv Γ mo))(hv:PE X h (TEv Γ me))(hn:ap1 h=bY) :
  PS X (.Assign [.Attribute o ⟨f.toArray⟩ Uu] h pos) (TSv Γ (λ U s=>(me U s).bind λ d s=>(mo U s).bind λ x s=>(pH (λ c=>F.att c f) f x d s).bind λ _ s=>.ok (.next U) s)):=by
 refine(bU6 ho hv (aj8 hn)).imp λ D W H q=>?_;refine wl λ _ ua=>?_;obtain⟨C,U,s,c,s',E,R,e,q⟩:=q;obtain⟨d,s1,e1,e⟩:=aa1 e;obtain⟨x,s2,e2,e⟩:=aa1 e;obtain⟨u,s4,e4,e⟩:=aa1 e;cases e;obtain⟨r,cn,fs,rfl,hs,a0,Z,rfl⟩:=aX9 e4;refine ua ⟨C,U,s,d,s1,E,R,e1,λ v1 C1 H1 g1 l1 b1 r1 R1=>?_⟩;refine⟨C1,U,s1,.ref r,s2,E.mono g1 l1,R1,e2,λ v2 C2 H2 g2 l2 b2 r2 R2=>?_⟩;obtain⟨Cc,dx,gs,⟨hc,hcl⟩,a1,ea,rd⟩:=R2.obj r _ hs;have Y:NoAttr Γ.K Cc ⟨f.toArray⟩:=by rw[<-G.K];exact G.ob.att cn f Cc a0 hc
 have wf:=R2.wf _ _ hs;have bd:=zm l2 d b1;have rv:=RV.mono g2 d v1 b1 r1;have hb:=bn5 (f:=f) wf bd;have J:=hb;unfold nu at J;rw[ae]at J;have key:∀ {l},(∀ p∈l,NoAttr Γ.K Cc p.1)->∀ p∈ar1 ⟨f.toArray⟩ v1 l,NoAttr Γ.K Cc p.1:=by
  intro l
  induction l with
  | nil=>intro _ p B;cases(B)with
   | head=>exact Y
   | tail _ z=>cases z
  | cons a l ih =>
   intro hl p B;obtain⟨k,x⟩:=a;rw[show ar1 ⟨f.toArray⟩ v1 ((k,x)::l)=(if k=⟨f.toArray⟩then(k,v1)::l else(k,x)::ar1 ⟨f.toArray⟩ v1 l)from rfl]at B;split at B
   .rcases aB.mp B with z|z
    .subst z;exact hl (k,x) (ar ..)
    .exact hl _ (ah _ z)
   .rcases aB.mp B with z|z
    .subst z;exact hl _ (ar ..)
    .exact ih (λ p B=>hl p (ah _ B)) p z
 obtain⟨g3,R3⟩:=R2.set hs rfl hb λ H' g e=>⟨Cc,dx,_,⟨hc,hcl⟩,key a1,e,RVD.monoW g _ _ J.2 (RVD.putA rv rd)⟩
 have G2:=g1.trans g2 l1;have L2:=aq l1 l2;have L3:s.length<=(s2.set r (.ins cn (ol (.str f) d fs))).length:=by simp_all
 rw[G.K];refine⟨C2 r,Cc,dx,gs,r2.refE,ea,hcl,Y,by rw[rd.length];exact Z,q C2 _ (G2.trans g3 L2) L3 R3 W (E.mono (G2.trans g3 L2) L3)⟩
set_option tactic.hygienic true in
def bh6 (hc:Γ.cls c=al Cc/\Cls Γ.K Cc)(q:TEv Γ (nq F (.new c as)) W H Q):aV8 Cc (spV Γ (F.new c)) [] E0 (TAv Γ (nI F as)) W H Q:=by
 obtain⟨C,U,s,d,s',E,R,h,q⟩:=q;obtain⟨l,s1,e1,h⟩:=aa1 h;obtain⟨d0,s2,e2,h⟩:=aa1 h;split at h
 case isFalse=>exact fb h
 rename_i Z;subst Z;cases h;refine⟨C,U,s,l,s1,E,R,e1,λ vs C1 H1 g1 l1 b1 r1 R1 x B hx Uu ne=>?_⟩;obtain⟨g2,R2⟩:=R1.same ((ag5.refl H1).new Uu);have J:upd H1 B (.own x) x=none:=by rw[zb (bH ne)];exact hx
 obtain⟨g3,R3⟩:=R2.new (o:=.ins c []) J rfl λ C' H' g e=>⟨Cc,B,[],hc,(λ p hp=>by cases hp),e,rfl⟩
 have g4:=g2.trans g3 (aj _);have Y:s1.length<=(s1++[DV.O.ins c []]).length:=by simp
 have z:(if s1.length=s1.length then x else C1 s1.length)=x:=ef rfl;refine⟨_,s1++[.ins c []],.ref s1.length::l,.N,_,R3,.cons (by unfold RV;lia) (by rw[aY];exact RVL.mono g4 l vs b1 r1),by unfold nh;rw[ab0 Y l b1];unfold nr;simp,e2,λ v C' H' g l' b r R'=>⟨r.nonE,?_⟩⟩;have l5:=az (show s1.length<(s1++[DV.O.ins c []]).length by simp) l';refine q (.ref x) C' H' ((g1.trans g4 l1).trans g (aq l1 Y)) (aq l1 (aq Y l')) (by unfold nr;exact ij l5) ?_ R';unfold RV;rw[g.w.map s1.length (by simp)];lia
def bN7 {c:String}{B:yL}(G:CG Γ F n X ck)(hg:ck.gl (c:Str)=bY)(m:mAs ck Y B=bY)(h:PA X B (TAv Γ (nI F Y))):EvT Γ X (.Call (.Name (c) p) B [] pos) (nq F (.new c Y)):=by
 refine .val ?_;obtain⟨g1,g2,g3⟩:=G.gl hg;rcases G.ob.nw c with hbad|⟨k,Cc,a,fd,ps,hk,hc,z,M,hF,hb⟩
 .intro a0 s W H Q I q;refine wl λ _ ua=>?_;obtain⟨C,U,s,d,s',E,R,Uu,q⟩:=q;obtain⟨l,s1,e1,Uu⟩:=aa1 Uu
  refine ua ?_;simp_all
 have hr:=G.room.mono hk;have J:Γ.cls c=al Cc/\Cls Γ.K Cc:=by rw[<-G.K];lia
 cases B with
 | nil =>
  have h0:PE X (.Call (.Name (c) p) [] [] pos) (aV8 Cc (spV Γ (F.new c)) [] E0 aO3):=br0 M hF hr g1 z hb .nil aR3 g2;cases Y with
  | nil =>
   refine h0.imp λ W H Q q=>?_;have Z:=bh6 J q;unfold aV8 at Z ⊢;exact au3 (TAv.eq (λ U s=>rfl) Z)
  | _=>rw[mAs]at m<;>first|cases m|(intros;simp_all)
 | cons x B =>
  have hs:=jG m;exact(bJ3 M hF hr g1 z hb .nil aR3 h g2 (ze (hs x (ar ..))) (zr λ e he=>hs e (ah _ he)).1).imp λ W H Q q=>bh6 J q
set_option tactic.hygienic true in
def aK8 (h:pI x s=.ok c s'):∃ r fs,x=.ref r/\s[r]?=al (.ins c fs)/\s'=s:=by
 unfold pI at h;split at h
 .split at h
  .rename_i c fs e;cases h;exact⟨_,fs,rfl,e,rfl⟩
  .exact fb h
 .exact fb h
theorem aH9 {K}(B:Meth K Cc m a):∀ {gs:List (Str×V)},(∀ p∈gs,NoAttr K Cc p.1)->gs.lookup m=aT
 | [],_=>rfl
 | (k,v)::gs,h=>by
  rw[bh];cases e:m==k with
  | true =>
   have e':=iN e;subst e';have z:=h (m,v) (ar ..);unfold NoAttr at z;rw[B.at_]at z;cases z
  | false=>exact aH9 B λ p J=>h p (ah _ J)
def aA8 {args:yL}(B:i6 (args.length+([]:List fi).length) (cQ pos (a9 args env)) (fh pos (da [] env))=bY)(J:(h.endLine==pos.line)=bY):∃ pl,eval (.Call (.Attribute (.Name x px) m h) args [] pos) env=(do
  let ov <- eval (.Name x px) env
  kq h.atName
  let(f,first) <- gz [ov] (i8 ov m pl)
  callWith pos f first (cQ pos (a9 args env)) (fh pos (da [] env))):=by
 have z:methodCallPos bY (.Name x px) env h pos=pure pos:=by unfold methodCallPos;simp[J]
 rw[arm_eval_Call,ay8 rfl];unfold methodCall;rw[B];simp only[z];exact⟨_,rfl⟩
def bg7 {mo:ot}{m:String}{Y:n6}{B:yL}{y:Str}{py ap pos:Pos}(G:CG Γ F n X ck)(ho:PE X (.Name y py) (TEv Γ (nq F mo)))(ma:mAs ck Y B=bY)(hl:(ap.endLine==pos.line)=bY)(hx:B.length<29)(h:PA X B (TAv Γ (nI F Y))):EvT Γ X (.Call (.Attribute (.Name y py) (m:Str) ap) B [] pos) (nq F (.mcall mo m Y)):=by
 refine .val ?_;intro J sh W H Q I q;refine wl λ _ ua=>?_;obtain⟨C,U,s,d,s',E,R,Uu,q⟩:=q;obtain⟨x,s1,e1,a3⟩:=aa1 Uu;obtain⟨c,s2,e2,a2⟩:=aa1 a3;obtain⟨l,s3,e3,Uu⟩:=aa1 a2;obtain⟨r,fs,rfl,hs,rfl⟩:=aK8 e2;refine ua ?_;rcases G.ob.mc c m with hbad|⟨Cc,a,fd,ps,hc,hcl,z,hF,hb⟩
 .simp_all
 have key:bm5 Cc (m:Str) (spV Γ (F.mcall c m)) [] E0 (TEv Γ (nq F mo)) (TAv Γ (nI F Y)) W H Q:=by
  refine⟨C,U,s,.ref r,s2,E,R,e1,λ v1 C1 H1 g1 l1 b1 r1 R1=>?_⟩;refine wl λ _ ua=>?_;obtain⟨Cc',dx,gs,⟨Z,a4⟩,a1,ea,rd⟩:=R1.obj r _ hs;rw[hc]at Z;cases Z;rw[<-G.K]at a1;refine ua ⟨C1 r,dx,gs,r1.refE,ea,aH9 z a1,C1,U,s2,l,s3,E.mono g1 l1,R1,e3,λ vs C2 H2 g2 l2 b2 r2 R2=>?_⟩;refine⟨C2,s3,.ref r::l,d,s',R2,.cons (RV.mono g2 _ _ b1 r1) (by simp_all),by unfold nh;rw[b2,zm l2 _ b1];rfl,Uu,q.trans (g1.trans g2 l1) (aq l1 l2)⟩
 have hf:i6 (B.length+([]:List fi).length) (cQ pos (a9 B X.env)) (fh pos (da [] X.env))=true:=by
  show((cQ pos (a9 B X.env)).all (λ x=>!x.1)&&(fh pos (da [] X.env)).all (λ x=>x.1.isSome)&&decide (B.length+([]:List fi).length+(if([]:List fi).isEmpty then 0 else 1)<30))=bY;rw[(zr (jG ma)).2];simp only[dh,ae,li];exact⟨rfl,by grind⟩
 obtain⟨pl,ht⟩:=aA8 (x:=y) (px:=py) (m:=(m:Str)) hf hl;cases B with
 | nil =>
  have h0:PE X (.Call (.Attribute (.Name y py) (m:Str) ap) [] [] pos) (bm5 Cc (m:Str) (spV Γ (F.mcall c m)) [] E0 (TEv Γ (nq F mo)) aO3):=bu6 (pl:=pl) ho hcl z hF G.room hb .nil aR3 ht;refine h0 J sh W H Q I ?_;cases Y with
  | nil =>
   obtain⟨C,U,s,d,s',E,R,Uu,k⟩:=key;refine⟨C,U,s,d,s',E,R,Uu,λ v1 C1 H1 g1 l1 b1 r1 R1=>?_⟩;obtain⟨a,dx,fs,w1,w2,w3,w4⟩:=k v1 C1 H1 g1 l1 b1 r1 R1;exact⟨a,dx,fs,w1,w2,w3,au3 (TAv.eq (λ U s=>rfl) w4)⟩
  | _=>rw[mAs]at ma<;>first|grind|(intros;simp_all)
 | cons e es =>
  have a0:=jG ma;exact aY2 (pl:=pl) ho hcl z hF G.room hb .nil aR3 h (ze (a0 e (ar ..))) (zr λ e he=>a0 e (ah _ he)).1 ht J sh W H Q I key
end
section
variable {Γ:Gm} {F:nA} {n:Nat} {X:Cx} {ck:Ck}
theorem RVD.merge :∀ {m l} {more kvs},RVD ai9 Γ C H l kvs->RVD ai9 Γ C H m more->RVD ai9 Γ C H (DV.cq3 l m) (aq5 kvs more)
 | [],l,more,kvs,h,g=>by
  have g:=g;subst g;exact h
 | (d,e)::m,l,_,kvs,h,g=>by
  obtain⟨k,v,r,rfl,e2,B,z⟩:=g
  skip
  exact RVD.merge (l:=nG d e l) (kvs:=as4 kvs k v) (RVD.put keyOf_inj e2 B h) z
end
section
variable {Γ:Gm} {F:nA} {n:Nat}
set_option tactic.hygienic true in
def bZ4 (h:mC c v=bY):EvT Γ X (.Constant v k pos) (nq F (.K c)):=by
 refine .val ?_;unfold mC at h;split at h
 .exact bA3.imp λ W H Q q=>aC9 (λ _=>rfl) (λ _ _=>RV.nonI) (TEv.eq (λ U s=>rfl) q)
 .rename_i b c;have e:=iN h;subst e;exact cb2.imp λ W H Q q=>aC9 (λ _=>rfl) (λ _ _=>RV.blI) (TEv.eq (λ U s=>rfl) q)
 .rename_i i j;have e:=dO h;subst e;exact bx5.imp λ W H Q q=>aC9 (λ _=>rfl) (λ _ _=>RV.intI) (TEv.eq (λ U s=>rfl) q)
 .rename_i x y;rw[ae]at h;have e:=dO h.1;have e2:=dO h.2;subst e;exact by6.imp λ W H Q q=>aC9 (λ _=>rfl) (λ _ _=>RV.strI (by unfold nv;lia)) (TEv.eq (λ U s=>rfl) q)
 .cases h
def bC8 {z:yL}(m:mEs Z es z=bY)(hz:z.length<=1000)(h:PA X z (TAv Γ (nW F es))):PE X (.List z pos) (TFv Γ (DV.evL F (.disp es))):=by
 refine(be6 h).imp λ W H Q q=>?_;obtain⟨C,U,s,l,s',E,R,J,q⟩:=q;refine⟨C,U,s,l,s',E,R,J,λ vs C1 Y g1 l1 b1 r1 R1=>⟨by rw[r1.length,ax6 J m];exact aP7 hz,λ p B=>?_⟩⟩;obtain⟨Uu,R2⟩:=R1.same ((ag5.refl Y).new B);refine q p vs C1 _ (g1.trans Uu l1) l1 b1 zg ?_ (Off.new R1 B) (RVL.mono Uu _ _ b1 r1) R2;cases e:H p with
 | none=>rfl
 | some o=>exact iS B (g1.st p (by lia))
def CompF.eq (c:CompF Γ X m E)(e:∀ U s,m' U s=m U s):CompF Γ X m' E:=by
 have:=funext λ U=>funext λ s=>e U s
 simp_all
def zh (h:(a&&b)=bY):a=bY/\b=true:=by rw[ae]at h;exact h
def bK7 {g:String}(G:CG Γ F n X J)(h:J.gl (g:Str)=bY):EvT Γ X (.Name (g) p) (nq F (.gl g)):=by
 refine .val ?_;obtain⟨g1,Z,g3⟩:=G.gl h;cases e:F.con g with
 | none =>
  intro B s W H Q I q;obtain⟨C,U,s,d,s',E,R,z,q⟩:=q;have z:(match F.con g with|some d=>DV.R.ok d s|none=>.B)=.ok d s':=z
  simp_all
 | some d =>
  obtain⟨v,u,Y,h2,h3,Uu⟩:=G.con g d e;exact(aH0 g1 Y h2 Z).imp λ W H Q q=>aC9 h3 Uu (TEv.eq (λ U s=>by show(match F.con g with|some d=>DV.R.ok d s|none=>.B)=DV.R.ok d s;rw[e]) q)
def bZ7 (G:CG Γ F n X z)(h:z.var i x=bY):EvT Γ X (.Name x p) (nq F (.X i)):=by
 refine .val ?_;unfold Ck.var at h;obtain⟨h,Uu⟩:=zh h;obtain⟨h,h3⟩:=zh h;obtain⟨B,J⟩:=zh h;have e1:(x==("__debug__"))=false:=by simpa using h3
 have e2:(x==("__classdict__"))=false:=by simpa using Uu
 exact(bi0 (by rw[G.N];exact dO B) (G.vis J) e1 e2).imp λ W H Q q=>cc7 i (TEv.eq (λ U s=>rfl) q)
def by7 (G:CG Γ F n X z)(h:z.var i x=bY):PE X (.Name x p) (bx0 i):=by
 unfold Ck.var at h;obtain⟨h,Uu⟩:=zh h;obtain⟨h,h3⟩:=zh h;obtain⟨B,J⟩:=zh h;exact bi0 (by rw[G.N];exact dO B) (G.vis J) (by simpa using h3) (by simpa using Uu)
theorem av9 :∀ {es} {B:yL},bQ2 Uu es B=bY->∀ x∈B,shp x=bY
 | .nil,[],_,x,hx=>by cases hx
 | .nil,_::_,h,_,_=>ff h
 | .ex e es,[],h,_,_=>ff h
 | .ex e es,y::ys,h,x,hx=>by
  obtain⟨h,h3⟩:=zh h;obtain⟨J,z⟩:=zh h;rcases aB.mp hx with rfl|hx
  .exact z
  .exact av9 h3 x hx
 | .lam _ _ es,[],h,_,_=>ff h
 | .lam _ _ es,y::ys,h,x,hx=>by
  obtain⟨h,h3⟩:=zh h;obtain⟨J,z⟩:=zh h;rcases aB.mp hx with rfl|hx
  .exact z
  .exact av9 h3 x hx
 | .fn _ _,_,h,_,_=>ff h
theorem aM5 :∀ {es} {Y:yL},bQ2 J es Y=bY->bs0 es=bY->∃ B z E,J.lk B z E=bY
 | .nil,_,_,h=>by cases h
 | .ex e es,[],h,_=>ff h
 | .ex e es,y::ys,h,hl=>by
  obtain⟨h,h3⟩:=zh h;exact aM5 h3 hl
 | .lam B z es,[],h,_=>ff h
 | .lam B z es,y::ys,h,_=>by
  obtain⟨h,h3⟩:=zh h;obtain⟨Uu,Z⟩:=zh h;exact⟨B,z,y,Uu⟩
 | .fn _ _,_,h,_=>ff h
def aM6 (h:∀ U s,m U s=.B):EvT Γ X E m:=by
 refine⟨λ B s W H Q I q=>?_,λ B s W H Q I q=>?_⟩
 .obtain⟨C,U,s,d,s',E,R,z,q⟩:=q
  simp_all
 .obtain⟨C,U,s,d,s',E,R,z,q⟩:=q
  simp_all
inductive LK (Γ:Gm)(X:Cx)(m:ni->m9->nk (List ng))(E:Expr)(k:Nat):Prop where
 | c (h:CompF Γ X m E):LK Γ X m E k
 | f (hk:1<=k) (h:PE X E (TFv Γ m)):LK Γ X m E k
 | s (hk:k=2) (h:PE X E (TLv Γ m)):LK Γ X m E k
def bW2 (h:LK Γ X m E 0):CompF Γ X m E:=by
 cases h with
 | c h=>exact h
 | f hk h=>lia
 | s hk h=>lia
def bL2 (G:CG Γ F n X z)(h:LK Γ X m E 1):PE X E (TFv Γ m):=by
 cases h with
 | c h=>exact h.pe G.calm
 | f hk h=>exact h
 | s hk h=>lia
def ck2 (G:CG Γ F n X z)(h:LK Γ X m E 2):PE X E (TLv Γ m):=by
 cases h with
 | c h=>exact(h.pe G.calm).imp λ W H Q q=>aO8 q
 | f hk h=>exact h.imp λ W H Q q=>aO8 q
 | s hk h=>exact h
def biOk_inv (h:ch0 z b x B (mEs z es B) (mEs z es (B.take 1))=bY) :
  (∃ k t a y Y,biK b=al (k,t)/\B=[a,.Name y Y]/\x=("isinstance")/\y=t/\z.gl x=bY/\z.gl y=bY/\mEs z es [a]=bY)\/∃ a ys,B=a::ys/\biT b=al x/\z.gl x=bY/\mEs z es (a::ys)=true:=by
 unfold ch0 at h
 grind
mutual
theorem sE:∀(e:ot) (E:Expr) (X:Cx) (z:Ck),CG Γ F n X z->mE z e E=bY->EvT Γ X E (nq F e)
 | .X i,E,X,z,G,h=>by
  cases E with
  | Name x p =>
   exact bZ7 G h
  | _=>exact ff h
 | .K c,E,X,z,G,h=>by
  cases E with
  | Constant v k p =>
   exact bZ4 h
  | _=>exact ff h
 | .gl g,E,X,z,G,h=>by
  cases E with
  | Name x p =>
   obtain⟨J,B⟩:=zh h;have e:=dO J;subst e;exact bK7 G B
  | _=>exact ff h
 | .G op a b,E,X,z,G,h=>by
  cases E with
  | BinOp l o r pE =>
   obtain⟨h,h3⟩:=zh h;obtain⟨J,B⟩:=zh h;have e:=dO J;subst e;exact bM7 G op (sE a _ X z G B) (sE b _ X z G h3)
  | _=>exact ff h
 | .not a,E,X,z,G,h=>by
  cases E with
  | UnaryOp o l p =>
   cases o with
   | Not =>
    exact bG1 (sE a _ X z G h)
   | _=>exact ff h
  | _=>exact ff h
 | .Z op a b,E,X,z,G,h=>by
  cases E with
  | Compare l os rs pE =>
   cases os with
   | cons o os_0 =>
    cases os_0 with
    | nil =>
     cases rs with
     | cons r rs_0 =>
      cases rs_0 with
      | nil =>
       obtain⟨h,h3⟩:=zh h;obtain⟨J,B⟩:=zh h;have e:=dO J;subst e;exact bG7 G op (aK6 h3) (sE a _ X z G B) (sE b _ X z G h3)
      | _=>exact ff h
     | _=>exact ff h
    | _=>exact ff h
   | _=>exact ff h
  | _=>exact ff h
 | .isN a,E,X,z,G,h=>by
  cases E with
  | Compare l os rs pE =>
   cases os with
   | cons o os1 =>
    cases o with
    | Is =>
     cases os1 with
     | nil =>
      cases rs with
      | cons r rs1 =>
       cases r with
       | Constant v k p1 =>
        cases v with
        | none =>
         cases rs1 with
         | nil =>
          exact bF5 (sE a _ X z G h)
         | _=>exact ff h
        | _=>exact ff h
       | _=>exact ff h
      | _=>exact ff h
     | _=>exact ff h
    | _=>exact ff h
   | _=>exact ff h
  | _=>exact ff h
 | .notN a,E,X,z,G,h=>by
  cases E with
  | Compare l os rs pE =>
   cases os with
   | cons o os1 =>
    cases o with
    | IsNot =>
     cases os1 with
     | nil =>
      cases rs with
      | cons r rs1 =>
       cases r with
       | Constant v k p1 =>
        cases v with
        | none =>
         cases rs1 with
         | nil =>
          exact bl5 (sE a _ X z G h)
         | _=>exact ff h
        | _=>exact ff h
       | _=>exact ff h
      | _=>exact ff h
     | _=>exact ff h
    | _=>exact ff h
   | _=>exact ff h
  | _=>exact ff h
 | .and a b,E,X,z,G,h=>by
  cases E with
  | BoolOp op vs p=>cases op with
   | And =>
    cases vs with
    | nil=>exact ff h
    | cons l vs=>cases vs with
     | nil=>exact ff h
     | cons r vs=>cases vs with
      | nil =>
       obtain⟨J,B⟩:=zh h;exact bL4 (sE a _ X z G J) (sE b _ X z G B)
      | cons r2 vs =>
       obtain⟨J,B⟩:=zh h;exact bP9 (sE a _ X z G J) (sE b _ X z G B)
   | _=>exact ff h
  | _=>exact ff h
 | .or a b,E,X,z,G,h=>by
  cases E with
  | BoolOp op vs p=>cases op with
   | Or =>
    cases vs with
    | nil=>exact ff h
    | cons l vs=>cases vs with
     | nil=>exact ff h
     | cons r vs=>cases vs with
      | nil =>
       obtain⟨J,B⟩:=zh h;exact bX9 (sE a _ X z G J) (sE b _ X z G B)
      | cons r2 vs =>
       obtain⟨J,B⟩:=zh h;exact bR7 (sE a _ X z G J) (sE b _ X z G B)
   | _=>exact ff h
  | _=>exact ff h
 | .ite c a b,E,X,z,G,h=>by
  cases E with
  | IfExp tE l r pE =>
   obtain⟨h,h3⟩:=zh h;obtain⟨J,B⟩:=zh h;exact bC4 (sE c _ X z G J) (sE a _ X z G B) (sE b _ X z G h3)
  | _=>exact ff h
 | .tp es,E,X,z,G,h=>by
  cases E with
  | Tuple xs k p =>
   obtain⟨J,B⟩:=zh h;exact bB9 J (dO B) (ar0 (sEs es _ X z G J))
  | _=>exact ff h
 | .J es,E,X,z,G,h=>by
  cases E with
  | List xs p =>
   obtain⟨J,B⟩:=zh h;exact bK2 J (dO B) (ar0 (sEs es _ X z G J))
  | _=>exact ff h
 | .dc .nil .nil,E,X,z,G,h=>by
  cases E with
  | Dict a b p=>cases a with
   | nil=>cases b with
    | nil=>exact .val (bu5.imp λ W H Q q=>bR4 (TEv.eq (λ U s=>rfl) q))
    | _=>exact ff h
   | cons x a=>cases x with
    | none=>exact ff h
    | some x=>cases a with
     | nil=>cases b with
      | nil=>exact ff h
      | cons y b=>cases b with
       | nil=>exact ff h
       | _=>exact ff h
     | _=>exact ff h
  | _=>exact ff h
 | .dc (.cons k .nil) (.cons v .nil),E,X,z,G,h=>by
  cases E with
  | Dict a b p=>cases a with
   | nil=>cases b with
    | nil=>exact ff h
    | _=>exact ff h
   | cons x a=>cases x with
    | none=>exact ff h
    | some x=>cases a with
     | nil=>cases b with
      | nil=>exact ff h
      | cons y b=>cases b with
       | nil =>
        obtain⟨J,B⟩:=zh h;obtain⟨J,_⟩:=zh J;obtain⟨J,_⟩:=zh J;obtain⟨B,_⟩:=zh B;obtain⟨B,_⟩:=zh B;exact .val ((bN8 (bm8 (sE k _ X z G J).1 (sE v _ X z G B).1 bE1) rfl rfl (by nofun) (by show 1<=15;decide)).imp λ W H Q q=>bY6 (TEv.eq (λ U s=>rfl) q))
       | _=>exact ff h
     | _=>exact ff h
  | _=>exact ff h
 | .dc .nil (.cons _ _),E,X,z,G,h=>aM6 λ _ _=>rfl
 | .dc (.cons _ .nil) .nil,E,X,z,G,h=>aM6 λ _ _=>rfl
 | .dc (.cons _ .nil) (.cons _ (.cons _ _)),E,X,z,G,h=>aM6 λ _ _=>rfl
 | .dc (.cons _ (.cons _ _)) _,E,X,z,G,h=>aM6 λ _ _=>rfl
 | .attr o f,E,X,z,G,h=>by
  cases E with
  | Attribute ob x p =>
   obtain⟨h,h3⟩:=zh h;obtain⟨J,B⟩:=zh h;have e:=dO J;subst e;exact .val ((bs7 G B (sE o _ X z G h3).1).imp λ W H Q q=>TEv.eq (λ U s=>rfl) q)
  | _=>exact ff h
 | .new c as,E,X,z,G,h=>by
  cases E with
  | Call fE xs kw p =>
   cases fE with
   | Name x pN =>
    cases kw with
    | nil =>
     obtain⟨h,h3⟩:=zh h;obtain⟨J,B⟩:=zh h;have e:=dO J;subst e;exact bN7 G B h3 (sAs as _ X z G h3)
    | _=>exact ff h
   | _=>exact ff h
  | _=>exact ff h
 | .mcall o m as,E,X,z,G,h=>by
  cases E with
  | Call fE xs kw p =>
   cases fE with
   | Attribute ob x ap =>
    cases kw with
    | nil =>
     cases ob with
     | Name y py =>
      obtain⟨h,Y⟩:=zh h;obtain⟨h,Uu⟩:=zh h;obtain⟨h,h3⟩:=zh h;obtain⟨J,B⟩:=zh h;have e:=dO J;subst e;exact bg7 G (sE o _ X z G B).1 Y h3 (dO Uu) (sAs as _ X z G Y)
     | _=>exact ff h
    | _=>exact ff h
   | _=>exact ff h
  | _=>exact ff h
 | .dicT,E,X,z,G,h=>by
  cases E with
  | Dict a b p=>cases a with
   | nil=>cases b with
    | nil=>exact .val (bp0.imp λ W H Q q=>bE8 (TEv.eq (λ U s=>rfl) q))
    | _=>exact ff h
   | _=>exact ff h
  | _=>exact ff h
 | .ix a b,E,X,z,G,h=>by
  cases E with
  | Subscript o i p =>
   obtain⟨J,B⟩:=zh h;exact cg1 G (aK6 B) (sE a _ X z G J) (sE b _ X z G B)
  | _=>exact ff h
 | .slU a hi,E,X,z,G,h=>by
  cases E with
  | Subscript o i p =>
   cases i with
   | Slice lo hi st p2 =>
    cases lo with
    | none =>
     cases hi with
     | some l =>
      cases st with
      | none =>
       obtain⟨J,B⟩:=zh h;exact bM8 G (sE a _ X z G J) (sE hi _ X z G B)
      | _=>exact ff h
     | _=>exact ff h
    | _=>exact ff h
   | _=>exact ff h
  | _=>exact ff h
 | .call f as,E,X,z,G,h=>by
  cases E with
  | Call fE xs kw p =>
   cases fE with
   | Name x pN =>
    cases kw with
    | nil =>
     obtain⟨h,h3⟩:=zh h;obtain⟨J,B⟩:=zh h;have e:=dO J;subst e;exact bm4 G B h3 (sAs as _ X z G h3)
    | _=>exact ff h
   | _=>exact ff h
  | _=>exact ff h
 | .callC f as,E,X,z,G,h=>by
  cases E with
  | Call fE xs kw p =>
   cases fE with
   | Name x pN =>
    cases xs with
    | cons y ys =>
     cases kw with
     | nil =>
      obtain⟨h,h3⟩:=zh h;obtain⟨h,Uu⟩:=zh h;obtain⟨J,B⟩:=zh h;have e:=dO J;subst e;obtain⟨id,a0,E',hlk⟩:=aM5 h3 Uu;obtain⟨_,_,_,_,_,_,_,_,L⟩:=G.lam id a0 E' hlk;exact .val ((bk0 G B L.fn L.kd (av9 h3) (ck6 as _ X z G h3)).imp λ W H Q q=>TEv.eq (λ U s=>rfl) q)
     | _=>exact ff h
    | _=>exact ff h
   | _=>exact ff h
  | _=>exact ff h
 | .callV i es,E,X,z,G,h=>by
  cases E with
  | Call fE xs kw p =>
   cases fE with
   | Name x pN =>
    cases xs with
    | cons y ys =>
     cases kw with
     | nil =>
      obtain⟨J,B⟩:=zh h;exact .val (be1 G J (aw2 B) (ar0 (sEs es _ X z G B)) (by7 G J))
     | _=>exact ff h
    | _=>exact ff h
   | _=>exact ff h
  | _=>exact ff h
 | .bi b es,E,X,z,G,h=>by
  cases E with
  | Call fE xs kw p =>
   cases fE with
   | Name x pN =>
    cases kw with
    | nil =>
     have h:ch0 z b x xs (mEs z es xs) (mEs z es (xs.take 1))=true:=h;rcases biOk_inv h with⟨k,t,a,y,py,hk,rfl,rfl,rfl,B,Uu,Y⟩|⟨a,ys,rfl,J,B,h3⟩
     .exact bJ1 G hk B Uu (sEs es _ X z G Y)
     .exact bS5 G J B h3 (ar0 (sEs es _ X z G h3))
    | _=>exact ff h
   | _=>exact ff h
  | _=>exact ff h
 | .mk k l,E,X,z,G,h=>by
  cases E with
  | ListComp e gs sc p =>
   obtain⟨J,B⟩:=zh h;have e:=dO J;subst e;rcases(b7 _ _).mp B with B|B
   .exact .val (((bW2 (sL l _ X z G 0 B)).pe G.calm).imp λ W H Q q=>aG5 (TEv.eq (λ U s=>rfl) q))
   .exact .val ((bL2 G (sL l _ X z G 1 (zh B).2)).imp λ W H Q q=>aG5 (TEv.eq (λ U s=>rfl) q))
  | Call fE xs kw p =>
   cases fE with
   | Name x pN =>
    cases xs with
    | cons a xs_0 =>
     cases xs_0 with
     | nil =>
      cases kw with
      | nil =>
       obtain⟨h,Uu⟩:=zh h;obtain⟨B,h3⟩:=zh h;rw[b7]at Uu;rcases Uu with Uu|Uu
       .obtain⟨Y,Z⟩:=zh Uu;exact .val ((bZ1 G (dO Y) B h3 (ck2 G (sL l _ X z G 2 Z))).imp λ W H Q q=>TEv.eq (λ U s=>rfl) q)
       .obtain⟨Y,Z⟩:=zh Uu;exact .val ((bU0 G (dO Y) B h3 (bL2 G (sL l _ X z G 1 Z))).imp λ W H Q q=>TEv.eq (λ U s=>rfl) q)
      | _=>exact ff h
     | _=>exact ff h
    | _=>exact ff h
   | _=>exact ff h
  | _=>exact ff h
 | .mkD k l d,E,X,z,G,h=>by
  cases E with
  | Call fE xs kw p =>
   cases fE with
   | Name x pN =>
    cases xs with
    | cons a xs_0 =>
     cases xs_0 with
     | nil =>
      cases kw with
      | cons kk kw1 =>
       cases kk with
       | mk ky de kp =>
        cases ky with
        | some y =>
         cases kw1 with
         | nil =>
          obtain⟨h,h7⟩:=zh h;obtain⟨h,Z⟩:=zh h;obtain⟨h,Y⟩:=zh h;obtain⟨h,h3⟩:=zh h;obtain⟨J,B⟩:=zh h;have e3:=dO B;subst e3;obtain⟨e,e2⟩:=zh J;have e:=dO e;have e2:=dO e2;subst e e2;exact .val ((bV7 G h3 Y (bL2 G (sL l _ X z G 1 Z)) (sE d _ X z G h7).1).imp λ W H Q q=>TEv.eq (λ U s=>rfl) q)
         | _=>exact ff h
        | _=>exact ff h
      | _=>exact ff h
     | _=>exact ff h
    | _=>exact ff h
   | _=>exact ff h
  | _=>exact ff h
 | .me m o es,E,X,z,G,h=>by
  cases E with
  | Call fE xs kw p =>
   cases fE with
   | Attribute ob x ap =>
    cases kw with
    | nil =>
     obtain⟨h,Y⟩:=zh h;obtain⟨h,Uu⟩:=zh h;obtain⟨h,h3⟩:=zh h;obtain⟨J,B⟩:=zh h;exact bt1 G (dO J) B h3 (sE o _ X z G Uu).1 Y (sEs es _ X z G Y)
    | _=>exact ff h
   | _=>exact ff h
  | _=>exact ff h
theorem sEs:∀(es:nO) (z:yL) (X:Cx) (B:Ck),CG Γ F n X B->mEs B es z=bY->PEs Γ F X es z
 | .nil,z,X,B,G,h=>by
  cases z with
  | nil =>
   exact trivial
  | _=>exact ff h
 | .cons e es,z,X,B,G,h=>by
  cases z with
  | cons x z =>
   obtain⟨h,h3⟩:=zh h;obtain⟨J,Uu⟩:=zh h;exact⟨⟨Uu,sE e _ X B G J⟩,sEs es _ X B G h3⟩
  | _=>exact ff h
theorem sFs:∀(es:nO) (B:yL) (X:Cx) (z:Ck),CG Γ F n X z->mFs z es B=bY->PF Γ X B (nW F es)
 | .nil,B,X,z,G,h=>by
  cases B with
  | nil=>exact(bX0).eq λ _ _=>rfl
  | _=>exact ff h
 | .cons e es,B,X,z,G,h=>by
  cases B with
  | cons x B =>
   cases x with
   | FormattedValue v c sp p =>
    cases sp with
    | none =>
     obtain⟨h,h3⟩:=zh h;obtain⟨J,Uu⟩:=zh h;have e1:=dO J;subst e1;exact(ca9 (sE e _ X z G Uu).1 (sFs es _ X z G h3)).eq λ _ _=>rfl
    | _=>exact ff h
   | Constant v j p =>
    obtain⟨J,Uu⟩:=zh h;exact(cb8 (sE e _ X z G J).1 (sFs es _ X z G Uu)).eq λ _ _=>rfl
   | _=>exact ff h
  | _=>exact ff h
theorem sAs:∀(es:n6) (z:yL) (X:Cx) (B:Ck),CG Γ F n X B->mAs B es z=bY->PA X z (TAv Γ (nI F es))
 | .nil,z,X,B,G,h=>by
  cases z with
  | nil =>
   exact af5.imp λ W H Q q=>au3 (TAv.eq (λ U s=>rfl) q)
  | _=>exact ff h
 | .ex e es,z,X,B,G,h=>by
  cases z with
  | cons x z =>
   obtain⟨h,h3⟩:=zh h;obtain⟨J,Uu⟩:=zh h;exact(aQ2 Uu (sE e _ X B G J).1 (sAs es _ X B G h3)).imp λ W H Q q=>TAv.eq (λ U s=>rfl) q
  | _=>exact ff h
 | .lam _ _ _,z,X,B,G,h=>ff h
 | .fn _ _,z,X,B,G,h=>ff h
theorem ck6:∀(es:n6) (z:yL) (X:Cx) (B:Ck),CG Γ F n X B->bQ2 B es z=bY->PA X z (TAp Γ X.env.cells X.N (nI F es))
 | .nil,z,X,B,G,h=>by
  cases z with
  | nil =>
   exact af5.imp λ W H Q q=>bH0 (TAp.eq (λ U s=>rfl) q)
  | _=>exact ff h
 | .ex e es,z,X,B,G,h=>by
  cases z with
  | cons x z =>
   obtain⟨h,h3⟩:=zh h;obtain⟨Y,Uu⟩:=zh h;exact(zR (sE e _ X B G Y).1 (ck6 es _ X B G h3) (ze Uu)).imp λ W H Q q=>bZ6 (TAp.eq (λ U s=>rfl) q)
  | _=>exact ff h
 | .lam id caps es,z,X,B,G,h=>by
  cases z with
  | cons x z =>
   obtain⟨h,h3⟩:=zh h;obtain⟨Y,Uu⟩:=zh h;obtain⟨c,P,params,body,scope,pos,J,e,L⟩:=G.lam id caps _ Y;have hnm:J.nm=none:=by
    cases q:J.nm with
    | none=>rfl
    | some p=>unfold lamText at e;rw[q]at e;rw[e]at Uu;cases Uu
   unfold lamText at e;rw[hnm]at e;dsimp only at e;subst e;rw[<-G.N]at L;exact(ce7 L hnm (ck6 es _ X B G h3)).imp λ W H Q q=>TAp.eq (λ U s=>rfl) q
  | _=>exact ff h
 | .fn _ _,z,X,B,G,h=>ff h
theorem sI:∀(i:DV.I) (E tg:Expr) (X:Cx) (z:Ck),CG Γ F n X z->mI z tg i E=bY->PI X tg E (TIv Γ (oK F i))
 | .seq e,E,tg,X,z,G,h=>by
  obtain⟨B,J⟩:=zh h;exact bP4 G (sE e _ X z G B).1
 | .keys e,E,tg,X,z,G,h=>ff h
 | .rg a,E,tg,X,z,G,h=>by
  cases E with
  | Call fE xs kw p =>
   cases fE with
   | Name x pN =>
    cases xs with
    | cons l xs_0 =>
     cases xs_0 with
     | nil =>
      cases kw with
      | nil =>
       obtain⟨h,Uu⟩:=zh h;obtain⟨h,h3⟩:=zh h;obtain⟨B,J⟩:=zh h;have e:=dO B;subst e;exact bn9 G J Uu (sE a _ X z G h3).1
      | _=>exact ff h
     | _=>exact ff h
    | _=>exact ff h
   | _=>exact ff h
  | _=>exact ff h
 | .rng3 a b c,E,tg,X,z,G,h=>by
  cases E with
  | Call fE xs kw p =>
   cases fE with
   | Name x pN =>
    cases xs with
    | cons l xs1 =>
     cases xs1 with
     | cons r xs2 =>
      cases xs2 with
      | cons cc xs3 =>
       cases cc with
       | Constant v k p1 =>
        cases xs3 with
        | nil =>
         cases kw with
         | nil =>
          obtain⟨h,h8⟩:=zh h;obtain⟨h,Y⟩:=zh h;obtain⟨h,h6⟩:=zh h;obtain⟨h,Z⟩:=zh h;obtain⟨h,Uu⟩:=zh h;obtain⟨h,h3⟩:=zh h;obtain⟨B,J⟩:=zh h;have e:=dO B;have e2:=dO Y;have e3:=dO h8;subst e e2 e3;exact bm0 G J Uu h6 (sE a _ X z G h3).1 (sE b _ X z G Z).1
         | _=>exact ff h
        | _=>exact ff h
       | _=>exact ff h
      | _=>exact ff h
     | _=>exact ff h
    | _=>exact ff h
   | _=>exact ff h
  | _=>exact ff h
theorem sL:∀(l:DV.L) (E:Expr) (X:Cx) (J:Ck),CG Γ F n X J->∀ k,mL J k l E=bY->LK Γ X (DV.evL F l) E k
 | .comp tg it e caps,E,X,J,G,k,h=>by
  cases E with
  | ListComp elt gs scope p =>
   cases gs with
   | cons g gs1 =>
    cases g with
    | mk tgt iter ifs z =>
     cases ifs with
     | nil =>
      cases gs1 with
      | nil =>
       obtain⟨h,h3⟩:=zh h;obtain⟨h,Uu⟩:=zh h;obtain⟨h0,B⟩:=zh h;have Y:=dO h0;subst Y;have c:=bv7 (pos:=p) G B (sI it _ _ X J G Uu) λ Cc cells s H ex=>(sE e _ _ _ ((G.comp B).2.2 Cc cells s H ex).1 h3).1;exact .c (c.eq λ U s=>rfl)
      | _=>exact ff h
     | _=>exact ff h
   | _=>exact ff h
  | _=>exact ff h
 | .compIf tg it i e caps,E,X,J,G,k,h=>by
  cases E with
  | ListComp elt gs scope p =>
   cases gs with
   | cons g gs1 =>
    cases g with
    | mk tgt iter ifs z =>
     cases ifs with
     | cons i1 ifs1 =>
      cases ifs1 with
      | nil =>
       cases gs1 with
       | nil =>
        obtain⟨h,Z⟩:=zh h;obtain⟨h,h3⟩:=zh h;obtain⟨h,Uu⟩:=zh h;obtain⟨h0,B⟩:=zh h;have Y:=dO h0;subst Y;have c:=bH4 (pos:=p) G B (sI it _ _ X J G Uu) (λ Cc cells s H ex=>(sE i _ _ _ ((G.comp B).2.2 Cc cells s H ex).1 h3).2) λ Cc cells s H ex=>(sE e _ _ _ ((G.comp B).2.2 Cc cells s H ex).1 Z).1;exact .c (c.eq λ U s=>rfl)
       | _=>exact ff h
      | _=>exact ff h
     | _=>exact ff h
   | _=>exact ff h
  | _=>exact ff h
 | .disp es,E,X,J,G,k,h=>by
  cases E with
  | List xs p =>
   obtain⟨h,Uu⟩:=zh h;obtain⟨h0,B⟩:=zh h;exact .f (dO h0) (bC8 B (dO Uu) (ar0 (sEs es _ X J G B)))
  | _=>exact ff h
 | .seq e,E,X,J,G,k,h=>by
  obtain⟨h0,B⟩:=zh h;exact .s (dO h0) ((sE e _ X J G B).1.imp λ W H Q q=>cb1 (TLv.eq (λ U s=>rfl) q))
 | .compK tg e b caps,E,X,J,G,k,h=>ff h
end
end
section
variable {Γ:Gm} {F:nA} {n:Nat}
def bt4 (G:CG Γ F n X ck)(c:CompF Γ X m E)(hi:ck.N[i]?=al x)(hl:ck.loc x=bY) :
  PS X (.Assign [.Name x px] E pos) (bq2 (TFv Γ m) (aC2 i)):=by
 refine wl λ _ ua=>?_;obtain⟨B,z,iter,J,scope,p2,N',h,wi,g,tc,te,rfl,h1,h2,h3,h4,h5⟩:=c.ex;obtain⟨l1,l2⟩:=G.loc hl;have nd:X.N.Nodup:=by rw[G.N];exact G.nd
 have Uu:X.N[i]?=al x:=by rw[G.N];exact hi
 generalize hb:((X.env.blockKind==.function&&X.env.kindOf x==al .local&&px.line==(Expr.ListComp B [⟨z,iter,J,0⟩] scope p2).pos.line&&!(scope.names.any λ(n,k)=>n==x&&(k==.local||k==.cell))))=b;have Y:fA (.ListComp B [⟨z,iter,J,0⟩] scope p2) (al (.Name x px)) pos.line X.env=pure b:=by rw[<-hb];rfl
 have imp:∀ D W H,bq2 (TFv Γ m) (aC2 i) D W H->bq2 (tComp h wi g tc te) (aC2 i) D W H:=λ D W H q=>h5 _ _ _ q;refine ua ?_;cases b with
 | true =>
  have Z:=by
   simp only[ae]at hb;exact iN hb.1.1.2
  exact(aU8 N' h nd Uu Z h1 h2 G.calm h3 h4 Y).imp imp
 | false=>exact(bw3 nd Uu l1 (aV7 N' h h1 h2 G.calm h3 h4) Y l2).imp imp
def bL7 (G:CG Γ F n X z)(Uu:z.N[i]?=al x)(Y:z.loc x=bY)(h:mE z e v=bY)(hk:noK e=bY) :
  PS X (.Assign [.Name x px] v pos) (TSv Γ (DV.ex F (.A (.Y i) e))):=by
 obtain⟨l1,l2⟩:=G.loc Y;have nd:X.N.Nodup:=by rw[G.N];exact G.nd
 have J:X.N[i]?=al x:=by rw[G.N];exact Uu
 by_cases hc:ap1 v=bY
 .exact(bw3 nd J l1 (sE e v X z G h).1 (aj8 hc) l2).imp λ D W H q=>bj0 (TSv.eq (λ U s=>rfl) q)
 .have hs:=aK6 h;cases v with
  | ListComp elt gs sc p =>
   cases e with
   | mk k l =>
    obtain⟨Z,B⟩:=zh h;have e:=dO Z;subst e;have B:mL z 0 l (.ListComp elt gs sc p)=true:=by
     rcases(b7 _ _).mp B with B|B
     .exact B
     .have hk:(!isK l)=true:=hk;rw[(zh B).1]at hk;exact ff hk
    exact(bt4 G (bW2 (sL l _ X z G 0 B)) Uu Y).imp λ D W H q=>bv4 (TSv.eq (λ U s=>rfl) q)
   | _=>exact ff h
  | SetComp _ _ _ _=>cases hs
  | DictComp _ _ _ _ _=>cases hs
  | _=>exact iS rfl hc
def bo1 {body:yM}(hT:TabsH T H)(nd:(T.map (·.1)).Nodup)(hm:(P,q)∈T)
  (go:∀(f:Addr) (H':Hp),ba5 H H'->(∀ b,H b≠aT->H' b≠aT)->TabsH T H'->H f=aT->(∃ B pm Uu Y,H' f=al (aw4 f (cV name q params body scope (af6 cells scope.names []) .none .none B pm aT (.ref Uu) Y))/\H' Uu=al (ql Uu q))->D0.nx (W.set ix (al (.ref f))) H') :
  cq4 cells P name q params body scope pos ix D0 W H:=by
 obtain⟨ps,hP,ht,hc⟩:=hT _ hm;refine⟨ps,hP,ht,λ hn Uu f B pm Y n1 n2 ne=>?_,λ cv e=>?_⟩
 .have cP:Uu≠P:=λ z=>by lia
  have fP:f≠P:=λ z=>by lia
  have Z:∀ b,b≠P->H b≠aT->∀ o1 o2 o3,upd (upd (upd H P o1) Uu o2) f o3 b=H b:=λ b z1 z2 o1 o2 o3=>by
   rw[zb λ z=>by subst z;exact z2 n2,zb λ z=>by subst z;exact z2 n1,zb z1]
  refine go f _ (λ b o d e=>?_) (λ b hb=>?_) (λ y hy=>?_) n2 ⟨B,pm,Uu,Y,zg,by rw[zb ne,zg]⟩
  .rw[Z b (λ z=>by subst z;rw[hP]at e;cases e;exact d _ rfl) (by rw[e];simp)];exact e
  .by_cases z:b=P
   .subst z;rw[zb (bH fP),zb (bH cP),zg];simp
   .rw[Z b z hb];exact hb
  .by_cases z:y.1=P
   .have ey:=by
     have:∀(l:List (Addr×Str)),(l.map (·.1)).Nodup->y∈l->(P,q)∈l->y=(P,q):=by
      intro l
      induction l with
      | nil=>intro _ h;simp at h
      | cons a l ih =>
       grind
     exact this T nd hy hm
    subst ey;refine⟨_,by rw[zb (bH fP),zb (bH cP),zg],?_,λ J cv e=>?_⟩
    .rw[eG];exact TriplesOk_snoc _ _ _ _ ht
    .rw[eG]at e;rcases codeAmong_add _ ht e with e'|e'
     .obtain⟨c2,e1,e2⟩:=hc J cv e';exact⟨c2,e1,by rw[Z c2 (λ z=>by subst z;rw[hP]at e2;unfold ql at e2;lia) (by rw[e2];simp)];exact e2⟩
     .exact⟨Uu,e',by rw[zb ne,zg]⟩
   .obtain⟨qs,e1,e2,e3⟩:=hT y hy;refine⟨qs,by rw[Z y.1 z (by rw[e1];simp)];exact e1,e2,λ J cv e=>?_⟩;obtain⟨c2,e4,e5⟩:=e3 J cv e;exact⟨c2,e4,by rw[Z c2 (λ z=>by subst z;rw[hP]at e5;unfold ql at e5;lia) (by rw[e5];simp)];exact e5⟩
 .obtain⟨Uu,e1,e2⟩:=hc pos cv e;refine⟨Uu,e1,λ f B pm Y n=>go f _ (.of ((ag5.refl H).new n)) (λ b hb=>by
   by_cases z:b=f
   .subst z;rw[zg];simp
   .rw[zb z];exact hb) (hT.new n) n ⟨B,pm,Uu,Y,zg,?_⟩⟩
  rw[zb (zw e2 n)];exact e2
theorem aW9  env  : ∀ l : List Arg, (l.all λ y => y.annotation.isNone) = bY -> jZ l env = []
 | [], _ => by unfold jZ; rfl
 | ⟨x,al a,p⟩::l,h=>by simp at h
 | ⟨x,aT,p⟩::l,h=>by
  unfold jZ;exact aW9 env l (by simpa using h)
def bt8 (h:bH6 params=bY) env :params.defaults=[]/\params.kw_defaults=[]/\annTrees params aT env=[]:=by
 unfold bH6 at h;split at h
 .refine⟨rfl,rfl,?_⟩;unfold annTrees;simp only[Option.toList,aY];rw[aW9 env _ h];rfl
 .cases h
def aJ6 {α:Type}{o}{f:α->Bool}(h:o.any f=bY):∃ a,o=al a/\f a=true:=by
 cases o with
 | none=>exact ff h
 | some a=>exact⟨a,rfl,h⟩
def bm1 {s}(h:cj7 s z=al d):s=.und d.1/\z=.cons (.ret (.callC d.2.1 (.ex d.2.2.1 (.lam d.2.2.2.1 d.2.2.2.2 .nil)))) .nil:=by
 unfold cj7 at h;split at h
 .cases h;exact⟨rfl,rfl⟩
 .cases h
def bp4 {S:yM}(h:cs3 S=al q):S=.FunctionDef q.1 q.2.1 [.Return (al q.2.2.1) q.2.2.2.1] [] aT [] q.2.2.2.2.1 aT q.1 q.2.2.2.2.2.1::q.2.2.2.2.2.2:=by
 have z:∀ {p},(aT)=al q->p:=λ h=>nomatch h;cases S with
 | cons x xs =>
  cases x with
  | FunctionDef nm params body dl ret tp scope ts nm2 pos =>
   cases body with
   | cons b1 bs =>
    cases b1 with
    | Return v rp =>
     cases v with
     | some b =>
      cases bs with
      | nil =>
       cases dl with
       | nil =>
        cases ret with
        | none =>
         cases tp with
         | nil =>
          cases ts with
          | none =>
           have h:(if nm2=nm then al (nm,params,b,rp,scope,pos,xs)else aT)=al q:=h;by_cases e:nm2=nm
           .rw[ef e]at h;cases h;rw[e]
           .rw[gc e]at h;exact z h
          | _=>exact z h
         | _=>exact z h
        | _=>exact z h
       | _=>exact z h
      | _=>exact z h
     | _=>exact z h
    | _=>exact z h
   | _=>exact z h
  | _=>exact z h
 | _=>exact z h
def bq0 {S:yM}(h:cr7 nm S=al r):S=[.Return (al (.Call (.Name r.1 r.2.1) [r.2.2.1,.Name nm r.2.2.2.1] [] r.2.2.2.2.1)) r.2.2.2.2.2]:=by
 have z:∀ {p},(aT)=al r->p:=λ h=>nomatch h;cases S with
 | cons x xs =>
  cases x with
  | Return v rp2 =>
   cases v with
   | some e =>
    cases e with
    | Call f as kw cp =>
     cases f with
     | Name g gp =>
      cases as with
      | cons a as1 =>
       cases as1 with
       | cons y as2 =>
        cases y with
        | Name x p2 =>
         cases as2 with
         | nil =>
          cases kw with
          | nil =>
           cases xs with
           | nil =>
            have h:(if x=nm then al (g,gp,a,p2,cp,rp2)else aT)=al r:=h;by_cases e:x=nm
            .rw[ef e]at h;cases h;rw[e]
            .rw[gc e]at h;exact z h
           | _=>exact z h
          | _=>exact z h
         | _=>exact z h
        | _=>exact z h
       | _=>exact z h
      | _=>exact z h
     | _=>exact z h
    | _=>exact z h
   | _=>exact z h
  | _=>exact z h
 | _=>exact z h
set_option tactic.hygienic true in
def ca2 {s}(G:CG Γ F n X ck)(hM:cf8 ck s ss S=bY):PSs X S (TSv Γ (oa F (.cons s ss))):=by
 obtain⟨⟨i,g,e,id,Uu⟩,e1,hA⟩:=aJ6 hM;clear hM;obtain⟨⟨Y,params,b,rp,scope,pos,xs⟩,e2,hB⟩:=aJ6 hA;clear hA;obtain⟨⟨g',gp,a,p2,cp,e8⟩,e3,h⟩:=aJ6 hB;clear hB;obtain⟨rfl,rfl⟩:=bm1 e1;have e3:=bq0 e3;have e2:=bp4 e2;dsimp only at e2 e3 h ⊢;subst e3;subst e2;clear e1;obtain⟨h,b6⟩:=zh h;obtain⟨h,a8⟩:=zh h;obtain⟨h,h9⟩:=zh h;obtain⟨h,h8⟩:=zh h;obtain⟨h,h7⟩:=zh h;obtain⟨h,h6⟩:=zh h;obtain⟨h,h5⟩:=zh h;obtain⟨h0,h2⟩:=zh h;have h7:=dO h7;subst h7;have h1:=dO h0;clear h0;obtain⟨c,P,a0,d0,b3,e0,J,eE,L⟩:=G.lam id Uu _ h6;obtain⟨pn,hnm⟩:∃ pn,J.nm=al pn:=by
  cases q:J.nm with
  | none=>unfold lamText at eE;simp_all
  | some p=>exact⟨p,rfl⟩
 obtain⟨pa,pb⟩:=pn;unfold lamText at eE;rw[hnm]at eE;dsimp only at eE;cases eE;rw[<-G.N]at L h1;obtain⟨l1,l2⟩:=G.loc h2;obtain⟨a1,a2,a3⟩:=bt8 b6 X.env;have d3:X.env.kindOf Y=al .local\/X.env.kindOf Y=al .cell:=l1;have hq:lL X.env Y Y=J.qual:=by
  rw[L.q];unfold LamI.own lL;rw[hnm];rcases d3 with z|z<;>rw[z]<;>rfl
 have p1:=cf5 (body:=[.Return (al b) rp]) (pos:=pos) (by rw[G.N];exact G.nd) h1 l1 L.code L.hd L.bm L.ck hq a1 a2 a3 l2;have b5:PE X (.Name Y p2) (bx0 i):=by7 G h5;obtain⟨g1,g2,g3⟩:=G.gl h8;rcases G.call g with hb|⟨fa,fd,ps,hF,c2,hk,hB⟩
 .intro e7 sh W H D I q;obtain⟨C,U,s,c,s',E,R,Z,q⟩:=q;obtain⟨c1,s1,e1,Z⟩:=aa1 Z;have e1:(match pJ U i with|some U=>DV.R.ok (DV.Ct.next U) s|none=>.B)=.ok c1 s1:=e1;split at e1
  case h_2=>cases e1
  cases e1;obtain⟨c1,s1,e1,Z⟩:=aa1 Z;obtain⟨d1,s2,e1,B⟩:=aa1 e1;obtain⟨l,s3,e1,B⟩:=aa1 e1
  simp_all
 have hE:=(sE e _ X ck G h9).1;have hA:=zR hE (zR b5 af5 (ze rfl)) (ze a8);have p3:=aM7 (p:=gp) (pos:=cp) hF G.room g1 c2 hk hB L.fn hA g2 (ze a8) (zr λ z hz=>by rw[aO.mp hz];rfl).1;refine(zA p1 (zA (an9 p3) ax0)).imp λ D W H q=>?_;obtain⟨C,U,s,c0,s',E,R,Z,q⟩:=q;obtain⟨c1,s1,e1,Z⟩:=aa1 Z;have e1:(match pJ U i with|some U=>DV.R.ok (DV.Ct.next U) s|none=>.B)=.ok c1 s1:=e1;unfold pJ at e1;by_cases hil:i < U.length
 case neg=>simp_all
 rw[ef hil]at e1;cases e1;obtain⟨c1,s1,e1,Z⟩:=aa1 Z;obtain⟨d1,s2,e1,B⟩:=aa1 e1;cases B;cases Z;obtain⟨l,s3,e1,B⟩:=aa1 e1;obtain⟨d2,s4,e4,B⟩:=aa1 B;split at B
 case isFalse=>exact fb B
 rename_i hn;cases B;rw[ae]at hn;obtain⟨x1,s5,e5,e1⟩:=aa1 e1;obtain⟨y1,s6,e6,e1⟩:=aa1 e1;cases e1;have e6:(match nY (U.set i aT) Uu with|some cs=>(nI F .nil (U.set i aT) s5).bind λ l s=>DV.R.ok (DV.D.clo id cs::l) s|none=>DV.R.B)=.ok y1 s3:=e6;cases eg:nY (U.set i aT) Uu with
 | none=>simp_all
 | some cs =>
  rw[eg]at e6;cases e6;refine bo1 R.tab L.nd L.tab λ f H' eS st tb hf ho=>?_;obtain⟨a5,R1⟩:=R.sameT eS st tb;have E1:RE Γ C H' s.length (U.set i aT) (W.set i (al (.ref f))):=by
   have E0:=E.mono a5 (aj _);refine⟨by rw[bw,bw];exact E0.len,λ j d ej=>?_⟩;by_cases z:i=j
   .simp_all
   .rw[aC z]at ej;obtain⟨q1,v,q2,q3⟩:=E0.val j d ej;exact⟨q1,v,by rw[aC z];exact q2,q3⟩
  obtain⟨cap,a6,b2,hW⟩:=bf4 E1 eg;have b0:=(ao4 eg).1;have c4:aj1 H' f J (af6 X.env.cells J.scope.names []):=by
   unfold aj1;rw[hnm];skip;rw[L.p,L.b,L.s];exact ho
  refine⟨C,U.set i aT,s,x1,_,E1,R1,e5,λ v1 C1 H1 g1 l1 b1 r1 b4=>?_⟩;have c3:i < W.length:=by rw[<-E.len];exact hil
  refine⟨.ref f,by rw[bA c3],?_⟩;intro H2 ca;obtain⟨gs,R2⟩:=b4.same ca.same;have a4:=ab0 l1 cs b2;have c5:∀ m,x1.bnd m=bY->nh m cs=bY->nh m [x1,.clo id cs]=true:=λ m z1 z2=>by
   simp only[nh,z1,dh,fI];unfold nr;exact z2
  have bl:=c5 _ b1 a4;have pv:PVL Γ X.env.cells X.N (W.set i (al (.ref f))) C1 H1 [x1,.clo id cs] [v1,.ref f]:=by
   refine .cons (.inl r1) (.cons (.inr ⟨id,cs,rfl,f,J,rfl,L.lg,c4.kp g1.w.kp,by rw[b0,L.len],by rw[L.s];exact L.cl,cap,RVL.mono g1 cs cap b2 a6,λ i x v e1 e3=>?_⟩) .nil);have hi:i<Uu.length:=by rw[<-L.len];exact(ag.mp e1).1
   have hj:Uu[i]?=al Uu[i]:=au hi;exact⟨by rw[L.s];exact L.fr x (aE e1),Uu[i],L.at_ i _ x hj e1,hW i _ v hj e3⟩
  refine⟨C1,_,[x1,.clo id cs],_,_,R2,pv.caught ca L.kd bl,bl,e4,λ v C' H3 g' l' b' r' R'=>?_⟩;have hc:Cells X.env.cells H3:=ca.cells.kp g'.w.kp;exact q C' (ad0 X.env.cells H3) ((a5.trans g1 (aj _)).trans (Gr.caught ca g') l1) (aq l1 l') (R'.dropC hc hn.2) v b' (RV.dropC hc _ v hn.1 r')
mutual
theorem sS:∀(st:pF) (S:Stmt) (X:Cx) (z:Ck),CG Γ F n X z->mS z st S=bY->PS X S (TSv Γ (DV.ex F st))
 | .A tg e,S,X,z,G,h=>by
  cases S with
  | Assign ts v p =>
   cases ts with
   | cons t ts1 =>
    cases ts1 with
    | nil =>
     obtain⟨h,h3⟩:=zh h;obtain⟨J,B⟩:=zh h;cases tg with
     | Y i =>
      have h:=J;cases t with
      | Name x px =>
       obtain⟨a1,a2⟩:=zh h;exact bL7 G (dO a1) a2 B h3
      | _=>exact ff h
     | tp is =>
      obtain⟨a1,a2⟩:=zh h3;have h:=J;cases t with
      | Tuple te tk tp=>exact(by4 (sE e _ X z G B).1 (bu8 G J) (show fA v (al (.Tuple te tk tp)) p.line X.env=pure ce from aj8 a2) (aU7 a1) rfl).imp λ D W H q=>bj0 (TSv.eq (λ U s=>rfl) q)
      | _=>exact ff h
    | _=>exact ff h
   | _=>exact ff h
  | _=>exact ff h
 | .setIx o i e,S,X,z,G,h=>by
  cases S with
  | Assign ts v p2 =>
   cases ts with
   | cons tt ts1 =>
    cases tt with
    | Subscript ob ix p1 =>
     cases ts1 with
     | nil =>
      obtain⟨h,Uu⟩:=zh h;obtain⟨h,h3⟩:=zh h;obtain⟨J,B⟩:=zh h;have Y:=aK6 B;refine(by4 (sE e _ X z G h3).1 (bV1 (sE o _ X z G J).1 (sE i _ X z G B).1 (cd9 (at9 G.room)) ?_) (show fA v (al (.Subscript ob ix p1)) p2.line X.env=pure ce from aj8 Uu) aR8 ?_).imp λ D W H q=>bv0 (TSv.eq (λ U s=>rfl) q)
      .intro w;cases ix<;>first|rfl|cases Y
      .rfl
     | _=>exact ff h
    | _=>exact ff h
   | _=>exact ff h
  | _=>exact ff h
 | .aug i e,S,X,z,G,h=>by
  cases S with
  | AugAssign tt op v p =>
   cases tt with
   | Name x p1 =>
    cases op with
    | Add =>
     obtain⟨h,h3⟩:=zh h;obtain⟨J,B⟩:=zh h;obtain⟨l1,l2⟩:=G.loc B;exact(bU9 (by rw[G.N];exact G.nd) (by rw[G.N];exact dO J) l1 (sE e _ X z G h3).1 bT9 l2).imp λ D W H q=>bZ3 (TSv.eq (λ U s=>rfl) q)
    | _=>exact ff h
   | _=>exact ff h
  | _=>exact ff h
 | .ex e,S,X,z,G,h=>by
  cases S with
  | Expr v p =>
   obtain⟨J,B⟩:=zh h;exact(aI9 (sE e _ X z G J).1 (aj8 B)).imp λ D W H q=>bD7 (TSv.eq (λ U s=>rfl) q)
  | _=>exact ff h
 | .ret e,S,X,z,G,h=>by
  cases S with
  | Return vo p =>
   cases vo with
   | some v =>
    exact(an9 (sE e _ X z G h).1).imp λ D W H q=>bX8 (TSv.eq (λ U s=>rfl) q)
   | _=>exact ff h
  | _=>exact ff h
 | .retN,S,X,z,G,h=>by
  cases S with
  | Return vo p =>
   cases vo with
   | none =>
    exact bH7.imp λ D W H q=>bC7 (TSv.eq (λ U s=>rfl) q)
   | _=>exact ff h
  | _=>exact ff h
 | .ite c a b,S,X,z,G,h=>by
  cases S with
  | If t l r p =>
   obtain⟨h,h3⟩:=zh h;obtain⟨J,B⟩:=zh h;exact(bT0 (sE c _ X z G J).2 (sSs a _ X z G B) (sSs b _ X z G h3)).imp λ D W H q=>cn8 (TSv.eq (λ U s=>rfl) q)
  | _=>exact ff h
 | .whl c b,S,X,z,G,h=>by
  cases S with
  | While t l o p =>
   cases o with
   | nil =>
    obtain⟨J,B⟩:=zh h;exact(aM8 (by rw[G.xe];exact lv) (sE c _ X z G J).2 (sSs b _ X z G B)).imp λ D W H q=>bn6 (TSv.eq (λ U s=>rfl) q)
   | _=>exact ff h
  | _=>exact ff h
 | .fo tg it b,S,X,z,G,h=>by
  cases S with
  | For tgt iter l o p =>
   cases o with
   | nil =>
    obtain⟨h,h3⟩:=zh h;obtain⟨J,B⟩:=zh h;exact(bA9 (by rw[G.xe];exact lv) G.calm (sI it _ _ X z G B) (bu8 G J) (sSs b _ X z G h3) (ax4 (bw8 B))).imp λ D W H q=>bS8 (TSv.eq (λ U s=>rfl) q)
   | _=>exact ff h
  | _=>exact ff h
 | .setA o f e,S,X,z,G,h=>by
  cases S with
  | Assign ts v p =>
   cases ts with
   | cons t0 ts =>
    cases t0 with
    | Attribute ob x ap =>
     cases ts with
     | nil =>
      obtain⟨h,Uu⟩:=zh h;obtain⟨h,h3⟩:=zh h;obtain⟨J,B⟩:=zh h;have e1:=dO J;subst e1;exact(bl9 G (sE o _ X z G B).1 (sE e _ X z G h3).1 Uu).imp λ D W H q=>TSv.eq (λ U s=>rfl) q
     | _=>exact ff h
    | _=>exact ff h
   | _=>exact ff h
  | _=>exact ff h
 | .und _,S,X,z,G,h=>ff h
 | .raise,S,X,z,G,h=>bp8.imp λ D W H q=>by
  obtain⟨C,U,s,c,s',E,R,Z,q⟩:=q;cases Z
theorem sSs:∀(st:oJ) (S:yM) (X:Cx) (z:Ck),CG Γ F n X z->mSs z st S=bY->PSs X S (TSv Γ (oa F st))
 | .nil,S,X,z,G,h=>by
  cases S with
  | nil =>
   exact ax0.imp λ D W H q=>bQ1 (m:=oa F .nil) (λ U s=>rfl) q
  | _=>exact ff h
 | .cons s ss,S,X,z,G,h=>by
  cases S with
  | cons x xs =>
   rcases(b7 _ _).mp h with h|h
   .exact ca2 G h
   obtain⟨B,J⟩:=zh h;exact(zA (sS s _ X z G B) (sSs ss _ X z G J)).imp λ D W H q=>bA7 (TSv.eq (λ U s=>rfl) q)
  | _=>exact ff h
end
end
noncomputable def mHT (ck:Ck)(n:Str):DV.HT->Expr->Bool
 | .isi _,_=>ce
 | .Y c,E=>match E with|.Call (.Name g _) [.Name x _,.Name d _] [] _=>decide (g=("isinstance"))&&ck.gl g&&decide (x=n)&&decide (d=(c))&&ck.gl d|_=>ce
 | .not _,_=>ce
 | .ve,_=>ce
 | .or _ _,_=>ce
structure CH (X:Cx)(ck:Ck):Prop where
 N:X.N=ck.N
 gl:∀ {x:Str},ck.gl x=bY->Gl X x/\(x==("__debug__":Str))=ce/\x ≠ "__name__"
 bi:∀ x∈bNames,X.mg x=aT
def CG.ch (G:CG Γ F n X h):CH X h:=⟨G.N,G.gl,G.bi⟩
structure XC (F:nA)(K:ac)(mg:yD):Prop where
 at_:∀ c:String,F.xc c=bY->∃ Cc,mg (c:Str)=al (.ref Cc)/\ExcCls K Cc/\excI K Cc=bY
 cls:∀ c:String,F.xt c=bY->∃ Cc,mg (c:Str)=al (.ref Cc)
 sub:∀(c d:String) (Cc D:Addr),F.xc c=bY->F.xt d=bY->mg (c:Str)=al (.ref Cc)->mg (d:Str)=al (.ref D)->cG K (.ref Cc) (.ref D)=al (nR c d)
 exm:∀(c d:String) (Cc D:Addr),F.xc c=bY->F.xt d=bY->mg (c:Str)=al (.ref Cc)->mg (d:Str)=al (.ref D)->cL K (.ref Cc) (.ref D)=al (nR c d)
 ve0:∀ c:String,F.xc c=bY->mg ("ValueError":Str)=aT
 ve1:∀(c:String) (Cc:Addr),F.xc c=bY->mg (c:Str)=al (.ref Cc)->cG K (.ref Cc) (.type "ValueError")=al bY
section
variable {Γ:Gm} {F:nA} {n:Nat} {X:Cx} {ck:Ck} {a Cc:Addr} {oe:Obj}
end
def cl3 (ck:Ck)(nm:Str):List String->List Expr->Bool
 | [],es=>match es with|[]=>bY|_=>ce
 | c::cs,es=>match es with|e::es=>mHT ck nm (.Y c) e&&cl3 ck nm cs es|_=>ce
noncomputable def ca0:List (List Nat)->List Expr->Bool
 | [],es=>match es with|[]=>bY|_=>ce
 | t::ts,es=>match es with|.Constant (.str y) _ _::es=>decide (y=⟨t.toArray⟩)&&ca0 ts es|_=>ce
def kndB (ck:Ck)(nm ks:Str)(e1 e4:Expr)(y1 y5 m4 m5 m6:Str)(es2 es3 es6:yL)(l4 l5 l6:Bool):Bool :=
 (ck.sc.names.lookup nm==al .local)&&((ck.sc.names.lookup ks==al .local)&&(!(nm==("__debug__"))&&(!(nm==("__classdict__"))&&(!(ks==("__debug__"))&&(!(ks==("__classdict__"))&&(mHT ck nm (.not .ve) e1&&(decide (y1=⟨DV.ax8.toArray⟩)&&(decide (y5=⟨DV.ax8.toArray⟩)&&(decide (m4=("append"))&&(decide (m5=("count"))&&(decide (m6=("index"))&&(l4&&(l5&&(l6&&(cl3 ck nm (DV.aL2.take 4) es2&&(cl3 ck nm ((DV.aL2.drop 4).take 4) es3&&(mHT ck nm (.Y "NoName") e4&&ca0 DV.bz7 es6)))))))))))))))))
inductive KindS (ck:Ck)(S:yM):Prop
 | mk (nm ks:Str) (e1 e4:Expr) (y1 y5 m4 m5 m6:Str) (es2 es3 es6:yL) (j1 j5 i5 k5 j6:Nat) (p1 q1 r1 a2 b2 c2 a3 b3 c3 d3 f3 a4 ap4 cp4 p4 a5 ap5 pj5 cp5 pi5 pc5 pk5 q5 p5 pl6 a6 ap6 pj6 cp6 ps6 p6:Pos)
 (_:S=[.If e1 [.Return (al (.Constant (.str y1) j1 p1)) q1] [] r1,.Assign [.Name ks a2] (.List es2 b2) c2,.Assign [.Name ks a3] (.BinOp (.Name ks b3) .Add (.List es3 c3) d3) f3,.Expr (.Call (.Attribute (.Name ks a4) m4 ap4) [e4] [] cp4) p4,
  .If (.Compare (.Call (.Attribute (.Name ks a5) m5 ap5) [.Constant (.bool bY) j5 pj5] [] cp5) [.NotEq] [.Constant (.int 1) i5 pi5] pc5) [.Return (al (.Constant (.str y5) k5 pk5)) q5] [] p5,.Return (al (.Subscript (.List es6 pl6) (.Call (.Attribute (.Name ks a6) m6 ap6) [.Constant (.bool bY) j6 pj6] [] cp6) ps6)) p6])
 (_:ck.N=[nm,ks]) (_:kndB ck nm ks e1 e4 y1 y5 m4 m5 m6 es2 es3 es6 (ap4.endLine==cp4.line) (ap5.endLine==cp5.line) (ap6.endLine==cp6.line)=bY):KindS ck S
def mX (ck:Ck):pK->List Stmt->Bool
 | .no,_=>bY
 | .kind,S=>@decide (KindS ck S) (eX _)
 | .alt a b,S=>mX ck a S&&mX ck b S
 | .rais c,S=>match S with|.Raise (al (.Call (.Name x _) [.Constant (.str _) _ _] [] _)) aT _::_=>decide (x=(c))&&ck.gl x|_=>ce
 | .call f as,S=>match S with
  | .Expr (.Call (.Name x _) (e::es) [] _) _::_=>decide (x=(f))&&ck.gl x&&mAs ck as (e::es)
  | _=>ce
 | .lenc f as,S=>match S with
  | .Return (al (.Call (.Name t _) [.Call (.Name x _) (e::es) [] _] [] _)) _::_=>decide (t=("len"))&&(ck.gl t&&(decide (x=(f))&&(ck.gl x&&mAs ck as (e::es))))
  | _=>ce
 | .mcall o m as,S=>match S with
  | .Expr (.Call (.Attribute (.Name y py) x ap) (e::es) [] pos) _::_=>decide (x=(m))&&(mE ck o (.Name y py)&&(mAs ck as (e::es)&&((ap.endLine==pos.line)&&decide (es.length<28))))
  | _=>ce
 | .iteT c a r,S=>match S with|.If t l [] _::rest=>mE ck c t&&mX ck a l&&mX ck r rest|_=>ce
 | .iteE _ _ _,_=>ce
 | .seq s b,S=>match S with|x::rest=>mS ck s x&&mX ck b rest|_=>ce
 | .forX tg it b x,S=>match S with|.For tgt iter l [] _::_=>mTg ck tg tgt&&mI ck tgt it iter&&mSs ck b l&&mX ck x l|_=>ce
 | .whlX c b x,S=>match S with|.While t l [] _::_=>mE ck c t&&mSs ck b l&&mX ck x l|_=>ce
noncomputable def noL:pK->Bool
 | .alt a b=>noL a&&noL b
 | .iteT _ a r=>noL a&&noL r
 | .iteE _ a r=>noL a&&noL r
 | .seq _ b=>noL b
 | .forX _ _ _ _=>ce
 | .whlX _ _ _=>ce
 | _=>bY
noncomputable def noR:pK->Bool
 | .alt a b=>noR a&&noR b
 | .rais _=>ce
 | .iteT _ a r=>noR a&&noR r
 | .iteE _ a r=>noR a&&noR r
 | .seq _ b=>noR b
 | .forX _ _ _ x=>noR x
 | .whlX _ _ x=>noR x
 | _=>bY
def au8 (Γ:Gm)(mg:yD)(C:Nat->Addr)(s:m9)(H:Hp)(c:String)(s':m9)(E:XK):Prop :=
 ∀ C' H' a Cc,Gr C s H C' s' H'->s.length<=s'.length->Rp Γ C' H' s'->mg (c)=al (.ref Cc)->E (.ref a) (al Cc) H'
def TXv (Γ:Gm)(mg:yD)(m:ni->m9->Option (String×m9))(E:XK):TS:=λ _ W H=>∃ C U s c s',RE Γ C H s.length U W/\Rp Γ C H s/\m U s=al (c,s')/\au8 Γ mg C s H c s' E
def spX (Γ:Gm)(mg:yD)(x:List ng->m9->Option (String×m9)):Sp:=λ vs H _ E=>∃ C s l c s',Rp Γ C H s/\RVL Γ C H l vs/\nh s.length l=bY/\x l s=al (c,s')/\au8 Γ mg C s H c s' E
theorem au8.trans (h:au8 Γ mg C s H c s' E)(g:Gr C s H C1 s1 z)(l:s.length<=s1.length):au8 Γ mg C1 s1 z c s' E :=
 λ C' H' a Cc g' B p m=>h C' H' a Cc (g.trans g' l) (aq l B) p m
theorem PA.nox (h:PA X.nox e t):PA X e t:=λ pos B s W H Q I hw =>
 bF (h pos B s W H Q (I.wish _) hw) (λ _ _ ⟨v,H',J,r,q⟩=>⟨v,H',J.unwish,r,q⟩) λ _ _ z=>bn z
theorem PS.nox {st}(h:PS X.nox st t):PS X st t:=λ B s W H D I hw =>
 bF (h B s W H D (I.wish _) hw) (λ _ _ q=>q.unwish) λ _ _ z=>bn z
def XOk (Γ:Gm)(prog:aF)(w:World)(K:ac)(mg:yD)(base:Heap)(F:nA)(n:Nat):Prop:=(∀ f:String,(∀ l s,F.xcall f l s=aT) \/
 ∃ a fd ps,FnOk prog w K mg base (CX1 prog w) n a fd ps (spX Γ mg (F.xcall f))/\mg (f:Str)=al (.ref a)/\bJ K (.ref a)=bY/\Binds K fd ps []) /\
 ∀ c m:String,(∀ l s,F.xm c m l s=aT)\/∃ Cc a fd ps,Γ.cls c=al Cc/\Cls K Cc/\Meth K Cc (m:Str) a/\FnOk prog w K mg base (CX1 prog w) n a fd ps (spX Γ mg (F.xm c m))/\Binds K fd ps []
section
variable {Γ:Gm} {F:nA} {n:Nat} {X:Cx} {ck:Ck} {a Cc:Addr} {oe:Obj}
set_option tactic.hygienic true in
def bB4 (G:CG Γ F n X.nox ck)(Y:XOk Γ X.prog X.w X.K X.mg X.base F n)(Z:qo (CX1 X.prog X.w) X E){f:String}{es:yL}(hg:ck.gl (f:Str)=bY)(m:mAs ck B (e::es)=bY) :
  ∃ t,PE X (.Call (.Name (f) p) (e::es) [] pos) t/\∀ D W H Q,TXv Γ X.mg (nQ F (.call f B)) E D W H->t W H Q:=by
 obtain⟨g1,g2,g3⟩:=G.gl hg;rcases Y.1 f with hbad|⟨a,fd,ps,hF,J,hk,hb⟩
 .refine⟨λ _ _ _=>False,λ _ _ _ _ _ _ z=>z.elim,λ D W H Q q=>?_⟩;obtain⟨C,U,s,c,s',Uu,R,h,q⟩:=q;change(match nI F B U s with|.ok l s1=>F.xcall f l s1|_=>aT)=_ at h;split at h
  .rw[hbad]at h;cases h
  .cases h
 .have hs:=jG m;have pa:=(sAs B _ X.nox ck G m).nox;refine⟨_,ba9 hF G.room g1 J hk hb .nil Z pa g2 (ze (hs e (ar ..))) (zr λ x hx=>hs x (ah _ hx)).1,λ D W H Q q=>?_⟩;obtain⟨C,U,s,c,s',Uu,R,h,q⟩:=q;change(match nI F B U s with|.ok l s1=>F.xcall f l s1|_=>aT)=_ at h;split at h
  .rename_i l s1 e1;refine⟨C,U,s,l,s1,Uu,R,e1,λ vs C1 H1 g1 l1 b1 r1 R1=>?_⟩;show spX Γ X.mg (F.xcall f) (vs++[]) H1 Q E;rw[aY];exact⟨C1,s1,l,c,s',R1,r1,b1,h,q.trans g1 l1⟩
  .cases h
set_option tactic.hygienic true in
def bT6 (G:CG Γ F n X.nox ck)(XO:XOk Γ X.prog X.w X.K X.mg X.base F n)(hp:qo (CX1 X.prog X.w) X E){mo:ot}{m:String}{J:n6}{e:Expr}{es:yL}{y:Str}{py ap pos:Pos}(ho:mE ck mo (.Name y py)=bY)(ma:mAs ck J (e::es)=bY)(hl:(ap.endLine==pos.line)=bY)(hx:es.length<28) :
  PE X (.Call (.Attribute (.Name y py) (m:Str) ap) (e::es) [] pos) λ W H _=>∃ D,TXv Γ X.mg (nQ F (.mcall mo m J)) E D W H:=by
 intro Z sh W H Q I q;obtain⟨D,C,U,s,c0,s',Ev,R,B,q⟩:=q;change(match(nq F mo U s).bind λ x s=>(pI x s).bind λ c s=>(nI F J U s).bind λ l s=>.ok (c,x::l) s with|.ok p s1=>F.xm p.1 m p.2 s1|_=>aT)=_ at B;split at B
 case h_2=>cases B
 rename_i p s4 e0;obtain⟨x,s1,e1,a2⟩:=aa1 e0;obtain⟨c,s2,e2,a1⟩:=aa1 a2;obtain⟨l,s3,e3,a0⟩:=aa1 a1;cases a0;obtain⟨r,fs,rfl,hs,rfl⟩:=aK8 e2;rcases XO.2 c m with hbad|⟨Cc,a,fd,ps,hc,hcl,h,hF,hb⟩
 .simp_all
 have z:=jG ma;have hf:i6 ((e::es).length+([]:List fi).length) (cQ pos (a9 (e::es) X.env)) (fh pos (da [] X.env))=true:=by
  show((cQ pos (a9 (e::es) X.env)).all (λ x=>!x.1)&&(fh pos (da [] X.env)).all (λ x=>x.1.isSome)&&decide ((e::es).length+([]:List fi).length+(if([]:List fi).isEmpty then 0 else 1)<30))=bY;rw[(zr z).2];simp only[dh,ae,li];exact⟨rfl,by grind⟩
 obtain⟨pl,ht⟩:=aA8 (x:=y) (px:=py) (m:=(m:Str)) hf hl;have hE:=(sE mo _ X.nox ck G ho).1;have pa:PA X (e::es) (TAv Γ (nI F J)):=(sAs J _ X.nox ck G ma).nox;refine aY2 (X:=X) (pl:=pl) (PE.nox hE) hcl h hF G.room hb .nil hp pa (ze (z e (ar ..))) (zr λ e he=>z e (ah _ he)).1 ht Z sh W H Q I ?_;refine⟨C,U,s,.ref r,s2,Ev,R,e1,λ v1 C1 H1 g1 l1 b1 r1 R1=>?_⟩;obtain⟨Cc',dx,gs,⟨Uu,a3⟩,Y,ea,rd⟩:=R1.obj r _ hs;rw[hc]at Uu;cases Uu;have gK:X.K=Γ.K:=G.K;rw[<-gK]at Y;refine⟨C1 r,dx,gs,r1.refE,ea,aH9 h Y,C1,U,s2,l,s4,Ev.mono g1 l1,R1,e3,λ vs C2 H2 g2 l2 b2 r2 R2=>?_⟩;exact⟨C2,s4,.ref r::l,c0,s',R2,.cons (RV.mono g2 _ _ b1 r1) (by simp_all),by unfold nh;rw[b2,zm l2 _ b1];rfl,B,q.trans (g1.trans g2 l1) (aq l1 l2)⟩
set_option tactic.hygienic true in
def cc6 {mI:ni->m9->nk oB}{mx} (h:TXv Γ mg (λ U s=>match mI U s with
  | .ok q s0=>pL (λ s=>n9 s0 s q.src) (λ d U s=>match nN U tg d with
   | some U=>mb U s
   | none=>.B) (λ d U s=>match nN U tg d with
   | some U=>mx U s
   | none=>aT) q.its U s0
  | _=>aT) E D0 W H):ck8 (TIv Γ mI) (gOf Γ.K tg) (λ D W H=>TSv Γ mb D W H\/TXv Γ mg mx E D W H) D W H:=by
 obtain⟨C,U,s,c,s',Ev,R,Z,k⟩:=h;dsimp only at Z;split at Z
 case h_2=>cases Z
 rename_i q s0 e1;refine⟨C,U,s,q,s0,Ev,R,e1,λ J C1 H1 g1 l1 b1 R1 wk=>?_⟩;refine⟨λ i m W' H'=>∃ C' U' t,Gr C1 s0 H1 C' t H'/\Rp Γ C' H' t/\RE Γ C' H' t.length U' W'/\i<=q.its.length/\m=q.its.length - i /\
  pL (λ s=>n9 s0 s q.src) (λ d U s=>match nN U tg d with
   | some U=>mb U s
   | none=>.B) (λ d U s=>match nN U tg d with
   | some U=>mx U s
   | none=>aT) (q.its.drop i) U' t=al (c,s'),⟨q.its.length,?_⟩,?_⟩
 .exact⟨C1,U,s0,Gr.refl _ _ _,R1,Ev.mono g1 l1,cq _,by simp,by simp_all⟩
 .rintro i m W' H' ⟨C',U',t,g,R',E',hil,rfl,hc⟩
  have z:=g.le;rcases kH i q.its.length with hlt|hge
  .have hd:=au hlt;rw[cI hlt]at hc;unfold pL at hc;split at hc
   case isFalse=>lia
   rename_i a1;obtain⟨a2,a3⟩:=(wk C' H' t g z R' a1 i).1 hlt;refine .inr ⟨a2,_,λ W2 H2 n=>⟨q.its.length - (i+1),by omega,n⟩,λ x H2 a0=>?_⟩;obtain⟨sm,rv⟩:=a3 x H2 a0;obtain⟨g2,R2⟩:=R'.same sm;have rd:=rv _ hd;have bd:=zm z _ (ah8 b1 hd);cases hb:nN U' tg q.its[i]with
   | none =>
    simp_all
   | some U3 =>
    rw[hb]at hc;refine bm6 (E'.mono g2 (aj _)) rd bd hb λ W3 E3=>?_;have go:∀ {c1} {t3},mb U3 t=.ok c1 t3->(∀ C2 B,Gr C' t H2 C2 t3 B->t.length<=t3.length->Rp Γ C2 B t3->Gr C1 s0 H1 C2 t3 B):=λ _ C2 B Y l4 Uu=>(g.trans g2 z).trans Y z;split at hc
    .rename_i U1 t3 hs;exact .inl ⟨C',U3,t,.next U1,t3,E3,R2,hs,λ C2 B Y l4 Uu W1 E1=>⟨C2,U1,t3,go hs C2 B Y l4 Uu,Uu,E1,hlt,rfl,hc⟩⟩
    .rename_i U1 t3 hs;exact .inl ⟨C',U3,t,.cont U1,t3,E3,R2,hs,λ C2 B Y l4 Uu W1 E1=>⟨C2,U1,t3,go hs C2 B Y l4 Uu,Uu,E1,hlt,rfl,hc⟩⟩
    .grind
    .exact .inr ⟨C',U3,t,c,s',E3,R2,hc,k.trans (g1.trans (g.trans g2 z) l1) (aq l1 z)⟩
  .rw[fx hge]at hc;cases hc
set_option tactic.hygienic true in
def bu3 {mx}(h:TXv Γ mg (DV.whlX mc mb mx) E Z W H):bh5 (TTv Γ mc) (λ D W H=>TSv Γ mb D W H\/TXv Γ mg mx E D W H) D W H:=by
 obtain⟨C,U,s,c,s',B,R,z,q⟩:=h;unfold DV.whlX at z;split at z
 case isFalse=>cases z
 rename_i hn;generalize hn.choose=n at z;refine⟨λ n W H=>∃ C U s,RE Γ C H s.length U W/\Rp Γ C H s/\DV.qb mc mb mx n U s=al (c,s')/\au8 Γ mg C s H c s' E,⟨n,C,U,s,B,R,z,q⟩,?_⟩;clear B R z q hn
 rintro n W H ⟨C,U,s,B,R,z,q⟩
 cases n with
 | zero=>cases z
 | succ n =>
  unfold DV.qb at z;split at z
  case h_2=>cases z
  rename_i s1 e1;refine⟨C,U,s,bY,s1,B,R,e1,λ C1 H1 g1 l1 R1=>?_⟩;show if bY=bY then _ else _;rw[ef rfl];refine⟨_,λ W' H' w=>⟨n,dv n,w⟩,?_⟩;split at z
  .rename_i U1 s2 e2;exact .inl ⟨C1,U,s1,.next U1,s2,B.mono g1 l1,R1,e2,λ C2 H2 Y Uu R2 W1 J=>⟨C2,U1,s2,J,R2,z,q.trans (g1.trans Y l1) (aq l1 Uu)⟩⟩
  .rename_i U1 s2 e2;exact .inl ⟨C1,U,s1,.cont U1,s2,B.mono g1 l1,R1,e2,λ C2 H2 Y Uu R2 W1 J=>⟨C2,U1,s2,J,R2,z,q.trans (g1.trans Y l1) (aq l1 Uu)⟩⟩
  .cases z
  .exact .inr ⟨C1,U,s1,c,s',B.mono g1 l1,R1,z,q.trans g1 l1⟩
set_option tactic.hygienic true in
theorem ay3 (G:CG Γ F n X.nox ck)(xc:XC F X.K X.mg)(XO:XOk Γ X.prog X.w X.K X.mg X.base F n)(hp:qo (CX1 X.prog X.w) X E):∀(b:pK) (S:yM),(noR b=bY\/aU4 X E)->(noL b=bY\/i7 (model X.prog X.w) X.A X.env X.xe)->mX ck b S=bY->PSs X S (TXv Γ X.mg (nQ F b) E)
 | .no,S,_,_,h=>λ B s W H D I q=>by
  obtain⟨_,_,_,_,_,_,_,z,_⟩:=q;cases z
 | .kind,S,_,_,h=>λ B s W H D I q=>by
  obtain⟨_,_,_,_,_,_,_,z,_⟩:=q;cases z
 | .alt a b,S,hT,Uu,h=>λ B s W H D I q=>by
  obtain⟨Y,J⟩:=zh h;obtain⟨C,U,s0,c,s',Ev,R,z,q⟩:=q;have z:(match nQ F a U s0 with|some r=>al r|none=>nQ F b U s0)=al (c,s'):=z;cases e:nQ F a U s0 with
  | some r =>
   rw[e]at z;exact ay3 G xc XO hp a S (hT.imp_left λ z=>(zh z).1) (Uu.imp_left λ z=>(zh z).1) Y B s W H D I ⟨C,U,s0,c,s',Ev,R,e.trans z,q⟩
  | none =>
   rw[e]at z;exact ay3 G xc XO hp b S (hT.imp_left λ z=>(zh z).2) (Uu.imp_left λ z=>(zh z).2) J B s W H D I ⟨C,U,s0,c,s',Ev,R,z,q⟩
 | .rais c,S,hT,_,h=>by
  have hT:aU4 X E:=hT.elim (λ z=>by cases z) id;cases hx:F.xc c with
  | false =>
   intro B s W H D I q;obtain⟨_,_,s,_,_,_,_,z,_⟩:=q;change(if F.xc c=bY then al (c,s)else aT)=_ at z
   simp_all
  | true =>
   cases S with
   | nil=>exact ff h
   | cons st S=>cases st with
    | Raise v k p=>cases v with
     | none=>exact ff h
     | some v=>cases v with
      | Call g xs kw pc=>cases g with
       | Name x pn=>cases xs with
        | nil=>exact ff h
        | cons y xs=>cases y with
         | Constant cv j py=>cases cv with
          | str t=>cases xs with
           | cons _ _=>exact ff h
           | nil=>cases kw with
            | cons _ _=>exact ff h
            | nil=>cases k with
             | some _=>exact ff h
             | none =>
              obtain⟨Y,J⟩:=zh h;have e:=dO Y;subst e;obtain⟨g1,g2,g3⟩:=G.gl J;obtain⟨Cc,hC,hE,_⟩:=xc.at_ c hx;refine(zA (bw0 hT hE g1 hC G.room.hd g2) qt).imp λ D W H q a=>?_;obtain⟨C,U,s,c',s',Ev,R,Z,q⟩:=q;change(if F.xc c=bY then al (c,s)else aT)=_ at Z;rw[hx,ef rfl]at Z;cases Z;exact q C H a Cc (Gr.refl C s H) (aj _) R hC
          | _=>exact ff h
         | _=>exact ff h
       | _=>exact ff h
      | _=>exact ff h
    | _=>exact ff h
 | .lenc f as,S,_,_,h=>by
  cases S with
  | nil=>exact ff h
  | cons st S=>cases st with
   | Return v p=>cases v with
    | none=>exact ff h
    | some v=>cases v with
     | Call g xs kw pc=>cases g with
      | Name t0 pt=>cases xs with
       | nil=>exact ff h
       | cons y ys=>cases ys with
        | cons _ _=>cases y with|Call g2 xs2 kw2 pc2=>(cases g2 with|Name x pn=>(cases xs2 with|nil=>exact ff h|cons _ _=>(cases kw2 with|nil=>exact ff h|cons _ _=>exact ff h))|_=>exact ff h)|_=>exact ff h
        | nil=>cases y with
         | Call g2 xs2 kw2 pc2=>cases g2 with
          | Name x pn=>cases xs2 with
           | nil=>exact ff h
           | cons e es=>cases kw2 with
            | cons _ _=>exact ff h
            | nil=>cases kw with
             | cons _ _=>exact ff h
             | nil =>
              obtain⟨Y,h⟩:=zh h;obtain⟨J,h⟩:=zh h;obtain⟨h3,h⟩:=zh h;obtain⟨h4,h5⟩:=zh h;have e1:=dO Y;have e2:=dO h3;subst e1 e2;obtain⟨g1,g2,g3⟩:=G.gl J;obtain⟨t,ht,hq⟩:=bB4 G XO hp h4 h5;exact(zA (an9 (az2 (X:=X) al2 g1 (G.bi _ (by decide)) (by decide +kernel) (zR ht af5 (ze rfl)) g3 g2 (ze rfl) rfl)) qt).imp λ D W H q=>hq D W H _ q
          | _=>exact ff h
         | _=>exact ff h
      | _=>exact ff h
     | _=>exact ff h
   | _=>exact ff h
 | .mcall o m as,S,_,_,h=>by
  cases S with
  | nil=>exact ff h
  | cons st S=>cases st with
   | Expr v p=>cases v with
    | Call g xs kw pc=>cases g with
     | Attribute v x ap=>cases v with
      | Name y py=>cases xs with
       | nil=>exact ff h
       | cons e es=>cases kw with
        | cons _ _=>exact ff h
        | nil =>
         obtain⟨Y,h⟩:=zh h;obtain⟨J,h⟩:=zh h;obtain⟨h3,h⟩:=zh h;obtain⟨h4,h5⟩:=zh h;have e:=dO Y;subst e;exact(zA (aI9 (bT6 G XO hp J h3 h4 (dO h5))) qt).imp λ D W H q=>⟨_,q⟩
      | _=>exact ff h
     | _=>exact ff h
    | _=>exact ff h
   | _=>exact ff h
 | .call f as,S,_,_,h=>by
  cases S with
  | nil=>exact ff h
  | cons st S=>cases st with
   | Expr v p=>cases v with
    | Call g xs kw pc=>cases g with
     | Name x pn=>cases xs with
      | nil=>exact ff h
      | cons y xs=>cases kw with
       | cons _ _=>exact ff h
       | nil =>
        obtain⟨h,h3⟩:=zh h;obtain⟨Y,J⟩:=zh h;have e:=dO Y;subst e;obtain⟨t,ht,hq⟩:=bB4 G XO hp J h3;exact(zA (aI9 ht (aj8 rfl)) qt).imp λ D W H q=>hq D W H _ q
     | _=>exact ff h
    | _=>exact ff h
   | _=>exact ff h
 | .iteT c a r,S,hT,Uu,h=>by
  cases S with
  | nil=>exact ff h
  | cons st S=>cases st with
   | If t l o p=>cases o with
    | cons _ _=>exact ff h
    | nil =>
     obtain⟨h,h3⟩:=zh h;obtain⟨Y,J⟩:=zh h;have a4:noR a=bY\/aU4 X E:=hT.elim (λ z=>.inl (zh z).1) .inr;have a1:noR r=bY\/aU4 X E:=hT.elim (λ z=>.inl (zh z).2) .inr;have a3:noL a=bY\/_:=Uu.elim (λ z=>.inl (zh z).1) .inr;have a0:noL r=bY\/_:=Uu.elim (λ z=>.inl (zh z).2) .inr;refine(zA (bT0 (sE c _ X.nox ck G Y).2.nox (ay3 G xc XO hp a _ a4 a3 J) ax0) (ay3 G xc XO hp r _ a1 a0 h3)).imp λ D W H q=>?_;obtain⟨C,U,s,c',s',Ev,R,Z,q⟩:=q;change(match nq F c U s with|.ok (.T b) s1=>if b then nQ F a U s1 else nQ F r U s1|_=>aT)=_ at Z;split at Z
     .rename_i b s1 e1;refine⟨C,U,s,b,s1,Ev,R,e1,λ C1 H1 g1 l1 R1=>?_⟩;cases b with
      | true=>exact⟨C1,U,s1,c',s',Ev.mono g1 l1,R1,Z,q.trans g1 l1⟩
      | false=>exact⟨C1,U,s1,c',s',Ev.mono g1 l1,R1,Z,q.trans g1 l1⟩
     .cases Z
   | _=>exact ff h
 | .iteE _ _ _,S,_,_,h=>ff h
 | .seq st b,S,hT,Uu,h=>by
  cases S with
  | nil=>exact ff h
  | cons x S =>
   obtain⟨Y,J⟩:=zh h;refine(zA (sS st _ X.nox ck G Y).nox (ay3 G xc XO hp b _ hT Uu J)).imp λ D W H q=>?_;obtain⟨C,U,s,c',s',Ev,R,Z,q⟩:=q;change(match DV.ex F st U s with|.ok (.next U1) s1=>nQ F b U1 s1|_=>aT)=_ at Z;split at Z
   .rename_i U1 s1 e1;exact⟨C,U,s,.next U1,s1,Ev,R,e1,λ C1 H1 g1 l1 R1 W1 a2=>⟨C1,U1,s1,c',s',a2,R1,Z,q.trans g1 l1⟩⟩
   .cases Z
 | .forX tg it b x,S,hT,Uu,h=>by
  have Uu:i7 (model X.prog X.w) X.A X.env X.xe:=Uu.elim (λ z=>by cases z) id;cases S with
  | nil=>exact ff h
  | cons st S=>cases st with
   | For tgt iter l o p=>cases o with
    | cons _ _=>exact ff h
    | nil =>
     obtain⟨h,h4⟩:=zh h;obtain⟨h,h3⟩:=zh h;obtain⟨Y,J⟩:=zh h;have hb:PSs X l (λ D W H=>TSv Γ (oa F b) D W H\/TXv Γ X.mg (nQ F x) E D W H):=λ B s W H D I q=>q.elim (λ z=>(sSs b _ X.nox ck G h3).nox B s W H D I z) (λ z=>ay3 G xc XO hp x _ hT (.inr Uu) h4 B s W H D I z);have hi:PI X tgt iter (TIv Γ (oK F it)):=(sI it _ _ X.nox ck G J).nox;have hg:PG X tgt (gOf Γ.K tg):=(bu8 G Y).nox;refine(zA (bA9 Uu G.calm hi hg hb (ax4 (bw8 J))) qt).imp λ D W H q=>?_;exact cc6 (mI:=oK F it) (mb:=oa F b) (mx:=nQ F x) (tg:=tg) (q:TXv Γ X.mg _ E D W H)
   | _=>exact ff h
 | .whlX c b x,S,hT,Uu,h=>by
  have Uu:i7 (model X.prog X.w) X.A X.env X.xe:=Uu.elim (λ z=>by cases z) id;cases S with
  | nil=>exact ff h
  | cons st S=>cases st with
   | While t l o p=>cases o with
    | cons _ _=>exact ff h
    | nil =>
     obtain⟨h,h3⟩:=zh h;obtain⟨Y,J⟩:=zh h;have hb:PSs X l (λ D W H=>TSv Γ (oa F b) D W H\/TXv Γ X.mg (nQ F x) E D W H):=λ B s W H D I q=>q.elim (λ z=>(sSs b _ X.nox ck G J).nox B s W H D I z) (λ z=>ay3 G xc XO hp x _ hT (.inr Uu) h3 B s W H D I z);exact(zA (aM8 Uu (sE c _ X.nox ck G Y).2.nox hb) qt).imp λ D W H q=>bu3 (mc:=nq F c) (mb:=oa F b) (mx:=nQ F x) (q:TXv Γ X.mg _ E D W H)
   | _=>exact ff h
def bI1 (hx:X.xe=λ _ _=>False)(h:PSs X tb t):PS X (.Try tb (h₀::hs) [] [] p) t:=by
 intro B s W H D I q;refine k9 (bF (h B s W H D I q) (λ f s1 z=>?_) (λ e s1 z=>?_))
 .cases f with
  | next=>exact dH z
  | _=>exact z
 simp_all
noncomputable def mHn (h:DV.Hd)(S:yM):Bool:=match h with
 | .nob b=>(match S with|[.Return (al (.Constant (.bool b') _ _)) _]=>decide (b'=b)|_=>ce)
 | .noe=>(match S with|[.Return (al (.List [] _)) _]=>bY|_=>ce)
 | .rnn=>(match S with|[.Return (al (.Constant .none _ _)) _]=>bY|_=>ce)
 | _=>ce
def thN:DV.Hd->TS
 | .nob b=>λ D W H=>D.rt (.T b) H
 | .rnn=>λ D W H=>D.rt .N H
 | .noe=>λ D W H=>∀ p,H p=aT->D.rt (.ref p) (upd H p (.J []))
 | _=>λ _ _ _=>False
def ch8 (m:mHn h S=bY):PSs X S (thN h):=by
 cases h with
 | nob b =>
  cases S with
  | nil=>exact ff m
  | cons s S=>cases s with
   | Return vo p=>cases vo with
    | none=>exact ff m
    | some v=>cases v with
     | Constant k j pk=>cases k with
      | bool b'=>cases S with
       | cons _ _=>exact ff m
       | nil =>
        have e:=dO m;subst e;exact(aJ2 (an9 cb2)).imp λ D W H q=>q
      | _=>exact ff m
     | _=>exact ff m
   | _=>exact ff m
 | rnn =>
  cases S with
  | nil=>exact ff m
  | cons s S=>cases s with
   | Return vo p=>cases vo with
    | none=>exact ff m
    | some v=>cases v with
     | Constant k j pk=>cases k with
      | none=>cases S with
       | cons _ _=>exact ff m
       | nil=>exact(aJ2 (an9 bA3)).imp λ D W H q=>q
      | _=>exact ff m
     | _=>exact ff m
   | _=>exact ff m
 | noe =>
  cases S with
  | nil=>exact ff m
  | cons s S=>cases s with
   | Return vo p=>cases vo with
    | none=>exact ff m
    | some v=>cases v with
     | List vs pl=>cases vs with
      | cons _ _=>cases S with|nil=>exact ff m|cons _ _=>exact ff m
      | nil=>cases S with
       | cons _ _=>exact ff m
       | nil=>exact(aJ2 (an9 (be6 af5))).imp λ D W H q=>⟨cq _,λ p z=>q p z⟩
     | _=>exact ff m
   | _=>exact ff m
 | _=>exact ff m
noncomputable def EN (Cc:Addr)(th:TS)(D:Ends):XK:=λ _ o H'=>o=al Cc/\∀ W,th { nx:=λ _ _=>False,rt:=D.rt } W H'
def bq4 {Y:yM}(a3:X.ex=[])(b0:X.stack=X.env::X.outer)(a4:X.env.frame=al X.env.locals)
  (hc:ExcCls X.K Cc) (hg:Gl X x) (hm:X.mg x=al (.ref Cc)) (hd:(x==("__debug__":Str))=ce)
  (a2:∀(pn:yA) (Ww:yB) (E:XK),qo (CX1 X.prog X.w) { X with pn:=pn,xe:=Ww } E->PSs { X with pn:=pn,xe:=Ww } tb (TXv Γ X.mg m E)) (a8:∀ a oe,oe.cls=.ref Cc->PSs (X.hnd a oe) (b₀::Y) th) :
  PS X (.Try tb (.ExceptHandler (al (.Name x np)) aT (b₀::Y) a1::hs) [] [] p) (λ D W H=>TXv Γ X.mg m (EN Cc th D) D W H):=by
 intro B s W H D I q
 let Ww:=λ e s₁=>wpAny (model X.prog X.w) X.A (kW e X.env) (λ _ s₂=>wpAny (model X.prog X.w) X.A (l9 e aT) (λ _ s₃=>wpAny (model X.prog X.w) X.A (handleBy e X.env (.ExceptHandler (al (.Name x np)) aT (b₀::Y) a1::hs)) (SP X B D) X.xe s₃) X.xe s₂) X.xe s₁
 have a6:({ X with pn:=X.pn++B,xe:=Ww }).Ok:=⟨I.ok.mod,I.ok.kind,I.ok.glob,I.ok.blt,I.ok.above,I.ok.inj,I.ok.has,I.ok.cab,I.ok.hd,I.ok.frames,I.ok.stk,I.ok.exf,I.ok.bs,I.ok.bsz,I.ok.noex,I.ok.exfs,I.ok.funs,I.ok.frf⟩
 have I':Inv { X with pn:=X.pn++B,xe:=Ww } [] W H s:=⟨a6,I.os,I.bare,I.base,I.loc,I.cell,I.free,I.freeC,λ p hp=>I.pin p (by rw[aY]at hp;exact hp),I.hok,I.len⟩
 have Uu:∀ {Z} {W'} {H'} {s'},Inv { X with pn:=X.pn++B,xe:=Ww } Z W' H' s'->Inv X B W' H' s':=λ J=>⟨I.ok,J.os,J.bare,J.base,J.loc,J.cell,J.free,J.freeC,λ p hp=>J.pin p (bj _ hp),J.hok,J.len⟩
 have hp:qo (CX1 X.prog X.w) { X with pn:=X.pn++B,xe:=Ww } (EN Cc th D):=λ Z W' H' s' e b1 J h=>by
  refine wl λ _ ua=>?_;obtain⟨a,Cc',b2,rfl,T,eC,hq⟩:=CX1.tr J a3 h;cases eC;obtain⟨a0,oe,vs,T0,oT,ts,h1,h2,h3,h4,h5,h6,a5,h7⟩:=T.tr;exact ua $ aY0 ⟨Uu T.inv,T.n0,T.nH,λ p hp=>T.np p (bj _ hp),a0,oe,vs,T0,oT,ts,h1,h2,h3,h4,h5,h6,λ p hp=>a5 p (bj _ hp),h7⟩ a3 b0 a4 hc hg hm hd (a8 a) (hq W')
 refine k9 (bF (a2 _ Ww _ hp [] s W H D I' q) (λ f s1 z=>?_) (λ e s1 z=>z));cases f with
 | next=>obtain⟨W1,H1,J,z⟩:=z;exact dH ⟨W1,H1,Uu J,z⟩
 | brk=>obtain⟨W1,H1,J,z⟩:=z;exact⟨W1,H1,Uu J,z⟩
 | cont=>obtain⟨W1,H1,J,z⟩:=z;exact⟨W1,H1,Uu J,z⟩
 | ret u=>refine wl λ _ ua=>?_;obtain⟨v,W1,H1,J,r,z⟩:=z;exact ua ⟨v,W1,H1,Uu J,r,z⟩
end
section
variable {F:nA} {X:Cx} {ck:Ck} {a Cc:Addr} {oe:Obj}
end
section
variable {Γ:Gm}
def aI1 (R:Rp Γ C H s)(g:Gr C s H C1 s1 z)(ho:pi s s1=bY)(B:i<s.length)(e:s1[i]?=al o):o.bnd s.length=true:=by
 unfold pi at ho;have:=aI.mp ho i (bE.mpr B);rw[e,b7]at this;rcases this with h|h
 .exact R.wf i o (dO h).symm
 .exact h
def qN {s1:m9}(e:(s1.take k)[i]?=al o):i<k/\s1[i]?=al o:=by
 rw[List.getElem?_take]at e;split at e
 .exact⟨‹_›,e⟩
 .cases e
def aR7 (R:Rp Γ C H s)(g:Gr C s H C1 s1 h)(R1:Rp Γ C1 h s1)(ho:pi s s1=bY):Gr C s H C1 (s1.take s.length) h/\Rp Γ C1 h (s1.take s.length):=by
 have J:(s1.take s.length).length=s.length:=by rw[bR];have:=g.le;lia
 refine⟨⟨g.w,by rw[J];exact aj _,λ i Y Uu=>by rw[J]at Uu;lia,λ i o B e e'=>g.kd i o B e (qN e').2,g.st,g.fz,g.fr⟩,λ i j o B e e' m m' z=>R1.inj i j o B (qN e).2 (qN e').2 m m' z,λ i o e=>R1.obj i o (qN e).2,λ i o e=>?_,R1.tab⟩;rw[J];exact aI1 R g ho (qN e).1 (qN e).2
set_option tactic.hygienic true in
def qg (R:Rp Γ C H s)(g:Gr C s H C1 s1 Uu)(R1:Rp Γ C1 Uu s1)(hb:v0.bnd s1.length=bY)(r:RV Γ C1 Uu v0 v)(h:oY s v0 s1=.ok d s') :
  ∃ C',Gr C s H C' s' Uu/\s.length<=s'.length/\d.bnd s'.length=bY/\RV Γ C' Uu d v/\Rp Γ C' Uu s':=by
 have all:d=v0->s'=s1->∃ C',Gr C s H C' s' Uu/\s.length<=s'.length/\d.bnd s'.length=bY/\RV Γ C' Uu d v/\Rp Γ C' Uu s':=λ e1 e2=>by
  subst e1;subst e2;exact⟨C1,g,g.le,hb,r,R1⟩
 unfold oY at h;split at h
 case isFalse=>cases h;exact all rfl rfl
 rename_i ho;obtain⟨gt,Rt⟩:=aR7 R g R1 ho;have Y:(s1.take s.length).length=s.length:=by rw[bR];have:=g.le;omega
 have tk:d=v0->s'=s1.take s.length->v0.bnd s.length=bY->∃ C',Gr C s H C' s' Uu/\s.length<=s'.length/\d.bnd s'.length=bY/\RV Γ C' Uu d v/\Rp Γ C' Uu s':=λ e1 e2 b=>by
  subst e1;subst e2;exact⟨C1,gt,by rw[Y];exact aj _,by rw[Y];exact b,r,Rt⟩
 split at h
 .rename_i k;split at h
  .cases h;exact tk rfl rfl (by unfold nr;exact ij ‹_›)
  .rename_i hk;split at h
   .rename_i o eo;split at h
    .rename_i Z;cases h;have gw:Gw C1 s.length Uu (λ i=>if i=s.length then C1 k else C1 i) Uu:=⟨λ i z=>gc (aH z),Kp.refl _⟩
     have key:∀ i   J ,(s1.take s.length++[o])[i]?=al J->(i<s.length/\s1[i]?=al J)\/(i=s.length/\J=o):=λ i J e=>by
      rcases gI i s.length with h|h|h
      .rw[aD (by rw[Y];exact h)]at e;exact .inl (qN e)
      .subst h;rw[ay (by rw[Y];exact aj _),Y,kI]at e;exact .inr ⟨rfl,(av e).symm⟩
      .rw[bZ (by rw[aM,Y];simp;lia)]at e;cases e
     have B:(s1.take s.length++[o]).length=s.length+1:=by rw[aM,Y];rfl
     refine⟨λ i=>if i=s.length then C1 k else C1 i,⟨⟨λ i z=>?_,g.w.kp⟩,by rw[B];lia,λ i h1 h2=>?_,λ i oo J e e'=>?_,g.st,g.fz,g.fr⟩,by rw[B];omega,by unfold nr;rw[B];exact ij (dv _),?_,⟨λ i j oi oj a0 a1 mi mj e=>?_,λ i J e=>?_,λ i J e=>?_,R1.tab⟩⟩
     .skip
      rw[gc (aH z)];exact g.w.map i z
     .rw[B]at h2
      skip
      rw[ef (by lia)];exact g.new k (by lia) (ag.mp eo).1
     .rcases key i J e' with⟨_,e2⟩|⟨z,_⟩
      .exact g.kd i oo J e e2
      simp_all
     .rw[r.refE];unfold RV;lia
     .rcases key i oi a0 with⟨z,ei⟩|⟨z,zi⟩<;>rcases key j oj a1 with⟨hj,ej⟩|⟨hj,zj⟩
      .rw[gc (aH z),gc (aH hj)]at e;exact R1.inj i j oi oj ei ej mi mj e
      .rw[gc (aH z),ef hj]at e;subst zj;have:=R1.inj i k oi _ ei eo mi mj e;lia
      .rw[gc (aH hj),ef z]at e;subst zi;have:=R1.inj k j _ oj eo ej mi mj e;lia
      .rw[z,hj]
     .rcases key i J e with⟨z,e⟩|⟨z,rfl⟩
      .skip
       rw[gc (aH z)];exact(R1.obj i J e).mono gw (aI1 R g ho z e) λ _ u hu=>hu
      .skip
       rw[ef z];exact(R1.obj k _ eo).mono gw Z λ _ u hu=>hu
     .rw[B];rcases key i J e with⟨z,e⟩|⟨_,rfl⟩
      .exact qi (dC _) _ (aI1 R g ho z e)
      .exact qi (dC _) _ Z
    .cases h;exact all rfl rfl
   .exact fb h
 .split at h
  .cases h;exact tk rfl rfl ‹_›
  .cases h;exact all rfl rfl
structure LamGood (J:LamI)(L:oN):Prop where
 sc:LamScope (J.ps++J.fr) J.ps J.fr J.scope
 ps:J.ps.length=L.ps
 fr:J.fr.length=L.cs
 m:mE (ck0 (J.ps++J.fr) J.scope) L.body J.body=bY
 pa:lamArgs J.params=al J.ps
 bind:∀(clos:yC) (doc pm:Value) (c':Addr) (ctv:Value) (us:yH),us.length=J.ps.length->eM (cx "<lambda>" J.qual J.params J.body J.scope clos pm (.ref c') ctv) ⟨us,[]⟩=pure (J.ps.zip us) /\
  ∀(nm:Str) (rp:Pos),eM (cV nm J.qual J.params [.Return (al J.body) rp] J.scope clos .none .none doc pm aT (.ref c') ctv) ⟨us,[]⟩=pure (J.ps.zip us)
structure LkAt (Γ:Gm)(cds:yG)(f:Str)(sc:Scope)(N:yI)(fd:bK)(id:String)(caps:List Nat)(params:bD)(body:Expr)(scope:Scope)(c P:Addr)(J:LamI):Prop where
 code:fd.code=.ref c
 cd:(c,P)∈cds
 ck:lamCheck scope sc=bY
 fre:∀ x,scope.names.lookup x=al .free->sc.names.lookup x=al .cell
 cel:∀ y∈sc.names,y.2=.cell->sc.names.lookup y.1=al .cell
 df:∀ env,lK params env=([],[])
 lg:Γ.lg id J
 q:J.qual=f ++ ".<locals>."++J.own
 p:J.params=params
 b:J.body=body
 s:J.scope=scope
 len:J.fr.length=caps.length
 at_:∀(i j:Nat) (x:Str),caps[i]?=al j->J.fr[i]?=al x->N[j]?=al x
 fr:∀ x∈J.fr,scope.names.lookup x=al .free
 tab:(P,J.qual)∈Γ.T
def bl1 (Γ:Gm)(cds:yG)(f:Str)(sc:Scope)(N:yI)(fd:bK)(lk:String->List Nat->Expr->Bool):Prop :=
 ∀ id caps E,lk id caps E=bY->∃ c P params body scope pos J,E=lamText J params body scope pos/\LkAt Γ cds f sc N fd id caps params body scope c P J
def GoodB (Γ:Gm)(cds:yG)(mg:yD)(f:String)(pc vc:Nat)(m:Ck->List Stmt->Bool):Prop:=∃ st N ps a fd lk,DefAt Γ.K mg (f) st ps a fd/\FnScope N ps (defScope st)/\ps.length=pc/\N.length=pc+vc/\m ⟨N,defScope st,lk⟩ (defBody st)=bY/\bl1 Γ cds (f) (defScope st) N fd lk
def Good (Γ:Gm)(cds:yG)(mg:yD)(f:String)(d:n8):Prop:=GoodB Γ cds mg f d.ps d.vs λ ck S=>mSs ck d.body S
def mT0 (ck:Ck)(d:pM)(S:yM):Bool:=match S with
 | st::rest=>(match st with|.Try tb hs [] [] _=>(match hs with|[eh]=>(match eh with|.ExceptHandler (al en) (al nm) hb _=>ce|.ExceptHandler (al en) aT hb _=>(match en,hb with|.Name x _,b::su=>mSs ck d.body tb&&(mX ck d.xb tb&&(noR d.xb&&(noL d.xb&&(decide (x=(d.c:Str))&&(ck.gl x&&(mHn d.h (b::su)&&mSs ck d.tl rest))))))|_,_=>ce)|_=>ce)|_=>ce)|_=>ce)
 | _=>ce
def ch2 (ck:Ck):oJ->List Stmt->Option (List Stmt)
 | .nil,S=>al S
 | .cons s ss,S=>match S with|x::xs=>(match mS ck s x with|true=>ch2 ck ss xs|false=>aT)|[]=>aT
def mT (ck:Ck)(d:pM)(S:yM):Bool:=match ch2 ck d.pre S with
 | some S1=>mT0 ck d S1
 | none=>ce
def GoodX (Γ:Gm)(c m:String)(d:oO):Prop:=∃ st N ps a fd Cc,(Γ.cls c=al Cc/\Cls Γ.K Cc)/\Meth Γ.K Cc (m:Str) a/\Fun Γ.K (m:Str) ((c ++ "."++m:String):Str) st a fd/\Binds Γ.K fd ps []/\FnScope N ps (defScope st)/\ps.length=d.ps/\N.length=d.ps+d.vs/\mX ⟨N,defScope st,λ _ _ _=>ce⟩ d.body (defBody st)=bY
def GoodM (Γ:Gm)(c m:String)(d:n8):Prop:=∃ st N ps a fd Cc,(Γ.cls c=al Cc/\Cls Γ.K Cc)/\Meth Γ.K Cc (m:Str) a/\Fun Γ.K (m:Str) ((c ++ "."++m:String):Str) st a fd/\Binds Γ.K fd ps []/\FnScope N ps (defScope st)/\ps.length=d.ps/\N.length=d.ps+d.vs/\mSs ⟨N,defScope st,λ _ _ _=>ce⟩ d.body (defBody st)=bY
structure PrOk (Γ:Gm)(cds:yG)(P:nB)(mg:yD)(w:World):Prop where
 df:∀ f d,P.df f=al d->Good Γ cds mg f d
 con:∀ x d,P.con x=al d->∃ v u,mg (x:Str)=al u/\RelV v u/\(∀ m,d.bnd m=bY)/\∀ C H,RV Γ C H d v
 bi:∀ x∈bNames,mg x=aT
 fa:∀(f:String) (a:Addr),Γ.fa f=al a->mg (f:Str)=al (.ref a)/\∃ oc od fd sl,Γ.K.lookup a=al ⟨oc,od,.func fd,sl⟩
 lg:∀ id J,Γ.lg id J->∃ L,P.lm id=al L/\LamGood J L
 nd:(Γ.T.map (·.1)).Nodup
 xf:∀ f d,P.xf f=al d->GoodB Γ cds mg f d.ps d.vs λ ck S=>mX ck d.body S
 tf:∀ f d,P.tf f=al d->GoodB Γ cds mg f d.ps d.vs λ ck S=>mT ck d S
 xc:∀ c:String,P.xc c=bY->∃ Cc,mg (c:Str)=al (.ref Cc)/\ExcCls Γ.K Cc/\excI Γ.K Cc=bY
 xt:∀ c:String,P.xt c=bY->∃ Cc,mg (c:Str)=al (.ref Cc)
 xs:∀(c d:String) (Cc D:Addr),P.xc c=bY->P.xt d=bY->mg (c:Str)=al (.ref Cc)->mg (d:Str)=al (.ref D)->cG Γ.K (.ref Cc) (.ref D)=al (nR c d)
 xm:∀(c d:String) (Cc D:Addr),P.xc c=bY->P.xt d=bY->mg (c:Str)=al (.ref Cc)->mg (d:Str)=al (.ref D)->cL Γ.K (.ref Cc) (.ref D)=al (nR c d)
 xe:∀(c:String) (Cc:Addr),P.xc c=bY->mg (c:Str)=al (.ref Cc)->cL Γ.K (.ref Cc) (.ref Cc)=al bY
 v0:∀ c:String,P.xc c=bY->mg ("ValueError":Str)=aT
 v1:∀(c:String) (Cc:Addr),P.xc c=bY->mg (c:Str)=al (.ref Cc)->cG Γ.K (.ref Cc) (.type "ValueError")=al bY
 cdc:∀(c:String) kvs,P.cdc c=al kvs->∃ a,mg (c:Str)=al (.ref a)/\∀(prog:aF) (h:Heap),Γ.K.In h->StrTab prog w h a (strD kvs)
 mt:∀ c m d,P.mt c m=al d->GoodM Γ c m d
 mx:∀ c m d,P.mx c m=al d->GoodX Γ c m d
 att:∀(c:String) (f:List Nat) (Cc:Addr),P.att c f=bY->Γ.cls c=al Cc->NoAttr Γ.K Cc ⟨f.toArray⟩
 nwc:∀(c:String) (Cc:Addr),Γ.cls c=al Cc->mg (c:Str)=al (.ref Cc)/\dI Γ.K Cc=bY/\bJ Γ.K (.ref Cc)=bY
def jx (Γ:Gm)(prog:aF)(w:World)(mg:yD)(base:Heap)(F:nA)(n:Nat):Prop:=(∀ f:String,(∀ l s,F.call f l s=.B) \/
  ∃ a fd ps,FnOk prog w Γ.K mg base CX0 n a fd ps (spV Γ (F.call f))/\mg (f)=al (.ref a)/\bJ Γ.K (.ref a)=bY/\Binds Γ.K fd ps []) /\
 (∀ id   J   f   cap   clos ,Γ.lg id J->cap.length=J.fr.length->ClOk prog w Γ.K mg base n (λ H=>CloAt H f J cap clos) f (spL Γ (F.lam id) cap))/\ObOk Γ prog w Γ.K mg base F n
def az3 (r:RVL Γ C H l vs)(b:nh n l=bY)(hN:N.length=l.length+k):RE Γ C H n (l.map al++aA k aT) (ai7 N vs):=by
 have h:=r.length;refine⟨?_,λ i d e=>?_⟩
 .unfold ai7;simp_all
 .by_cases hi:i<l.length
  .rw[aD (by simp_all),aL]at e;have e':l[i]?=al d:=by
    rw[au hi]at e ⊢;exact av e
   obtain⟨v,e1,e2⟩:=r.get e';refine⟨ah8 b e',v,?_,e2⟩;unfold ai7;rw[aD (by rw[aw,h];exact hi),aL,e1];rfl
  .rw[ay (by simpa using kU hi)]at e;rw[gY]at e;split at e<;>cases e
def bz5 (Uu:PrOk Γ z P mg w) n :∀ c  kvs,(nj P n).cdc c=al kvs->∃ a,mg (c)=al (.ref a)/\∀ h:Heap,Γ.K.In h->StrTab prog w h a (strD kvs):=by
 have:(nj P n).cdc=P.cdc:=by cases n<;>rfl
 rw[this];intro c kvs e;obtain⟨a,B,J⟩:=Uu.cdc c kvs e;exact⟨a,B,J prog⟩
def bj7 (hP:PrOk Γ Y P mg w)(hb:∀ y∈Y,bG base y.1 y.2/\BM mg base) n (h:jx Γ prog w mg base (nj P n) (n+31))
  {f:String} {st:Stmt} (hS:FnScope N ps (defScope st)) (hL:bl1 Γ Y (f:Str) (defScope st) N fd lk)  Uu  (a1:∀ id B E,lk id B E=bY->fd.code=Uu)  A   Z   sh   H   E  (hr:Room (n+31) (A.deeper (fQ (f:Str) (defScope st) sh.heap.objs.size a Uu))) :
  CG Γ (nj P n) (n+31) (as8 CX0 prog w Γ.K mg base N (f:Str) (defScope st) a Uu A Z sh H E).nox ⟨N,defScope st,lk⟩:=by
 refine⟨rfl,rfl,hS.nd,rfl,rfl,?_,hr,λ x k e=>.inl e,λ _ _=>rfl,hP.bi,h.1,?_,λ id B E' hlk=>?_,h.2.1,hP.fa,bz5 hP n,h.2.2⟩
 .show nF+1<=n+31;unfold nF;lia
 .have:(nj P n).con=P.con:=by cases n<;>rfl
  rw[this];exact hP.con
 .refine wl λ _ ua=>?_;obtain⟨c,Pa,params,body,scope,pos,J,eE,L⟩:=hL id B E' hlk;obtain⟨a5,a3⟩:=hb _ L.cd;obtain⟨L',_,lg⟩:=hP.lg id J L.lg;refine ua ⟨c,Pa,params,body,scope,pos,J,eE,⟨?_,a5,a3,L.ck,L.df _,L.lg,L.q,L.p,L.b,L.s,L.len,L.at_,L.fr,λ x hx=>?_,L.tab,hP.nd,λ _=>rfl,λ x c hx=>?_,lg.sc,lg.pa,λ a0 pm c' a4 us a2=>(lg.bind a0 .none pm c' a4 us a2).1⟩⟩
  .show Uu=.ref c;rw[<-a1 id B E' hlk];exact L.code
  .exact z0 (L.fre x hx)
  .rcases zB (aK hx)with z|z
   .exact .inl (L.cel (x,.cell) z rfl)
   simp_all
def aE0 :bl1 Γ z f sc N B (λ _ _ _=>ce):=λ _ _ _ h=>by cases h
set_option tactic.hygienic true in
def by8 {Z:yG}{P:nB}{prog:aF}{w:World}{mg:yD}{base:Heap}(hP:PrOk Γ Z P mg w)(hb:∀ y∈Z,bG base y.1 y.2/\BM mg base)(n:Nat)(a0:jx Γ prog w mg base (nj P n) (n+31))
  {f:String} {x:Str} {d:n8} {st:Stmt} {N ps:yI} {a:Addr} {fd:bK} {lk:String->List Nat->Expr->Bool} (hD:Fun Γ.K x (f:Str) st a fd) (hS:FnScope N ps (defScope st)) (h1:ps.length=d.ps) (h2:N.length=d.ps+d.vs) (hm:mSs ⟨N,defScope st,lk⟩ d.body (defBody st)=bY) (hL:bl1 Γ Z (f:Str) (defScope st) N fd lk) :
  FnOk prog w Γ.K mg base CX0 (n+1+31) a fd ps (spV Γ (oA (nj P n) d)):=by
 have Y:∀ vs H Q E,spV Γ (oA (nj P n) d) vs H Q E->vs.length=ps.length:=λ vs H Q E q=>by
  obtain⟨C,s,l,d',s',R,r,b,hc,k⟩:=q;unfold oA at hc;split at hc
  .rw[r.length,h1];assumption
  .exact fb hc
 have body:∀(B:Value),(∀ id z E,lk id z E=bY->fd.code=B)->∀(A:aV) (Uu:List Env) (sh:af) (H:Hp) (vs:List V) (Q:VK) (E:XK),Room (n+31) (A.deeper (fQ (f:Str) (defScope st) sh.heap.objs.size a B))->spV Γ (oA (nj P n) d) vs H Q E ->
   ∃ t,PSs (as8 CX0 prog w Γ.K mg base N (f:Str) (defScope st) a B A Uu sh H E).nox (defBody st) t/\t { nx:=λ _ H'=>Q .N H',rt:=Q } (ai7 N vs) H:=by
  intro B a1 A Uu sh H vs Q E hr q;have G:=bj7 hP hb n a0 hS hL (a:=a) B a1 A Uu sh H E hr;refine⟨_,sSs d.body (defBody st) _ ⟨N,defScope st,lk⟩ G hm,?_⟩;obtain⟨C,s,l,d',s',R,r,b,hc,k⟩:=q;unfold oA at hc;split at hc
  case isFalse=>exact fb hc
  rename_i Y;obtain⟨c,s1,e1,hc⟩:=aa1 hc;refine⟨C,l.map al++aA d.vs aT,s,c,s1,az3 r b (by rw[h2,Y]),R,e1,λ C1 H1 g1 l1 R1=>?_⟩;cases c with
  | ret v0 =>
   intro v hb rv;obtain⟨C',g',l',b',r',R'⟩:=qg R g1 R1 hb rv hc;exact k v C' H1 g' l' b' r' R'
  | next U =>
   intro W' _;obtain⟨C',g',l',b',r',R'⟩:=qg (v0:=.N) R g1 R1 rfl RV.nonI hc;exact k .N C' H1 g' l' b' r' R'
  | cont U=>exact fb hc
  | brk U=>exact fb hc
 by_cases hl:∃ id z E,lk id z E=bY
 .obtain⟨id,z,E,hlk⟩:=hl;obtain⟨c,Pa,params,a2,scope,pos,J,eE,L⟩:=hL id z E hlk;exact hD.okC L.code hS Y (body _ λ _ _ _ _=>L.code)
 .exact hD.ok hS Y (λ B=>body B λ id z E h=>iS ⟨id,z,E,h⟩ hl)
def bV9 (hP:PrOk Γ h P mg w)(hb:∀ y∈h,bG base y.1 y.2/\BM mg base) n (B:jx Γ prog w mg base (nj P n) (n+31))
  (e:P.df f=al d) {st} (hD:DefAt Γ.K mg (f:Str) st ps a J) (Uu:FnScope N ps (defScope st)) (h1:ps.length=d.ps) (h2:N.length=d.ps+d.vs) (Z:mSs ⟨N,defScope st,lk⟩ d.body (defBody st)=bY) (Y:bl1 Γ h (f:Str) (defScope st) N J lk) :
  FnOk prog w Γ.K mg base CX0 (n+1+31) a J ps (spV Γ ((nj P (n+1)).call f)):=by
 have z:(nj P (n+1)).call f=oA (nj P n) d:=by funext l s;simp only[nj,e];rfl
 rw[z];exact by8 hP hb n B hD.fn Uu h1 h2 Z Y
def ck4 (Z:PrOk Γ Uu P mg w)(hb:∀ y∈Uu,bG base y.1 y.2/\BM mg base) n (B:jx Γ prog w mg base (nj P n) (n+31)):ObOk Γ prog w Γ.K mg base (nj P (n+1)) (n+1+31):=by
 refine⟨λ c f Cc h=>Z.att c f Cc h,λ c m=>?_,λ c=>?_⟩
 .cases e:P.mt c m with
  | none=>exact .inl λ l s=>by simp only[nj,e]
  | some d =>
   refine wl λ _ ua=>?_;obtain⟨st,N,ps,a,fd,Cc,hc,Y,hD,J,hS,h1,h2,a0⟩:=Z.mt c m d e;have z:(nj P (n+1)).mcall c m=oA (nj P n) d:=by funext l s;simp only[nj,e]
   refine ua ?_;refine .inr ⟨Cc,a,fd,ps,hc.1,hc.2,Y,?_,J⟩;rw[z];exact by8 Z hb n B hD hS h1 h2 a0 aE0
 .rcases B.2.2.mc c "__init__" with h|⟨Cc,a,fd,ps,hc,hcl,Y,hF,J⟩
  .exact .inl λ l s=>h l s
  .obtain⟨m1,m2,m3⟩:=Z.nwc c Cc hc;exact .inr ⟨n+31,Cc,a,fd,ps,by lia,⟨hc,hcl⟩,m1,⟨m2,Y.at_,Y.fn,m3⟩,hF,J⟩
def Fun.okX {K}{st}(F:Fun K x qual st f J)(S:FnScope N ps (defScope st))(len:∀ vs H Q E,sp vs H Q E->vs.length=ps.length)
  (B:∀(z:Value),J.code=z->∀(A:aV) (h:List Env) (s:af) (H:Hp) (vs:List V) (Q:VK) (E:XK),Room k (A.deeper (fQ qual (defScope st) s.heap.objs.size f z))->sp vs H Q E ->
   ∃ t,PSs (as8 Y P w K mg base N qual (defScope st) f z A h s H E) (defBody st) t/\t { nx:=λ _ H'=>Q .N H',rt:=Q } (ai7 N vs) H):FnOk P w K mg base Y (k+1) f J ps sp:=by
 obtain⟨oc,od,kV,a0,pm,an,z,ct,Z,rfl,lk,hc⟩:=F.ex;exact bM6 lk hc S len λ A h s H vs Q E hr Uu=>B z rfl A h s H vs Q E hr Uu
def bY4 (z:PrOk Γ Uu P mg w) n :XC (nj P n) Γ.K mg:=by
 have e:(nj P n).xc=P.xc:=by cases n<;>rfl
 have e':(nj P n).xt=P.xt:=by cases n<;>rfl
 exact⟨λ c h=>z.xc c (by simp_all),λ c h=>z.xt c (by simp_all),λ c d Cc D B J=>z.xs c d Cc D (by simp_all) (by simp_all),λ c d Cc D B J=>z.xm c d Cc D (by simp_all) (by simp_all),λ c h=>z.v0 c (by simp_all),λ c Cc h=>z.v1 c Cc (by simp_all)⟩
set_option tactic.hygienic true in
def bc5 {z:yG}{P:nB}{prog:aF}{w:World}{mg:yD}{base:Heap}(hP:PrOk Γ z P mg w)(hb:∀ y∈z,bG base y.1 y.2/\BM mg base)(n:Nat)(B:jx Γ prog w mg base (nj P n) (n+31))(XO:XOk Γ prog w Γ.K mg base (nj P n) (n+31))
  {f:String} {x:Str} {d:oO} {st:Stmt} {N ps:yI} {a:Addr} {Z:bK} {lk:String->List Nat->Expr->Bool} (hD:Fun Γ.K x (f:Str) st a Z) (hS:FnScope N ps (defScope st)) (h1:ps.length=d.ps) (h2:N.length=d.ps+d.vs) (hm:mX ⟨N,defScope st,lk⟩ d.body (defBody st)=bY) (hL:bl1 Γ z (f:Str) (defScope st) N Z lk) :
  FnOk prog w Γ.K mg base (CX1 prog w) (n+1+31) a Z ps (spX Γ mg λ l s=>if l.length=d.ps then nQ (nj P n) d.body (l.map al++aA d.vs aT) s else aT):=by
 refine hD.okX hS (λ vs H Q E q=>?_) λ Uu Y A h sh H vs Q E hr q=>?_
 .obtain⟨C,s,l,c,s',R,r,b,hc,k⟩:=q;dsimp only at hc;split at hc
  .rw[r.length,h1];assumption
  .cases hc
 .have G:=bj7 hP hb n B hS hL (a:=a) Uu (λ _ _ _ _=>Y) A h sh H E hr;obtain⟨C,s,l,c,s',R,r,b,hc,k⟩:=q;dsimp only at hc;split at hc
  case isFalse=>cases hc
  rename_i J;exact⟨_,ay3 (X:=as8 (CX1 prog w) prog w Γ.K mg base N (f:Str) (defScope st) a Uu A h sh H E) G (bY4 hP n) XO ci3 d.body (defBody st) (.inr cn2) (.inr PassesOwn.leaving) hm,C,l.map al++aA d.vs aT,s,c,s',az3 r b (by rw[h2,J]),R,hc,k⟩
def ca1 (hP:PrOk Γ h P mg w)(hb:∀ y∈h,bG base y.1 y.2/\BM mg base) n (B:jx Γ prog w mg base (nj P n) (n+31))(Z:XOk Γ prog w Γ.K mg base (nj P n) (n+31))
  (e:P.xf f=al d) {st} (hD:DefAt Γ.K mg (f:Str) st ps a J) (Uu:FnScope N ps (defScope st)) (h1:ps.length=d.ps) (h2:N.length=d.ps+d.vs) (hm:mX ⟨N,defScope st,lk⟩ d.body (defBody st)=bY) (Y:bl1 Γ h (f:Str) (defScope st) N J lk) :
  FnOk prog w Γ.K mg base (CX1 prog w) (n+1+31) a J ps (spX Γ mg ((nj P (n+1)).xcall f)):=by
 have z:(nj P (n+1)).xcall f=λ l s=>if l.length=d.ps then nQ (nj P n) d.body (l.map al++aA d.vs aT) s else none:=by funext l s;simp only[nj,e]
 rw[z];exact bc5 hP hb n B Z hD.fn Uu h1 h2 hm Y
theorem by5 (G:CG Γ F n X z):∀ {pre} {S B:yM},ch2 z pre S=al B->PSs X B t->PSs X S (cl2 (TSv Γ (oa F pre)) t)
 | .nil,S,B,h,h1=>by
  cases h;refine h1.imp λ D W H q=>?_;obtain⟨C,U,s,c,s',E,R,e,q⟩:=q;cases e;exact q.here R W E
 | .cons s ss,S,B,h,h1=>by
  cases S with
  | nil=>exact iS h (by nofun)
  | cons x xs =>
   have h:(match mS z s x with|true=>ch2 z ss xs|false=>aT)=al B:=h;cases hm:mS z s x with
   | false=>simp_all
   | true =>
    rw[hm]at h;exact(zA (sS s _ X z G hm) (by5 G h h1)).imp λ D W H q=>bA7 (TSv.eq (λ U s=>rfl) q)
set_option tactic.hygienic true in
def bR1 (hP:PrOk Γ a3 P mg w)(hb:∀ y∈a3,bG base y.1 y.2/\BM mg base) n (a2:jx Γ prog w mg base (nj P n) (n+31))(XO:XOk Γ prog w Γ.K mg base (nj P n) (n+31))
  (e0:P.df f=aT) (e:P.tf f=al d) {st:Stmt} {N ps:yI} {a:Addr} {fd:bK} {lk:String->List Nat->Expr->Bool} (hD:DefAt Γ.K mg (f:Str) st ps a fd) (hS:FnScope N ps (defScope st)) (h1:ps.length=d.ps) (h2:N.length=d.ps+d.vs) (B:mT ⟨N,defScope st,lk⟩ d (defBody st)=bY) (hL:bl1 Γ a3 (f:Str) (defScope st) N fd lk) :
  FnOk prog w Γ.K mg base CX0 (n+1+31) a fd ps (spV Γ ((nj P (n+1)).call f)):=by
 refine hD.fn.okX hS (λ vs H Q E q=>?_) λ Uu b5 A z sh H vs Q E hr q=>?_
 .obtain⟨C,s,l,d',s',R,r,b,hc,k⟩:=q;simp only[nj,e0,e]at hc;split at hc
  .rw[r.length,h1];assumption
  .exact fb hc
 have G:=bj7 hP hb n a2 hS hL (a:=a) Uu (λ _ _ _ _=>b5) A z sh H E hr;have xc:=bY4 hP n;obtain⟨C,s,l,d',s',R,r,b,hc,k⟩:=q;simp only[nj,e0,e]at hc;split at hc
 case isFalse=>exact fb hc
 rename_i b3;have E0:=az3 r b (k:=d.vs) (N:=N) (by rw[h2,b3]);unfold mT at B;split at B
 case h_2=>simp_all
 rename_i S1 a8;unfold DV.bC0 at hc;split at hc
 case h_2=>exact fb hc
 rename_i U0 s0 ep
 suffices key:∃ t,PSs (as8 CX0 prog w Γ.K mg base N (f:Str) (defScope st) a Uu A z sh H E).nox S1 t/\∀ C0 W0 H0,Gr C s H C0 s0 H0->s.length<=s0.length->Rp Γ C0 H0 s0->RE Γ C0 H0 s0.length U0 W0->t { nx:=λ _ H'=>Q .N H',rt:=Q } W0 H0 by
  obtain⟨t,ht,kt⟩:=key;refine⟨_,(by5 (X:=(as8 CX0 prog w Γ.K mg base N (f:Str) (defScope st) a Uu A z sh H E).nox) G a8 ht).nox,?_⟩;exact⟨C,l.map al++aA d.vs aT,s,.next U0,s0,E0,R,ep,λ C1 H1 g1 l1 R1 W1 E1=>kt C1 W1 H1 g1 l1 R1 E1⟩
 unfold mT0 at B;split at B
 case h_2=>simp_all
 rename_i c1 rest;split at B
 case h_2=>simp_all
 rename_i tb hs tp;split at B
 case h_2=>simp_all
 rename_i eh;have run:mSs ⟨N,defScope st,lk⟩ d.body tb=bY->mSs ⟨N,defScope st,lk⟩ d.tl rest=bY->((oa (nj P n) d.body U0 s0).bind λ c s1=>match c with
  | .ret v=>oY s v s1
  | .next U=>(oa (nj P n) d.tl U s1).bind λ c s2=>match c with
   | .ret v=>oY s v s2
   | .next _=>oY s .N s2
   | _=>.B
  | _=>.B)=.ok d' s'->∃ t,PSs (as8 CX0 prog w Γ.K mg base N (f:Str) (defScope st) a Uu A z sh H E).nox (.Try tb [eh] [] [] tp::rest) t/\∀ C0 W0 H0,Gr C s H C0 s0 H0->s.length<=s0.length->Rp Γ C0 H0 s0->RE Γ C0 H0 s0.length U0 W0->t { nx:=λ _ H'=>Q .N H',rt:=Q } W0 H0:=λ m1 a4 hc=>by
  refine⟨_,(zA (bI1 (X:=(as8 CX0 prog w Γ.K mg base N (f:Str) (defScope st) a Uu A z sh H E).nox) rfl (sSs d.body tb _ ⟨N,defScope st,lk⟩ G m1)) (sSs d.tl rest _ ⟨N,defScope st,lk⟩ G a4)),λ C0 W0 H0 g0 l0 R0 Ea=>?_⟩;obtain⟨c,s1,e1,hc⟩:=aa1 hc;refine⟨C0,U0,s0,c,s1,Ea,R0,e1,λ C1 H1 g1 l1 R1=>?_⟩
  replace g1:=g0.trans g1 l0
  replace l1:=aq l0 l1
  cases c with
  | ret v0 =>
   intro v hb rv;obtain⟨C',g',l',b',r',R'⟩:=qg R g1 R1 hb rv hc;exact k v C' H1 g' l' b' r' R'
  | next U =>
   intro W' E1;obtain⟨c,s2,e2,hc⟩:=aa1 hc;refine⟨C1,U,s1,c,s2,E1,R1,e2,λ C2 H2 g2 l2 R2=>?_⟩;cases c with
   | ret v0 =>
    intro v hb rv;obtain⟨C',g',l',b',r',R'⟩:=qg R (g1.trans g2 l1) R2 hb rv hc;exact k v C' H2 g' l' b' r' R'
   | next U =>
    intro W' _;obtain⟨C',g',l',b',r',R'⟩:=qg (v0:=.N) R (g1.trans g2 l1) R2 rfl RV.nonI hc;exact k .N C' H2 g' l' b' r' R'
   | cont U=>exact fb hc
   | brk U=>exact fb hc
  | cont U=>exact fb hc
  | brk U=>exact fb hc
 split at B
 .simp_all
 .rename_i en c2 hp;split at B
  case h_2=>simp_all
  rename_i x np b0 su;obtain⟨m1,B⟩:=zh B;obtain⟨m2,B⟩:=zh B;obtain⟨m3,B⟩:=zh B;obtain⟨b6,B⟩:=zh B;obtain⟨m4,B⟩:=zh B;obtain⟨m5,B⟩:=zh B;obtain⟨Y,a4⟩:=zh B;have ex:=dO m4;subst ex;unfold DV.bt2 at hc;split at hc
  .rename_i c s1 hx;split at hc
   case isFalse=>exact fb hc
   rename_i a1;obtain⟨a5,b4,hok,c0⟩:=a1;have ec:c=d.c:=by
    unfold DV.Tf.tk at a5;cases hh:d.h with
    | sup x' h'=>rw[hh]at Y;exact ff Y
    | _=>rw[hh]at a5;exact iN a5
   subst ec;obtain⟨Cc,hC,hE,hI⟩:=xc.at_ _ b4;obtain⟨g1,g2,g3⟩:=G.gl m5;refine⟨_,(zA (bq4 (X:=(as8 CX0 prog w Γ.K mg base N (f:Str) (defScope st) a Uu A z sh H E).nox) (Γ:=Γ) (Cc:=Cc) (m:=nQ (nj P n) d.xb) (th:=thN d.h) rfl rfl rfl hE g1 hC g2 (λ pn Ww E1 b1=>?_) λ a' oe hcl=>ch8 Y) qt),λ C0 W0 H0 g0 l0 R0 Ea=>?_⟩
   .have G':CG Γ (nj P n) (n+31) ({ (as8 CX0 prog w Γ.K mg base N (f:Str) (defScope st) a Uu A z sh H E).nox with pn:=pn,xe:=Ww }:Cx).nox ⟨N,defScope st,lk⟩:=⟨G.K,G.N,G.nd,rfl,G.calm,G.deep,G.room,G.sc,G.fn,G.bi,G.call,G.con,λ id a6 E' hlk=>by
     obtain⟨c,Pa,params,body,scope,pos,J,eE,L⟩:=G.lam id a6 E' hlk;exact⟨c,Pa,params,body,scope,pos,J,eE,⟨L.code,L.hd,L.bm,L.ck,L.df,L.lg,L.q,L.p,L.b,L.s,L.len,L.at_,L.fr,L.cl,L.tab,L.nd,L.fn,L.kd,L.gs,L.gp,L.gb⟩⟩,G.cl,G.fa,G.cdc,G.ob⟩
    exact ay3 (X:={ (as8 CX0 prog w Γ.K mg base N (f:Str) (defScope st) a Uu A z sh H E).nox with pn:=pn,xe:=Ww }) G' xc XO b1 d.xb tb (.inl m3) (.inl b6) m2
   .refine⟨C0,U0,s0,d.c,s1,Ea,R0,hx,λ C' H' a' Cc' g' l' R' a0=>?_⟩
    replace g':=g0.trans g' l0
    replace l':=aq l0 l'
    have a0:mg (d.c:Str)=al (.ref Cc'):=a0;rw[hC]at a0;cases a0;refine⟨rfl,λ W=>?_⟩;cases hh:d.h with
    | nob b =>
     rw[hh]at hc;obtain⟨C2,Z,l2,b2,r2,R2⟩:=qg (v0:=.T b) R g' R' rfl RV.blI hc;exact k _ C2 H' Z l2 b2 r2 R2
    | rnn =>
     rw[hh]at hc;obtain⟨C2,Z,l2,b2,r2,R2⟩:=qg (v0:=.N) R g' R' rfl RV.nonI hc;exact k _ C2 H' Z l2 b2 r2 R2
    | noe =>
     rw[hh]at hc;intro p hp;obtain⟨gn,Rn⟩:=R'.new (o:=.J []) (u:=.J []) hp rfl λ C' H' g e=>⟨[],e,.nil⟩
     obtain⟨C2,Z,l2,b2,r2,R2⟩:=qg (v0:=.ref s1.length) R (g'.trans gn l') Rn (by unfold nr;simp) (v:=.ref p) (by unfold RV;simp) hc;exact k _ C2 _ Z l2 b2 r2 R2
    | _=>rw[hh]at Y;exact ff Y
  .exact run m1 a4 hc
 simp_all
set_option tactic.hygienic true in
def bO5 (hP:PrOk Γ b3 P mg w) n (Y:jx Γ prog w mg base (nj P n) (n+31))
   id   J   f   cap   B  (b2:Γ.lg id J) (a0:cap.length=J.fr.length) :
  ClOk prog w Γ.K mg base (n+1+31) (λ H=>CloAt H f J cap B) f (spL Γ ((nj P (n+1)).lam id) cap):=by
 obtain⟨L,eL,LG⟩:=hP.lg id J b2;have a2:∀ vs H Q E,spL Γ ((nj P (n+1)).lam id) cap vs H Q E->vs.length=J.ps.length:=λ vs H Q E q=>by
  obtain⟨C,s,cs,l,d,s',R,r,rc,b,bc,hc,k⟩:=q;simp only[nj,eL]at hc;split at hc
  .rename_i hh;rw[r.length,LG.ps];exact hh.1
  .exact fb hc
 have main:∀(A:aV) (Uu:List Env) (sh:af) (H:Hp) (cd:Value) (vs:List V) (Q:VK),Room (n+31) (A.deeper (dE J.qual J.scope sh.heap.objs.size f cd (aW (sh.heap.objs.size+1) J.scope.names B)))->Cells B H->(∀ b o,Γ.K.lookup b=al o->H b=aT)->spL Γ ((nj P (n+1)).lam id) cap vs H Q E0 ->
   ∃ t,PE (aH5 prog w Γ.K mg base (J.ps++J.fr) J.qual J.scope f cd B A Uu sh H) J.body t/\t (vs.map al++cap.map al) (ad0 B H) λ v H'=>(∀ b,isC B b=bY->H' b=aT)->Q v (Put B H H'):=by
  intro A Uu sh H cd vs Q hr z hK q;have G:CG Γ (nj P n) (n+31) (aH5 prog w Γ.K mg base (J.ps++J.fr) J.qual J.scope f cd B A Uu sh H) (ck0 (J.ps++J.fr) J.scope):=by
   refine⟨rfl,rfl,LG.sc.nd,rfl,rfl,?_,hr,λ x k e=>.inl e,λ x e=>?_,hP.bi,Y.1,?_,λ _ _ _ h=>(by cases h),Y.2.1,hP.fa,bz5 hP n,Y.2.2⟩
   .skip
    unfold nF;lia
   .show(J.scope.names.lookup x==al .cell)=bY;rw[e];rfl
   .have:(nj P n).con=P.con:=by cases n<;>rfl
    rw[this];exact hP.con
  refine⟨_,(sE L.body J.body _ (ck0 (J.ps++J.fr) J.scope) G LG.m).1,?_⟩;obtain⟨C,s,cs,l,d,s',R,r,rc,b,bc,hc,k⟩:=q;simp only[nj,eL]at hc;split at hc
  case isFalse=>exact fb hc
  rename_i hh;obtain⟨h1,h2,h3⟩:=hh;rw[ae,ae]at h3;obtain⟨⟨b4,b5⟩,b0⟩:=h3;obtain⟨v0,s1,e1,hc⟩:=aa1 hc;have RD:=R.dropC z b0;have a8:=(RVL.dropC z l vs b4 r).append (RVL.dropC z cs cap b5 rc);refine⟨C,l.map al++cs.map al,s,v0,s1,⟨by simp[r.length,rc.length],λ i x ei=>?_⟩,RD,e1,λ v C1 H1 g1 l1 b1 r1 R1 a1=>?_⟩
  .rw[<-aS,aL]at ei;have a6:(l++cs)[i]?=al x:=by
    simp_all
   obtain⟨u,e3,e4⟩:=a8.get a6;refine⟨ah8 (qJ b bc) a6,u,?_,e4⟩;rw[<-aS,aL,e3];rfl
  .obtain⟨C',g',l',b',r',R'⟩:=qg RD g1 R1 b1 r1 hc;have gp:=Gr.put z a1 hK R' g';obtain⟨gs,Rs⟩:=R'.same (aW4 (H:=H) a1);exact k v C' _ gp l' b' (RV.mono gs d v b' r') Rs
 unfold CloAt;cases q:J.nm with
 | none=>exact bD4 LG.sc a2 a0 (λ pm c' Z us a3=>(LG.bind B .none pm c' Z us a3).1) (λ A Uu sh H cd vs Q hr a4 hK q=>by
   obtain⟨pm,c',Z,_,_,z,_⟩:=a4;exact main A Uu sh H cd vs Q hr z hK q)
 | some p=>exact bE9 LG.sc a2 a0 (λ a5 pm c' Z us a3=>(LG.bind B a5 pm c' Z us a3).2 _ _) (λ A Uu sh H cd vs Q hr a4 hK q=>by
   obtain⟨a5,pm,c',Z,_,_,z,_⟩:=a4;obtain⟨t,h1,h2⟩:=main A Uu sh H cd vs Q hr z hK q;exact⟨_,zA (an9 h1) ax0,h2⟩)
theorem aN4 (B:PrOk Γ a0 P mg w)(hb:∀ y∈a0,bG base y.1 y.2/\BM mg base):∀ n:Nat,jx Γ prog w mg base (nj P n) (n+31)/\XOk Γ prog w Γ.K mg base (nj P n) (n+31)
 | 0=>⟨⟨λ f=>.inl λ l s=>rfl,λ id J f cap Z _ _=>⟨λ A a3 s H us vs Q _ _ _ _ q=>by
   refine wl λ _ ua=>?_;obtain⟨C,s,cs,l,d,s',R,r,rc,b,bc,hc,k⟩:=q;refine ua ?_;cases hc⟩,λ c f Cc h=>B.att c f Cc h,λ _ _=>.inl λ _ _=>rfl,λ _=>.inl λ _ _=>rfl⟩,λ f=>.inl λ l s=>rfl,λ _ _=>.inl λ _ _=>rfl⟩
 | n+1=>by
  obtain⟨ih,XO⟩:=aN4 B hb n;refine⟨⟨λ f=>?_,λ id J f cap Z Uu Y=>bO5 B n ih id J f cap Z Uu Y,ck4 B hb n ih⟩,λ f=>?_,λ c m=>?_⟩
  .cases e:P.df f with
   | none =>
    cases e2:P.tf f with
    | none=>exact .inl λ l s=>by simp only[nj,e,e2]
    | some d =>
     obtain⟨st,N,ps,a,fd,lk,hD,hS,Uu,Y,hm,hL⟩:=B.tf f d e2;exact .inr ⟨a,fd,ps,bR1 B hb n ih XO e e2 hD hS Uu Y hm hL,hD.mg,hD.fn.kp,hD.bi⟩
   | some d =>
    obtain⟨st,N,ps,a,fd,lk,hD,hS,Uu,Y,hm,hL⟩:=B.df f d e;exact .inr ⟨a,fd,ps,bV9 B hb n ih e hD hS Uu Y hm hL,hD.mg,hD.fn.kp,hD.bi⟩
  .cases e:P.xf f with
   | none=>exact .inl λ l s=>by simp only[nj,e]
   | some d =>
    refine wl λ _ ua=>?_;obtain⟨st,N,ps,a,fd,lk,hD,hS,Uu,Y,hm,hL⟩:=B.xf f d e;exact ua $ .inr ⟨a,fd,ps,ca1 B hb n ih XO e hD hS Uu Y hm hL,hD.mg,hD.fn.kp,hD.bi⟩
  .cases e:P.mx c m with
   | none=>exact .inl λ l s=>by simp only[nj,e]
   | some d =>
    refine wl λ _ ua=>?_;obtain⟨st,N,ps,a,fd,Cc,hc,a1,hD,a4,hS,Uu,Y,a2⟩:=B.mx c m d e;refine ua ?_;refine .inr ⟨Cc,a,fd,ps,hc.1,hc.2,a1,?_,a4⟩;have z:(nj P (n+1)).xm c m=λ l s=>if l.length=d.ps then nQ (nj P n) d.body (l.map al++aA d.vs aT) s else none:=by funext l s;simp only[nj,e]
    rw[z];exact bc5 B hb n ih XO hD hS Uu Y a2 aE0
def bP3 (z:PrOk Γ h P mg w)(hb:∀ y∈h,bG base y.1 y.2/\BM mg base) n :jx Γ prog w mg base (nj P n) (n+31):=(aN4 z hb n).1
def spT (Γ:Gm):Sp:=λ vs H Q _=>∃(a:Addr) (ns:List Int),vs=[.ref a]/\SqF Γ.K H a (ns.map V.int)/\ns.length<=63/\TabsH Γ.T H/\∀ H',Q (.T bY) H'
theorem aM4 :∀ ns:List Int,RVL Γ C H (ns.map DV.D.int) (ns.map V.int)
 | []=>.nil
 | n::ns=>.cons RV.intI (aM4 ns)
theorem aA5 :∀ ns:List Int,nh m (ns.map DV.D.int)=bY
 | []=>rfl
 | n::ns=>by rw[aR];unfold nh;rw[aA5 ns];rfl
def cd7 (h:∀ ns:List Int,ns.length<=63->∃ s',(nj P k).call "law" [.ref 0] [.ro (ns.map DV.D.int)]=.ok (.T bY) s') vs  H  Q  E (q:spT Γ vs H Q E):spV Γ ((nj P k).call "law") vs H Q E:=by
 obtain⟨a,ns,rfl,z,J,hT,B⟩:=q;obtain⟨s',hs⟩:=h ns J;refine⟨λ _=>a,[.ro (ns.map DV.D.int)],[.ref 0],.T bY,s',⟨λ i j o Uu e e' m m' _=>?_,λ i o e=>?_,λ i o e=>?_,hT⟩,.cons RV.refI .nil,?_,hs,λ v C' H' g l b r R=>?_⟩
 .cases i with
  | zero=>cases e;cases m
  | succ i=>cases e
 .cases i with
  | zero=>cases e;exact⟨_,z,aM4 ns⟩
  | succ i=>cases e
 .cases i with
  | zero=>cases e;unfold nu;exact aA5 ns
  | succ i=>cases e
 .unfold nh nr nh;rfl
 .rw[r.blE];exact B H'
theorem aP9 :∀ {tbl:List (String×n8)},(∀ p∈tbl,Good Γ z mg p.1 p.2)->∀ f d,tbl.lookup f=al d->Good Γ z mg f d
 | [],_,f,d,h=>by cases h
 | (g,e)::tbl,H,f,d,h=>by
  rw[bh]at h;cases q:f==g with
  | true =>
   simp_all
  | false =>
   rw[q]at h;exact aP9 (λ p B=>H p (ah _ B)) f d h
def bt0 (Γ:Gm)(mg:yD)(x:String)(d:ng):Prop:=∃ v u,mg (x)=al u/\RelV v u/\(∀ m,d.bnd m=bY)/\∀ C H,RV Γ C H d v
theorem bb8 :∀ {tbl:List (String×ng)},(∀ p∈tbl,bt0 Γ mg p.1 p.2)->∀ f d,tbl.lookup f=al d->bt0 Γ mg f d
 | [],_,f,d,h=>by cases h
 | (g,e)::tbl,H,f,d,h=>by
  rw[bh]at h;cases q:f==g with
  | true =>
   simp_all
  | false =>
   rw[q]at h;exact bb8 (λ p z=>H p (ah _ z)) f d h
def ap0 (h:mg (x:Str)=al (.int i t)):bt0 Γ mg x (.int i):=⟨.int i,_,h,⟨t,rfl⟩,λ _=>rfl,λ _ _=>RV.intI⟩
inductive ConV (Γ:Gm):ng->Value->Prop where
 | int (i:Int) (t:Tok):ConV Γ (.int i) (.int i t)
 | str (x:List Nat) (t:Tok) (h:x.length<=1000):ConV Γ (.str x) (.str ⟨x.toArray⟩ t)
inductive ConL (Γ:Gm):List ng->List Value->Prop where
 | nil:ConL Γ [] []
 | cons {d v l vs} (a:ConV Γ d v) (b:ConL Γ l vs):ConL Γ (d::l) (v::vs)
def bE6 {its:yH}(h:mg (x:Str)=al (.ref a))(hk:Γ.K.lookup a=al o)(hc:o.cls=.type "tuple")(hd:o.data=.seq its.toArray n)(hz:its.length<=1000)
  (Z:ConL Γ l its) (Y:autoParam (nD l=ce) Zq4._auto_1):bt0 Γ mg x (.tp l):=by
 have key:∃ B,Vals B its/\(∀ m,nh m l=bY)/\∀ C H,RVL Γ C H l B:=by
  clear hd hz Y
  induction Z with
  | nil=>exact⟨[],.nil,λ _=>rfl,λ _ _=>.nil⟩
  | cons a b ih =>
   obtain⟨B,J,Uu,h3⟩:=ih;cases a with
   | int i t=>exact⟨.int i::B,.cons ⟨t,rfl⟩ J,λ m=>by unfold nh;rw[Uu];rfl,λ C H=>.cons RV.intI (h3 C H)⟩
   | str x t h=>exact⟨.str ⟨x.toArray⟩::B,.cons ⟨t,rfl⟩ J,λ m=>by unfold nh;rw[Uu];rfl,λ C H=>.cons (RV.strI (by unfold nv;omega)) (h3 C H)⟩
 obtain⟨B,J,Uu,h3⟩:=key;refine⟨.ref a,_,h,rfl,λ m=>by unfold nr;exact Uu m,λ C H=>RV.tupC (.inr ⟨o,its.toArray,n,hk,hc,hd,?_,J⟩) (λ z=>by lia) (h3 C H)⟩;rw[aJ];exact aP7 hz
end
def aR9 {K:ac}{mg mb:yD}{vs:yH}{tabs:yG}
  (KX:K.In B.heap) (b0:B.heap.Ns aU mg) (hb:B.heap.Ns g9 mb) (c2:∀ x:Str,x ≠ "__name__"->mb x=cf x) (a5:B.heap.NoLimit) (hg:B.gens=#[]) (c0:BM mg B.heap) (hT:lN tabs B.heap) (d2:lO K=bY)
  (ha:B.heap.get? a=al { cls:=.type "list",data:=.seq vs.toArray }) (hi:lA vs ns) (hl:ns.length<=a7) (hr:Room k i9)
  (F:∀ base:Heap,K.In base->base.Ns aU mg->BM mg base->(∀ q∈tabs,bG base q.1 q.2)->FnOk P w K mg base CX0 k fa fd [x] sp) (a3:∀(s:af) (u:Value),lz s fd ⟨[u],[]⟩ [(x,u)])
  (d0:∀ H:Hp,(∀ q∈tabs,H q.2=al (.tbl #[]))->SqL K H a (ns.map V.int)->(∀ u,H a=al u->(∃ o xs,u=.frz o (.J xs))\/∃ ps,u=.tbl ps)->sp [.ref a] H (λ v _=>v=.T bY) E0) :
  fF (model P w) i9 (.call (.ref fa) ⟨[.ref a],[]⟩) (λ r s'=>r=.ok (.ret (.bool bY))/\OldK B.heap s'.heap/\s'.os=B.os/\fY s'.gens) B:=by
 have rv:=aB5 hi;have a8:=hi.length;have J:∀ b,b∈tabs.map (·.2)->B.heap.get? b=al (ft #[]):=λ b h=>by
  obtain⟨q,hq,rfl⟩:=ao.mp h;exact(hT q hq).2
 have a0:∀ H:Hp,(∀ b u,H b=al u->(b=a/\∃ o xs,u=.frz o (.J xs))\/(b∈tabs.map (·.2)/\u=.tbl #[]))->(∀ q∈tabs,H q.2=al (.tbl #[]))->SqL K H a (ns.map V.int)->HOk P w H B.heap->(H a≠aT->K.lookup a=aT) ->
   fF (model P w) i9 (.call (.ref fa) ⟨[.ref a],[]⟩) (λ r s'=>r=.ok (.ret (.bool bY))/\OldK B.heap s'.heap/\s'.os=B.os/\fY s'.gens) B:=by
  intro H hO c1 hS hok hK;have un:∀ b o,B.heap.get? b=al o->o.cls≠.type "list"->(∀ vs,o.data≠.fields vs)->H b=none:=λ b o e n1 n2=>by
   cases q:H b with
   | none=>rfl
   | some u =>
    rcases hO b u q with⟨z,_⟩|⟨z,_⟩
    .rw[z,ha]at e;cases e;exact iS rfl n1
    .rw[J b z]at e;cases e;exact iS rfl (n2 #[])
  have Y:∀ {b:Addr} {m:yD},B.heap.Ns b m->(bk8 B.heap H).Ns b m:=λ {b m} ⟨o,es,ep,e,d,r⟩=>by
   refine⟨o,es,ep,am7 e ?_,d,r⟩;cases q:H b with
   | none=>rfl
   | some u =>
    rcases hO b u q with⟨z,_⟩|⟨z,_⟩
    .rw[z,ha]at e;cases e;cases d
    .rw[J b z]at e;cases e;cases d
  have a4:K.In (bk8 B.heap H):=λ b o e=>am7 (KX b o e) (by
   cases q:H b with
   | none=>rfl
   | some u =>
    rcases hO b u q with⟨z,_⟩|⟨z,_⟩
    .lia
    .have e2:=KX b o e;rw[J b z]at e2;have h2:=aI.mp d2 (b,o) (PySem.W.mem_of_lookupK e);have e3:o=ft #[]:=(av e2).symm;subst e3;exact iS (show ce=bY from h2) br)
  have hM:Mod K mg (bk8 B.heap H):=⟨a4,Y b0,⟨mb,Y hb,c2⟩,let⟨mc,h1,h2⟩:=a5;⟨mc,Y h1,h2⟩⟩
  have c3:BM mg (bk8 B.heap H):=by
   obtain⟨bm,ob,b1,b2,b3,b4,b5,b6⟩:=c0;exact⟨bm,ob,b1,b2,am7 b3 (un bm ob b3 (by lia) (by simp_all)),b4,b5,b6⟩
  have c5:∀ q∈tabs,bG (bk8 B.heap H) q.1 q.2:=λ q hq=>by
   obtain⟨o,d1,a6,tf,a1,tg,c4,text,tt,e1,r1,r2⟩:=(hT q hq).1;refine⟨o,d1,a6,tf,a1,tg,c4,text,tt,am7 e1 ?_,r1,r2⟩;cases q2:H q.1 with
   | none=>rfl
   | some u =>
    rcases hO _ u q2 with⟨z,_⟩|⟨z,_⟩
    .rw[z,ha]at e1;cases e1;exact iS r1 (by simp)
    .rw[J _ z]at e1;cases e1;exact iS r1 (by simp)
  have e0:Env0 P w K mg (bk8 B.heap H) i9 [] B H:=⟨rfl,hM,λ b o e=>bP5 e,mw (bd5 _ _),trivial,λ b hb=>iS (show b∈([]:List Addr)from hb) (by simp),hok,.of_eq hg⟩
  refine fg ((F _ a4 (Y b0) c3 c5).run i9 [] B H ⟨[.ref a],[]⟩ [.ref a] [.ref a] _ _ hr e0 (a3 B (.ref a)) (.cons rfl .nil) (d0 H c1 hS (λ u e=>(hO a u e).elim (λ z=>.inl z.2) (λ z=>.inr ⟨_,z.2⟩)))) λ r s' h=>?_;cases r with
  | error e=>exact bn h
  | ok fl =>
   cases fl with
   | next=>exact bn h
   | brk=>exact bn h
   | cont=>exact bn h
   | ret u =>
    obtain⟨v,H',os,bare,a2,Z,r',q⟩:=h;have q':v=.T true:=q;subst q';obtain rfl:u=Value.bool true:=r';have key:∀ b o,B.heap.get? b=al o->asItWas B.heap s'.heap b o/\∃ o',s'.heap.get? b=al o':=λ b o e=>by
     cases q:H b with
     | none =>
      have z:=a2.keep b o e q (by intro z;exact iS (show b∈([]:List Addr)from z) (by simp)) (by simp);exact⟨.inl z,o,z⟩
     | some u =>
      rcases hO b u q with⟨_,ob,xs,z⟩|⟨z,z2⟩
      .subst z;have z2:=a2.frzs b ob _ q;obtain⟨e1,_⟩:=hok b _ q;obtain⟨e2,_⟩:=Z b _ z2;rw[e]at e1;cases e1;exact⟨.inl e2,_,e2⟩
      .subst z2;obtain⟨more,z3⟩:=a2.tbls b _ q;have g:s'.heap.get? b=al { cls:=.none,data:=.fields (#[]++more) }:=Z b _ z3;have e1:=J b z;rw[e]at e1;cases e1;obtain⟨p,hp,ep⟩:=ao.mp z;refine⟨.inr (.inl ⟨?_,rfl,#[],more,rfl,g⟩),_,g⟩;have t:=((hT p hp).1.tab (hT p hp).2).isCodeTable
       simp_all
    exact⟨rfl,⟨λ b o e=>(key b o e).1,λ b o e=>(key b o e).2⟩,os,bare⟩
 have tbl:∀ b,b∈tabs.map (·.2)->b≠a:=λ b h z=>by
  grind
 cases hk:K.lookup a with
 | some o =>
  have e:=KX a o hk;rw[ha]at e;cases e;refine a0 (λ b=>if b∈tabs.map (·.2)then al (.tbl #[])else aT) (λ b u z=>?_) (λ q hq=>ef (bv hq)) (.inr ⟨_,vs.toArray,_,hk,rfl,rfl,rfl,by simp_all,by simp_all⟩) (λ b u z=>?_) λ z=>?_
  .by_cases hb:b∈tabs.map (·.2)
   .have Uu:=(ef hb).symm.trans z;cases Uu;exact .inr ⟨hb,rfl⟩
   .have Uu:=(gc hb).symm.trans z;cases Uu
  .by_cases hb:b∈tabs.map (·.2)
   .have Uu:=(ef hb).symm.trans z;cases Uu;exact J b hb
   simp_all
  .exact iS (gc λ y=>tbl a y rfl) z
 | none =>
  refine a0 (λ b=>if b=a then al (.frz { cls:=.type "list",data:=.seq vs.toArray } (.J (ns.map V.int)))else if b∈tabs.map (·.2)then al (.tbl #[])else aT) (λ b u z=>?_) (λ q hq=>?_) (.inl (.inr ⟨{ cls:=.type "list",data:=.seq vs.toArray },ef rfl⟩)) (λ b u z=>?_) λ _=>hk
  .by_cases hb:b=a
   .have Uu:=(ef hb).symm.trans z;cases Uu;exact .inl ⟨hb,_,_,rfl⟩
   .have Uu:=(gc hb).symm.trans z;by_cases hc:b∈tabs.map (·.2)
    .rw[ef hc]at Uu;cases Uu;exact .inr ⟨hc,rfl⟩
    .rw[gc hc]at Uu;cases Uu
  .have hm:q.2∈tabs.map (·.2):=bv hq;show(if _ then _ else if _ then _ else _)=_;rw[gc (tbl _ hm),ef hm]
  .by_cases hb:b=a
   .have Uu:=(ef hb).symm.trans z;cases Uu;subst hb;exact⟨ha,by simp_all,vs,_,rv,ha⟩
   .have Uu:=(gc hb).symm.trans z;by_cases hc:b∈tabs.map (·.2)
    .rw[ef hc]at Uu;cases Uu;exact J b hc
    .rw[gc hc]at Uu;cases Uu
def bk6 {l:dF}{loose:yI}{K:Params->ac}{sp:ac->Sp} names 
  (hn:l.most=al n) (a2:n<=a7) (a0:d.params.defaults=[]) (hr:Room k i9)
  (hY:∀(w:World) (h:Heap),YP w h->(K w.params).In h/\∀ P∈ts,h.get? P=al (ft #[])) (Uu:∀ w:World,bT4 (K w.params) names ts=bY) (a3:∀ w:World,lO (K w.params)=bY)
  (F:∀(w:World) (mg:yD) (fa:Addr) (h:Heap),(K w.params).In h->h.Ns aU mg->mg d.name=al (.ref fa) ->
   ∃ fd:bK,(∀(s:af) (u:Value),lz s fd ⟨[u],[]⟩ [(x,u)]) /\
    ∀ base:Heap,(K w.params).In base->base.Ns aU mg->BM mg base->bO1 (K w.params) names base->FnOk l.prog w (K w.params) mg base CX0 k fa fd [x] (sp (K w.params)))
  (a5:∀(K:ac) (H:Hp) (a:Addr) (ns:List Int),ns.length<=n->bF2 K names H->SqL K H a (ns.map V.int)->(∀ u,H a=al u->(∃ o xs,u=.frz o (.J xs))\/∃ ps,u=.tbl ps)->sp K [.ref a] H (λ v _=>v=.T bY) E0) :
  lT q loose XP YP l.row.toRowW d [] (λ f vs=>lC f vs):=by
 refine Att.attach_call hn a0 λ w s₀ s₁ mg mb fa o pm cd a6 a vs ns G Y ho hd a8 a1 Z J B hg=>?_;obtain⟨KX,a4⟩:=hY w _ Y;obtain⟨fd,hb,hF⟩:=F w mg fa _ KX G.T.g a1;have hT:lN ((aE3 (K w.params) names).map (·.2)) s₁.heap:=λ p hp=>by
  obtain⟨y,hy,rfl⟩:=ao.mp hp;obtain⟨h1,h2⟩:=at4.mp hy;have z:=aI.mp (Uu w) y.1 h1;rw[h2]at z;have z':(kY (K w.params) y.2.1 y.2.2&&ts.contains y.2.2)=true:=z;rw[ae]at z';exact⟨PySem.W.codeHd_of_K KX z'.1,a4 _ (by simpa using z'.2)⟩
 have hm:∀ x∈names,∀ c P,bB (K w.params) x=al (c,P)->(c,P)∈(aE3 (K w.params) names).map (·.2):=λ x hx c P e=>ao.mpr ⟨(x,c,P),at4.mpr ⟨hx,e⟩,rfl⟩;refine aR9 (tabs:=(aE3 (K w.params) names).map (·.2)) KX G.T.g G.T.b G.T.builtins G.T.nolimit hg ?_ hT (a3 w) Z J (aq B a2) hr (λ base k1 k2 k3 k4=>hF base k1 k2 k3 λ x hx c P e=>k4 _ (hm x hx c P e)) hb λ H hO hS hF=>a5 (K w.params) H a ns B (λ x hx c P e=>hO _ (hm x hx c P e)) hS hF;obtain⟨bm,ob,h1,h2,h3,h4,h5,h6⟩:=G.T.bmain;exact⟨bm,ob,h1,h2,h3,h4,h5,h6⟩
def spB (names:yI)(K:ac):Sp:=λ vs H Q _=>∃(a:Addr) (ns:List Int),vs=[.ref a]/\SqF K H a (ns.map V.int)/\ns.length<=63/\bF2 K names H/\∀ H',Q (.T bY) H'
def bV5 {K}{ns:List Int}(Z:ns.length<=63)(Y:bF2 K names H)(B:SqL K H a (ns.map V.int))(J:∀ u,H a=al u->(∃ o Uu,u=.frz o (.J Uu))\/∃ ps,u=.tbl ps):spB names K [.ref a] H (λ v _=>v=.T bY) E0:=by
 refine⟨a,ns,rfl,⟨B,λ H' k=>?_⟩,Z,Y,λ _=>rfl⟩;rcases B with(h|⟨o,h⟩)|h
 .simp_all
 .exact .inl (.inr ⟨o,k _ _ h rfl⟩)
 .exact .inr h
def cu3 (P:nB):String->LamI->Prop:=λ id J=>∃ L,P.lm id=al L/\LamGood J L
noncomputable def sfx (x:Str):Str:=if x = "letter_table" then "least_fee" else "<lambda>"
def bE0 (names:yI)(K:ac):List (Addr×Str):=names.map λ x=>(((bB K x).getD (0,0)).2,x ++ ".<locals>."++sfx x)
noncomputable def bK6 (names:yI)(K:ac):List (Addr×Addr):=names.map λ x=>(bB K x).getD (0,0)
noncomputable def cj3 (K:ac)(f:String):Option Addr:=match bC K aU (f)with
 | some (al (.ref a))=>(match K.lookup a with
  | some ⟨_,_,.func _,_⟩=>al a
  | _=>aT)
 | _=>aT
set_option tactic.hygienic true in
def aO2 {K}(h:cj3 K f=al a):bC K aU (f)=al (al (.ref a))/\∃ oc od z sl,K.lookup a=al ⟨oc,od,.func z,sl⟩:=by
 unfold cj3 at h;split at h
 .rename_i B e;split at h
  .rename_i oc od z sl e2;cases h;exact⟨e,_,_,_,_,e2⟩
  .cases h
 .cases h
noncomputable def aJ0 (P:nB)(K:ac)(c:String):Option Addr:=match P.mt c "__init__" with
 | some _=>(match bC K aU (c)with|some (al (.ref Cc))=>al Cc|_=>aT)
 | none=>aT
abbrev aJ3 (names:yI)(P:nB)(K:ac):Gm:=⟨K,cj3 K,cu3 P,bE0 names K,aJ0 P K⟩
def cn0 {K}{mg:yD}(X:K.In h)(G:h.Ns aU mg):∀ f   a ,(aJ3 names P K).fa f=al a->mg (f)=al (.ref a)/\∃ oc od z sl,(aJ3 names P K).K.lookup a=al ⟨oc,od,.func z,sl⟩:=λ f a e=>⟨bV X G (aO2 e).1,(aO2 e).2⟩
def bo7 {K}(ht:∀ x∈names,(bB K x).isSome=bY)(q:spB names K vs H Q E):spT (aJ3 names P K) vs H Q E:=by
 obtain⟨a,ns,e,B,Uu,J,z⟩:=q;refine⟨a,ns,e,B,Uu,TabsH.init λ p h=>?_,z⟩;simp only[bE0,cz]at h;obtain⟨x,hx,rfl⟩:=ao.mp h;exact J x hx _ _ (az7 (ht x hx))
def bx6 {K}(ht:∀ x∈names,(bB K x).isSome=bY)(bm:BM mg base)(hc:bO1 K names base):∀ y∈bK6 names K,bG base y.1 y.2/\BM mg base:=λ y hy=>by
 obtain⟨x,hx,rfl⟩:=ao.mp hy;exact⟨hc x hx _ _ (az7 (ht x hx)),bm⟩
def ao5 {ps:yI}(h:lamArgs p=al ps):∃ args,p=⟨[],args,aT,[],[],aT,[]⟩/\args.map (·.arg)=ps:=by
 unfold lamArgs at h;split at h
 .exact⟨_,rfl,av h⟩
 .cases h
def bg0 (ps:yI):Prop:=∀ params,lamArgs params=al ps->∀ qual   body   scope  (clos:yC)  doc pm   c'   ctv  (us:yH),us.length=ps.length->eM (cx "<lambda>" qual params body scope clos pm (.ref c') ctv) ⟨us,[]⟩=pure (ps.zip us) /\
 ∀ nm   rp ,eM (cV nm qual params [.Return (al body) rp] scope clos .none .none doc pm aT (.ref c') ctv) ⟨us,[]⟩=pure (ps.zip us)
noncomputable def bh2 (ps fr:yI)(sc:Scope):Bool:=decide (sc.kind=.function)&&!sc.isCoroutine&&!sc.isGenerator&&decide ((ps++fr).Nodup)&&(ps.all λ x=>decide (sc.names.lookup x=al .local)||decide (sc.names.lookup x=al .cell))&&(fr.all λ x=>decide (sc.names.lookup x=al .free))&&(sc.names.all λ y=>!decide (y.2=.cell)||decide (sc.names.lookup y.1=al .cell))
def bi9 (h:bh2 ps fr sc=bY):LamScope (ps++fr) ps fr sc:=by
 unfold bh2 at h;simp only[ae,li,fv,aI,b7]at h;obtain⟨⟨⟨⟨⟨⟨B,Uu⟩,h3⟩,h4⟩,Y⟩,Z⟩,J⟩:=h;exact⟨B,Uu,h3,h4,rfl,Y,Z,λ y hy e=>by
  grind⟩
noncomputable def bR2 (scope sc:Scope):Bool:=scope.names.all λ y=>!decide (scope.names.lookup y.1=al .free)||decide (sc.names.lookup y.1=al .cell)
def bl8 (h:bR2 scope sc=bY):∀ x,scope.names.lookup x=al .free->sc.names.lookup x=al .cell:=λ x hx=>by
 have:=aI.mp h (x,.free) (aK hx);lia
def lkB (sc:Scope)(N:yI)(caps:List Nat)(params:bD)(body:Expr)(scope:Scope)(t:oN×List Str×List Str):Bool :=
 decide (lamArgs params=al t.2.1)&&decide (caps.map (λ j=>N[j]?)=t.2.2.map al)&&lamCheck scope sc&&bR2 scope sc&&bh2 t.2.1 t.2.2 scope&&decide (t.2.1.length=t.1.ps)&&decide (t.2.2.length=t.1.cs)&&mE (ck0 (t.2.1++t.2.2) scope) t.1.body body
def lkG (f:Str)(sc:Scope)(N:yI)(tab:List (String×oN×List Str×List Str))(id:String)(caps:List Nat)(E:Expr):Bool:=match tab.lookup id,E with
 | some t,.Lambda params body scope _=>decide (sfx f = "<lambda>")&&lkB sc N caps params body scope t
 | some t,.NamedExpr (.Name nm _) (.Lambda params body scope p1) p2=>decide (sfx f=nm)&&decide (p1=p2)&&lkB sc N caps params body scope t
 | _,_=>ce
set_option tactic.hygienic true in
def bK4 {K}(hf:f∈names)(J:fd.code=.ref ((bB K f).getD (0,0)).1)(a0:∀ y∈sc.names,y.2=.cell->sc.names.lookup y.1=al .cell)
  (Y:∀ Uu t,tab.lookup Uu=al t->P.lm Uu=al t.1/\bg0 t.2.1):bl1 (aJ3 names P K) (bK6 names K) f sc N fd (lkG f sc N tab):=by
 intro Uu z E h;have B:∀ t   params   body   scope   nm ,tab.lookup Uu=al t->lkB sc N z params body scope t=bY->(match nm with|none => "<lambda>" | some p=>p.1)=sfx f ->
   LkAt (aJ3 names P K) (bK6 names K) f sc N fd Uu z params body scope ((bB K f).getD (0,0)).1 ((bB K f).getD (0,0)).2 ⟨f ++ ".<locals>."++sfx f,params,body,scope,t.2.1,t.2.2,nm⟩:=λ t params body scope nm e h hs=>by
  obtain⟨L,ps,fr⟩:=t;unfold lkB at h;simp only[ae,li]at h;obtain⟨⟨⟨⟨⟨⟨⟨h1,h2⟩,h3⟩,h4⟩,h5⟩,h6⟩,h7⟩,h8⟩:=h;obtain⟨hL,hB⟩:=Y Uu _ e;obtain⟨args,rfl,a1⟩:=ao5 h1;have Z:=by have:=congrArg iT h2;simpa using this.symm
  have S:=bi9 h5;refine⟨J,ao.mpr ⟨f,hf,rfl⟩,h3,bl8 h4,a0,λ env=>rfl,⟨L,hL,⟨S,h6,h7,h8,h1,λ a3 a4 pm c' a5 us a2=>hB _ h1 _ _ _ _ _ _ _ _ _ a2⟩⟩,?_,rfl,rfl,rfl,Z,λ i j x e1 e2=>?_,S.frs,ao.mpr ⟨f,hf,rfl⟩⟩
  .skip
   unfold LamI.own;rw[<-hs]<;>rfl
  .have e3:(z.map (λ j=>N[j]?))[i]?=al (N[j]?):=by rw[aL,e1];rfl
   simp_all
 unfold lkG at h;split at h
 case h_3=>cases h
 .rename_i t params body scope pos e;rw[ae]at h;exact⟨_,_,params,body,scope,pos,_,rfl,B t params body scope aT e h.2 (dO h.1).symm⟩
 .rename_i t nm rp params body scope p1 p2 e;rw[ae,ae]at h;have ep:=dO h.1.2;subst ep;exact⟨_,_,params,body,scope,p1,_,rfl,B t params body scope (al (nm,rp)) e h.2 (dO h.1.1).symm⟩
def bj3 {K}:bl1 (aJ3 names P K) (bK6 names K) f sc N z (λ _ _ _=>ce):=λ _ _ _ h=>by cases h
def cm1 {K}:∀ z J,(aJ3 names P K).lg z J->∃ L,P.lm z=al L/\LamGood J L:=λ _ _ h=>h
def ci6 {P:nB}{tab:List (String×oN×List Str×List Str)}(h:∀ p∈tab,P.lm p.1=al p.2.1/\bg0 p.2.2.1):∀ z t,tab.lookup z=al t->P.lm z=al t.1/\bg0 t.2.1:=by
 induction tab with
 | nil=>simp_all
 | cons y l ih =>
  intro z t e;rw[bh]at e;cases q:z==y.1 with
  | true =>
   simp_all
  | false =>
   rw[q]at e;exact ih (λ p B=>h p (ah _ B)) z t e
def ch4 (K:ac)(n:Str)(st:Stmt):Prop:=∃(f:Addr) (od an:yJ) (sl:yF) (oc kV dc pm cd ct:Value),bC K aU n=al (al (.ref f)) /\
 K.lookup f=al ⟨oc,od,.func (cR n n (defArgs st) (defBody st) (defScope st) .none kV dc pm an cd ct),sl⟩/\fj K cd n=bY/\bJ K (.ref f)=bY
def cp0 (n:Str)(st:Stmt)(ps:yI):Prop:=∀ kV doc pm  (an:yJ)  cdv ct  (us:yH),us.length=ps.length->eM (cR n n (defArgs st) (defBody st) (defScope st) .none kV doc pm an cdv ct) ⟨us,[]⟩=pure (ps.zip us)
def bd0 {Q:List Value->Prop}(h:Q [])(us:yH)(z:us.length=0):Q us:=by
 simp_all
def bdS {Q:List Value->Prop}(h:∀ a us,us.length=k->Q (a::us))(us:yH)(z:us.length=k+1):Q us:=by
 cases us with
 | nil=>cases z
 | cons a us=>exact h a us (Nat.succ.inj z)
def bd1 {Q:List Value->Prop}(h:∀ a,Q [a]):∀ us:List Value,us.length=1->Q us:=bdS λ a=>bd0 (h a)
def bd2 {Q:List Value->Prop}(h:∀ a b,Q [a,b]):∀ us:List Value,us.length=2->Q us:=bdS λ a=>bd1 (h a)
def bd3 {Q:List Value->Prop}(h:∀ a b c,Q [a,b,c]):∀ us:List Value,us.length=3->Q us:=bdS λ a=>bd2 (h a)
def DTB (names:yI)(P:nB)(n:String)(pc vc:Nat)(m:Ck->List Stmt->Bool)(st:Stmt):Prop:=∃ N ps,FnScope N ps (defScope st)/\ps.length=pc/\N.length=pc+vc/\cp0 n st ps/\(m ⟨N,defScope st,λ _ _ _=>ce⟩ (defBody st)=bY \/
 ((n:Str)∈names/\∃ tab,m ⟨N,defScope st,lkG n (defScope st) N tab⟩ (defBody st)=bY/\(∀ y∈(defScope st).names,y.2=.cell->(defScope st).names.lookup y.1=al .cell)/\∀ p∈tab,P.lm p.1=al p.2.1/\bg0 p.2.2.1))
def DT (names:yI)(P:nB)(n:String)(d:n8)(st:Stmt):Prop:=DTB names P n d.ps d.vs (λ ck S=>mSs ck d.body S) st
def ay9 {names:yI}{P:nB}{K:ac}{h:Heap}{mg:yD}{n:String}{J Y:Nat}{m:Ck->List Stmt->Bool}{st:Stmt}(X:K.In h)(G:h.Ns aU mg)(hT:∀ x∈names,(bB K x).isSome=bY)(hD:ch4 K n st)(hd:DTB names P n J Y m st):GoodB (aJ3 names P K) (bK6 names K) mg n J Y m:=by
 refine wl λ _ ua=>?_;obtain⟨f,od,an,sl,oc,kV,dc,pm,cd,ct,a,l,c,k⟩:=hD;obtain⟨N,ps,B,Uu,h3,Z,z⟩:=hd;have F:=aP5 (st:=st) l c k;have D:DefAt K mg n st ps f _:=⟨F,bV X G a,F.binds Z⟩
 refine ua ?_;rcases z with z|⟨hn,tab,z,h6,h7⟩
 .exact⟨_,_,_,_,_,_,D,B,Uu,h3,z,bj3⟩
 .exact⟨_,_,_,_,_,_,D,B,Uu,h3,z,bK4 hn (PySem.W.law_code X G (az7 (hT _ hn)) (bV X G a) (X _ _ l) rfl) h6 (ci6 h7)⟩
def good_of {K}{mg}{n:String}{st}(X:K.In h)(G:h.Ns aU mg)(hT:∀ x∈names,(bB K x).isSome=bY)(hD:ch4 K n st)(hd:DT names P n d st):Good (aJ3 names P K) (bK6 names K) mg n d:=ay9 X G hT hD hd
theorem aJ5 {α:Type}{Q:String->α->Prop}:∀ {tbl:List (String×α)},(∀ p∈tbl,Q p.1 p.2)->∀ f d,tbl.lookup f=al d->Q f d
 | [],_,f,d,h=>by cases h
 | (g,e)::tbl,H,f,d,h=>by
  rw[bh]at h;cases q:f==g with
  | true =>
   simp_all
  | false =>
   rw[q]at h;exact aJ5 (λ p z=>H p (ah _ z)) f d h
def cr4 (K:ac)(c:String):Bool:=match bC K aU (c)with|some (al (.ref Cc))=>cn7 K Cc&&(excI K Cc&&(cL K (.ref Cc) (.ref Cc)==al bY&&(cG K (.ref Cc) (.type "ValueError")==al bY&&bC K aU ("ValueError")==al aT)))|_=>ce
noncomputable def cq6 (K:ac)(c:String):Bool:=match bC K aU (c)with|some (al (.ref _))=>bY|_=>ce
noncomputable def cp2 (K:ac)(c d:String):Bool:=match bC K aU (c),bC K aU (d)with|some (al (.ref Cc)),al (al (.ref D))=>cG K (.ref Cc) (.ref D)==al (nR c d)&&cL K (.ref Cc) (.ref D)==al (nR c d)|_,_=>ce
def bD1 (K:ac)(cs ts:List String):Bool:=cs.all (cr4 K)&&(ts.all (cq6 K)&&cs.all λ c=>ts.all λ d=>cp2 K c d)
set_option tactic.hygienic true in
def an6 {K:ac}{mg:yD}(X:K.In h)(G:h.Ns aU mg)(hx:bD1 K cs ts=bY) :
  (∀ c:String,cs.contains c=bY->∃ Cc,mg (c:Str)=al (.ref Cc)/\ExcCls K Cc/\excI K Cc=bY)/\(∀ c:String,ts.contains c=bY->∃ Cc,mg (c:Str)=al (.ref Cc)) /\
  (∀(c d:String) (Cc D:Addr),cs.contains c=bY->ts.contains d=bY->mg (c:Str)=al (.ref Cc)->mg (d:Str)=al (.ref D)->cG K (.ref Cc) (.ref D)=al (nR c d)) /\
  (∀(c d:String) (Cc D:Addr),cs.contains c=bY->ts.contains d=bY->mg (c:Str)=al (.ref Cc)->mg (d:Str)=al (.ref D)->cL K (.ref Cc) (.ref D)=al (nR c d)) /\
  (∀(c:String) (Cc:Addr),cs.contains c=bY->mg (c:Str)=al (.ref Cc)->cL K (.ref Cc) (.ref Cc)=al bY)/\(∀ c:String,cs.contains c=bY->mg ("ValueError":Str)=aT) /\
  ∀(c:String) (Cc:Addr),cs.contains c=bY->mg (c:Str)=al (.ref Cc)->cG K (.ref Cc) (.type "ValueError")=al true:=by
 unfold bD1 at hx;simp only[ae]at hx;obtain⟨Y,h2,h3⟩:=hx;have one:∀ c:String,cs.contains c=bY->∃ Cc,mg (c:Str)=al (.ref Cc)/\ExcCls K Cc/\excI K Cc=bY/\cL K (.ref Cc) (.ref Cc)=al bY/\cG K (.ref Cc) (.type "ValueError")=al bY/\mg ("ValueError":Str)=none:=λ c hc=>by
  have q:=aI.mp Y c (c6.mp hc);unfold cr4 at q;split at q
  .rename_i Cc e;rw[ae,ae,ae,ae]at q;exact⟨Cc,bV X G e,bG2 q.1,q.2.1,iN q.2.2.1,iN q.2.2.2.1,kg X G (iN q.2.2.2.2)⟩
  .cases q
 have two:∀(c d:String) (Cc D:Addr),cs.contains c=bY->ts.contains d=bY->mg (c:Str)=al (.ref Cc)->mg (d:Str)=al (.ref D)->cG K (.ref Cc) (.ref D)=al (nR c d)/\cL K (.ref Cc) (.ref D)=al (nR c d):=λ c d Cc D hc hd mc Z=>by
  have q:=aI.mp (aI.mp h3 c (c6.mp hc)) d (c6.mp hd);unfold cp2 at q;split at q
  .rename_i B D' e1 e2;have J:=bV X G e1;have Uu:=bV X G e2;lia
  .cases q
 refine⟨λ c hc=>?_,λ c hc=>?_,λ c d Cc D a b e f=>(two c d Cc D a b e f).1,λ c d Cc D a b e f=>(two c d Cc D a b e f).2,λ c Cc hc z=>?_,λ c hc=>?_,λ c Cc hc z=>?_⟩
 .obtain⟨Cc,a,b,e,_⟩:=one c hc;exact⟨Cc,a,b,e⟩
 .have q:=aI.mp h2 c (c6.mp hc);unfold cq6 at q;split at q
  .rename_i Cc e;exact⟨Cc,bV X G e⟩
  .cases q
 .obtain⟨B,a,_,_,b,_⟩:=one c hc;rw[z]at a;cases a;exact b
 .obtain⟨B,_,_,_,_,_,b⟩:=one c hc;exact b
 .obtain⟨B,a,_,_,_,b,_⟩:=one c hc;rw[z]at a;cases a;exact b
def cn4 (K:ac)(c m:String)(st:Stmt):Prop:=∃(f Cc:Addr) (od an:yJ) (sl:yF) (oc kV dc pm cd ct:Value),bC K aU (c)=al (al (.ref Cc))/\bU K (.ref Cc) (m)=al (al (.ref f)) /\
 K.lookup f=al ⟨oc,od,.func (cR (m) ((c ++ "."++m:String)) (defArgs st) (defBody st) (defScope st) .none kV dc pm an cd ct),sl⟩/\fj K cd ((c ++ "."++m:String))=bY/\bJ K (.ref f)=bY/\ia K (.ref f)=bY
def cb3 (x q:Str)(st:Stmt)(ps:yI):Prop:=∀ kV doc pm  (an:yJ)  cdv ct  (us:yH),us.length=ps.length->eM (cR x q (defArgs st) (defBody st) (defScope st) .none kV doc pm an cdv ct) ⟨us,[]⟩=pure (ps.zip us)
def DTM (c m:String)(d:n8)(st:Stmt):Prop:=∃ N ps,FnScope N ps (defScope st)/\ps.length=d.ps/\N.length=d.ps+d.vs/\cb3 (m) ((c ++ "."++m:String)) st ps/\mSs ⟨N,defScope st,λ _ _ _=>ce⟩ d.body (defBody st)=bY
noncomputable def cs1 (K:ac)(Cc:Addr)(f:List Nat):Bool:=match bU K (.ref Cc) ⟨f.toArray⟩with|some aT=>bY|_=>ce
noncomputable def saB (K:ac)(Cc:Addr):Bool:=match bU K (.ref Cc) "__setattr__" with|some (al (.builtin x))=>x == "object.__setattr__" | _=>ce
def bF1 (K:ac)(c:String)(fs:List (List Nat)):Bool:=match bC K aU (c)with
 | some (al (.ref Cc))=>eA K Cc Str.empty&&(fe K Cc&&(gA K Cc&&(saB K Cc&&(dI K Cc&&(bJ K (.ref Cc)&&fs.all (cs1 K Cc))))))
 | _=>ce
set_option tactic.hygienic true in
def aw7 {K}(h:bF1 K c fs=bY):∃ Cc,bC K aU (c)=al (al (.ref Cc))/\Cls K Cc/\dI K Cc=bY/\bJ K (.ref Cc)=bY/\∀ f∈fs,NoAttr K Cc ⟨f.toArray⟩:=by
 unfold bF1 at h;split at h
 .rename_i Cc e;simp only[ae]at h;obtain⟨B,Uu,h3,z,Y,h6,J⟩:=h;refine⟨Cc,e,⟨B,Uu,h3,?_⟩,Y,h6,λ f Z=>?_⟩
  .unfold saB at z;split at z
   .rename_i x e2;rw[e2,iN z]
   .cases z
  .have:=aI.mp J f Z;unfold cs1 at this;split at this
   .rename_i e2;exact e2
   simp_all
 .cases h
theorem zZ {α β:Type}[BEq α][LawfulBEq α]:∀ {tbl:List (α×β)} {a} {b},tbl.lookup a=al b->(a,b)∈tbl
 | [],_,_,h=>by cases h
 | (g,e)::tbl,a,b,h=>by
  rw[bh]at h;cases q:a==g with
  | true=>simp_all
  | false=>rw[q]at h;exact ah _ (zZ h)
set_option tactic.hygienic true in
def cc0 {K:ac}{mg:yD}{mtb:List ((String×String)×n8×Stmt)}{obt:List (String×List (List Nat))}(X:K.In h)(G:h.Ns aU mg)
  (e1:∀ c m,P.mt c m=(mtb.lookup (c,m)).map (·.1)) (e2:∀ c f,P.att c f=(obt.lookup c).any λ l=>l.contains f) (hO:(obt.all λ p=>bF1 K p.1 p.2)=bY) (hc:(mtb.all λ p=>(obt.lookup p.1.1).isSome&&(mtb.lookup (p.1.1, "__init__")).isSome)=bY)
  (hM:∀ p∈mtb,cn4 K p.1.1 p.1.2 p.2.2) (hT:∀ p∈mtb,DTM p.1.1 p.1.2 p.2.1 p.2.2) :
  (∀ c m d,P.mt c m=al d->GoodM (aJ3 names P K) c m d)/\(∀(c:String) (f:List Nat) (Cc:Addr),P.att c f=bY->(aJ3 names P K).cls c=al Cc->NoAttr K Cc ⟨f.toArray⟩) /\
  ∀(c:String) (Cc:Addr),(aJ3 names P K).cls c=al Cc->mg (c:Str)=al (.ref Cc)/\dI K Cc=bY/\bJ K (.ref Cc)=true:=by
 have ns:∀ {c:String} {Cc:Addr},(aJ3 names P K).cls c=al Cc->bC K aU (c:Str)=al (al (.ref Cc))/\(P.mt c "__init__").isSome=true:=λ {c Cc} e=>by
  have e:aJ0 P K c=al Cc:=e;unfold aJ0 at e;split at e
  .rename_i d hd;split at e
   .rename_i Y hn;cases e;exact⟨hn,by rw[hd];rfl⟩
   .cases e
  .cases e
 have at_:∀ {c:String} {l:List (List Nat)},obt.lookup c=al l->bF1 K c l=true:=λ {c l} e=>aI.mp hO _ (zZ e);have ob:∀ {c m:String} {p:n8×Stmt},mtb.lookup (c,m)=al p->∃ l,obt.lookup c=al l:=λ {c m p} e=>by
  have:=aI.mp hc _ (zZ e);rw[ae]at this;exact ci.mp this.1
 refine⟨λ c m d e=>?_,λ c f Cc e q=>?_,λ c Cc q=>?_⟩
 .rw[e1]at e;obtain⟨p,J,rfl⟩:=bq.mp e;obtain⟨l,B⟩:=ob J;obtain⟨Cc,z,n2,_⟩:=aw7 (at_ B);obtain⟨f,Y,od,an,sl,oc,kV,dc,pm,cd,ct,a1,a2,a3,a4,a5,a6⟩:=hM _ (zZ J);rw[z]at a1;cases a1;obtain⟨N,ps,b1,b2,b3,b4,b5⟩:=hT _ (zZ J);have F:=aP5 (st:=p.2) a3 a4 a5;have Uu:=aI.mp hc _ (zZ J);rw[ae]at Uu;have hcl:aJ0 P K c=al Cc:=by
   unfold aJ0;obtain⟨p0,Z⟩:=ci.mp Uu.2;rw[e1,show mtb.lookup (c, "__init__")=al p0 from Z,bS];show(match bC K aU (c:Str)with|some (al (.ref Cc))=>al Cc|_=>aT)=al Cc;rw[z]
  exact⟨p.2,N,ps,f,_,Cc,⟨hcl,n2⟩,⟨a2,a6,a5⟩,F,F.binds b4,b1,b2,b3,b5⟩
 .rw[e2]at e;cases B:obt.lookup c with
  | none=>simp_all
  | some l =>
   rw[B]at e;obtain⟨Y,z,_,_,_,n5⟩:=aw7 (at_ B);rw[(ns q).1]at z;cases z;exact n5 f (c6.mp e)
 .obtain⟨n0,Uu⟩:=ns q;rw[e1]at Uu;obtain⟨d,hd⟩:=ci.mp Uu;obtain⟨p,J,_⟩:=bq.mp hd;obtain⟨l,B⟩:=ob J;obtain⟨Y,z,_,n3,n4,_⟩:=aw7 (at_ B);rw[n0]at z;cases z;exact⟨bV X G n0,n3,n4⟩
def DTX (c m:String)(d:oO)(st:Stmt):Prop:=∃ N ps,FnScope N ps (defScope st)/\ps.length=d.ps/\N.length=d.ps+d.vs/\cb3 (m) ((c ++ "."++m:String)) st ps/\mX ⟨N,defScope st,λ _ _ _=>ce⟩ d.body (defBody st)=bY
def bG8 {K}{mtb:List ((String×String)×n8×Stmt)}{mxb:List ((String×String)×oO×Stmt)}{obt:List (String×List (List Nat))}
  (e1:∀ c m,P.mt c m=(mtb.lookup (c,m)).map (·.1)) (Y:∀ c m,P.mx c m=(mxb.lookup (c,m)).map (·.1)) (hO:(obt.all λ p=>bF1 K p.1 p.2)=bY) (hc:(mxb.all λ p=>(obt.lookup p.1.1).isSome&&(mtb.lookup (p.1.1, "__init__")).isSome)=bY)
  (hM:∀ p∈mxb,cn4 K p.1.1 p.1.2 p.2.2) (hT:∀ p∈mxb,DTX p.1.1 p.1.2 p.2.1 p.2.2) :
  ∀ c m d,P.mx c m=al d->GoodX (aJ3 names P K) c m d:=λ c m d e=>by
 have at_:∀ {c:String} {l:List (List Nat)},obt.lookup c=al l->bF1 K c l=true:=λ {c l} e=>aI.mp hO _ (zZ e);rw[Y]at e;refine wl λ _ ua=>?_;obtain⟨p,h,rfl⟩:=bq.mp e;have z:=aI.mp hc _ (zZ h);rw[ae]at z;obtain⟨l,Z⟩:=ci.mp z.1;obtain⟨Cc,J,n2,_⟩:=aw7 (at_ Z);obtain⟨f,Cc',od,an,sl,oc,kV,dc,pm,cd,ct,a1,a2,a3,a4,a5,a6⟩:=hM _ (zZ h);rw[J]at a1;cases a1;obtain⟨N,ps,b1,b2,b3,b4,b5⟩:=hT _ (zZ h);have F:=aP5 (st:=p.2) a3 a4 a5;have hcl:aJ0 P K c=al Cc:=by
  unfold aJ0;obtain⟨Uu,B⟩:=ci.mp z.2
  simp_all
 exact ua ⟨p.2,N,ps,f,_,Cc,⟨hcl,n2⟩,⟨a2,a6,a5⟩,F,F.binds b4,b1,b2,b3,b5⟩
end L2
end
noncomputable section
namespace DV
noncomputable def ac8:Df:=⟨"letters_of",1,0,(.cons (.ret (.slU (.gl "LETTERS") (.ix (.X 0) (.K (.int 0))))) .nil)⟩
noncomputable def ac4:Df:=⟨"rooms_of",1,0,(.cons (.ret (.ix (.X 0) (.K (.int 1)))) .nil)⟩
noncomputable def jH:Df:=⟨"begins_of",1,0,(.cons (.ret (.ix (.X 0) (.K (.int 2)))) .nil)⟩
noncomputable def ac1:Df:=⟨"doors_of",1,0,(.cons (.ret (.ix (.X 0) (.K (.int 4)))) .nil)⟩
noncomputable def ad3:Df:=⟨"grid",2,2,(.cons (.A (.Y 2) (.J .nil)) (.cons (.fo (.Y 3) (.rg (.X 0)) (.cons (.ex (.me .append (.X 2) (.cons (.mk .tuple (.comp (.Y 0) (.rg (.X 0)) (.callV 1 (.cons (.X 2) (.cons (.X 0) .nil))) [aT,al 1,al 3])) .nil))) .nil)) (.cons (.ret (.mk .tuple (.seq (.X 2)))) .nil)))⟩
noncomputable def ad7:Df:=⟨"least",1,0,(.cons (.ret (.mkD .min (.compIf (.Y 0) (.seq (.X 0)) (.notN (.X 0)) (.X 0) [aT]) (.K .N))) .nil)⟩
noncomputable def ae0:Df:=⟨"added",2,0,(.cons (.ite (.or (.isN (.X 0)) (.isN (.X 1))) (.cons (.ret (.K .N)) .nil) .nil) (.cons (.ret (.G .add (.X 0) (.X 1))) .nil))⟩
noncomputable def ae2:Df:=⟨"plain",1,0,(.cons (.ret (.callC "grid" (.ex (.X 0) (.lam "plain.0" [] .nil)))) .nil)⟩
noncomputable def ac0:Lm:=⟨"plain.0",2,0,(.ite (.Z .eq (.X 0) (.X 1)) (.K (.int 0)) (.K .N))⟩
noncomputable def ac9:Df:=⟨"product",2,1,(.cons (.A (.Y 2) (.bi .len (.cons (.X 0) .nil))) (.cons (.ret (.callC "grid" (.ex (.X 2) (.lam "product.0" [2,0,1] .nil)))) .nil))⟩
noncomputable def ab2:Lm:=⟨"product.0",2,3,(.call "least" (.ex (.mk .list (.comp (.Y 0) (.rg (.X 2)) (.call "added" (.ex (.ix (.ix (.X 1) (.X 2)) (.X 0)) (.ex (.ix (.ix (.X 3) (.X 0)) (.X 4)) .nil))) [aT,al 3,al 0,al 4,al 1])) .nil))⟩
noncomputable def aa8:Df:=⟨"letter_table",2,1,(.cons (.und 2) (.cons (.ret (.callC "grid" (.ex (.call "rooms_of" (.ex (.X 0) .nil)) (.lam "letter_table.least_fee" [0,1] .nil)))) .nil))⟩
noncomputable def aa6:Lm:=⟨"letter_table.least_fee",2,2,(.call "least" (.ex (.mk .list (.compIf (.tp [0,1,2,3]) (.seq (.call "doors_of" (.ex (.X 2) .nil))) (.Z .eq (.tp (.cons (.X 0) (.cons (.X 1) (.cons (.X 2) .nil)))) (.tp (.cons (.X 4) (.cons (.X 5) (.cons (.X 6) .nil))))) (.X 3) [aT,aT,aT,aT,al 0,al 3,al 1])) .nil))⟩
noncomputable def ab4:Df:=⟨"word_table",2,3,(.cons (.A (.Y 2) (.dc .nil .nil)) (.cons (.A (.Y 3) (.call "plain" (.ex (.call "rooms_of" (.ex (.X 0) .nil)) .nil))) (.cons (.fo (.Y 4) (.seq (.X 1)) (.cons (.ite (.Z .notin (.X 4) (.X 2)) (.cons (.setIx (.X 2) (.X 4) (.call "letter_table" (.ex (.X 0) (.ex (.X 4) .nil)))) .nil) .nil) (.cons (.A (.Y 3) (.call "product" (.ex (.X 3) (.ex (.ix (.X 2) (.X 4)) .nil)))) .nil))) (.cons (.ret (.X 3)) .nil))))⟩
noncomputable def zO:Df:=⟨"at_begins_and_ends",2,2,.nil⟩
noncomputable def ad5:Df:=⟨"sign_of",1,0,(.cons (.ite (.isN (.X 0)) (.cons (.ret (.gl "NONE")) .nil) .nil) (.cons (.ret (.ite (.Z .eq (.X 0) (.K (.int 0))) (.gl "FREE") (.gl "SOME"))) .nil))⟩
noncomputable def ad6:Df:=⟨"reading",1,0,(.cons (.ret (.callC "grid" (.ex (.bi .len (.cons (.X 0) .nil)) (.lam "reading.0" [0] .nil)))) .nil)⟩
noncomputable def ac7:Lm:=⟨"reading.0",2,1,(.call "sign_of" (.ex (.ix (.ix (.X 2) (.X 0)) (.X 1)) .nil))⟩
noncomputable def qU:Lm:=⟨"plain_signs.0",2,0,(.ite (.Z .eq (.X 0) (.X 1)) (.gl "FREE") (.gl "NONE"))⟩
noncomputable def aq8:Df:=⟨"_law_box",2,4,(.cons (.A (.Y 2) (.K (.int 0))) (.cons (.ite (.Z .lt (.X 1) (.bi .len (.cons (.X 0) .nil))) (.cons (.A (.Y 2) (.bi .abs (.cons (.ix (.X 0) (.X 1)) .nil))) .nil) .nil) (.cons (.ite (.Z .ge (.X 2) (.G .pow (.K (.int 10)) (.K (.int 18)))) (.cons (.ret (.J (.cons (.X 2) .nil))) .nil) .nil) (.cons (.A (.Y 3) (.K (.int 0))) (.cons (.fo (.Y 4) (.rg (.K (.int 128))) (.cons (.A (.Y 5) (.G .mod (.G .mul (.G .add (.G .add (.G .add (.G .mod (.X 2) (.K (.int 2147483647))) (.G .mul (.K (.int 7919)) (.X 1))) (.G .mul (.K (.int 104729)) (.X 4))) (.K (.int 97))) (.K (.int 48271))) (.K (.int 2147483647)))) (.cons (.A (.Y 3) (.G .add (.G .mul (.X 3) (.K (.int 2147483647))) (.G .mod (.G .add (.G .add (.G .mul (.X 5) (.X 5)) (.G .mul (.K (.int 31)) (.X 4))) (.G .fdiv (.X 2) (.K (.int 2147483647)))) (.K (.int 2147483647))))) .nil))) (.cons (.ret (.J (.cons (.X 3) .nil))) .nil))))))⟩
noncomputable def af4:Df:=⟨"_law_draw",2,1,(.cons (.A (.Y 2) (.G .mod (.ix (.X 0) (.K (.int 0))) (.X 1))) (.cons (.setIx (.X 0) (.K (.int 0)) (.G .fdiv (.ix (.X 0) (.K (.int 0))) (.X 1))) (.cons (.ret (.X 2)) .nil)))⟩
noncomputable def aa7:Df:=⟨"sign_product",2,1,(.cons (.A (.Y 2) (.bi .len (.cons (.X 0) .nil))) (.cons (.ret (.callC "grid" (.ex (.X 2) (.lam "sign_product.0" [2,0,1] .nil)))) .nil))⟩
noncomputable def aa2:Lm:=⟨"sign_product.0",2,3,(.mk .min (.comp (.Y 0) (.rg (.X 2)) (.bi .max2 (.cons (.ix (.ix (.X 1) (.X 2)) (.X 0)) (.cons (.ix (.ix (.X 3) (.X 0)) (.X 4)) .nil))) [aT,al 3,al 0,al 4,al 1]))⟩
noncomputable def ab6:Df:=⟨"_law_product",2,4,(.cons (.A (.Y 2) (.J .nil)) (.cons (.fo (.Y 3) (.seq (.X 0)) (.cons (.A (.Y 4) (.mk .list (.comp (.Y 0) (.seq (.X 3)) (.K (.int 3)) [aT]))) (.cons (.fo (.Y 5) (.rg (.bi .len (.cons (.X 3) .nil))) (.cons (.ite (.Z .lt (.ix (.X 3) (.X 5)) (.K (.int 3))) (.cons (.A (.Y 4) (.mk .list (.comp (.Y 0) (.rg (.bi .len (.cons (.X 3) .nil))) (.bi .min2 (.cons (.ix (.X 1) (.X 0)) (.cons (.bi .max2 (.cons (.ix (.X 2) (.X 3)) (.cons (.ix (.ix (.X 4) (.X 3)) (.X 0)) .nil))) .nil))) [aT,al 4,al 3,al 5,al 1]))) .nil) .nil) .nil)) (.cons (.ex (.me .append (.X 2) (.cons (.mk .tuple (.seq (.X 4))) .nil))) .nil)))) (.cons (.ret (.mk .tuple (.seq (.X 2)))) .nil)))⟩
noncomputable def ab5:Df:=⟨"is_steady",1,0,(.cons (.ret (.Z .eq (.call "sign_product" (.ex (.X 0) (.ex (.X 0) .nil))) (.X 0))) .nil)⟩
noncomputable def ac2:Df:=⟨"round_of",1,0,(.cons (.ite (.or (.Z .eq (.X 0) (.gl "FREE")) (.Z .eq (.X 0) (.gl "NONE"))) (.cons (.ret (.X 0)) .nil) .nil) (.cons (.ret (.gl "UNBOUND")) .nil))⟩
noncomputable def ac3:Df:=⟨"sharpened",1,2,(.cons (.ite (.not (.call "is_steady" (.ex (.X 0) .nil))) (.cons .raise .nil) .nil) (.cons (.A (.Y 1) (.bi .len (.cons (.X 0) .nil))) (.cons (.A (.Y 2) (.mk .list (.comp (.Y 0) (.rg (.X 1)) (.call "round_of" (.ex (.ix (.ix (.X 1) (.X 0)) (.X 0)) .nil)) [aT,al 0]))) (.cons (.ret (.callC "grid" (.ex (.X 1) (.lam "sharpened.0" [1,0,2] .nil)))) .nil))))⟩
noncomputable def ab1:Lm:=⟨"sharpened.0",2,3,(.mk .min (.comp (.Y 0) (.rg (.X 2)) (.bi .max3 (.cons (.ix (.ix (.X 1) (.X 2)) (.X 0)) (.cons (.ix (.X 3) (.X 0)) (.cons (.ix (.ix (.X 1) (.X 0)) (.X 4)) .nil)))) [aT,al 3,al 0,al 4,al 1]))⟩
noncomputable def ju:Df:=⟨"steady_power",1,2,(.cons (.A (.Y 1) (.K (.int 1))) (.cons (.A (.Y 2) (.X 0)) (.cons (.whl (.not (.call "is_steady" (.ex (.X 2) .nil))) (.cons (.aug 1 (.K (.int 1))) (.cons (.A (.Y 2) (.call "sign_product" (.ex (.X 2) (.ex (.X 0) .nil)))) .nil))) (.cons (.ret (.tp (.cons (.X 1) (.cons (.X 2) .nil)))) .nil))))⟩
noncomputable def ac6:Df:=⟨"word_signs",2,0,(.cons (.ret (.call "reading" (.ex (.call "word_table" (.ex (.X 0) (.ex (.X 1) .nil))) .nil))) .nil)⟩
noncomputable def ac5:Df:=⟨"_law_letter_signs",2,6,(.cons (.A (.Y 2) (.ix (.X 0) (.K (.int 1)))) (.cons (.A (.Y 3) (.mk .list (.comp (.Y 0) (.rg (.X 2)) (.mk .list (.comp (.Y 0) (.rg (.X 1)) (.K (.int 3)) [aT])) [aT,al 2]))) (.cons (.fo (.tp [4,5,6,7]) (.seq (.ix (.X 0) (.K (.int 4)))) (.cons (.ite (.Z .eq (.X 5) (.X 1)) (.cons (.setIx (.ix (.X 3) (.X 4)) (.X 6) (.bi .min2 (.cons (.ix (.ix (.X 3) (.X 4)) (.X 6)) (.cons (.bi .int (.cons (.Z .gt (.X 7) (.K (.int 0))) .nil)) .nil)))) .nil) .nil) .nil)) (.cons (.ret (.mk .tuple (.comp (.Y 0) (.seq (.X 3)) (.mk .tuple (.seq (.X 0))) [aT]))) .nil))))⟩
noncomputable def qT:Df:=⟨"is_letter_step",2,0,(.cons (.ret (.and (.call "is_tuple_of" (.ex (.X 0) (.ex (.K (.int 2)) .nil))) (.and (.Z .eq (.ix (.X 0) (.K (.int 0))) (.K (.str [108,101,116,116,101,114]))) (.call "is_letter" (.ex (.ix (.X 0) (.K (.int 1))) (.ex (.X 1) .nil)))))) .nil)⟩
noncomputable def jv:Df:=⟨"is_pair_step",2,0,(.cons (.ret (.and (.call "is_tuple_of" (.ex (.X 0) (.ex (.K (.int 3)) .nil))) (.and (.Z .eq (.ix (.X 0) (.K (.int 0))) (.K (.str [112,97,105,114]))) (.and (.call "is_ahead" (.ex (.ix (.X 0) (.K (.int 1))) (.ex (.X 1) .nil))) (.call "is_ahead" (.ex (.ix (.X 0) (.K (.int 2))) (.ex (.X 1) .nil))))))) .nil)⟩
noncomputable def jb:Df:=⟨"is_sharp_step",2,0,(.cons (.ret (.and (.call "is_tuple_of" (.ex (.X 0) (.ex (.K (.int 2)) .nil))) (.and (.Z .eq (.ix (.X 0) (.K (.int 0))) (.K (.str [115,104,97,114,112]))) (.call "is_ahead" (.ex (.ix (.X 0) (.K (.int 1))) (.ex (.X 1) .nil)))))) .nil)⟩
noncomputable def ad8:Df:=⟨"_law_sharp",1,8,(.cons (.A (.Y 1) (.bi .len (.cons (.X 0) .nil))) (.cons (.A (.Y 2) (.J .nil)) (.cons (.fo (.Y 3) (.rg (.X 1)) (.cons (.A (.Y 4) (.J .nil)) (.cons (.fo (.Y 5) (.rg (.X 1)) (.cons (.A (.Y 6) (.K (.int 3))) (.cons (.fo (.Y 7) (.rg (.X 1)) (.cons (.A (.Y 8) (.ix (.ix (.X 0) (.X 7)) (.X 7))) (.cons (.ite (.Z .eq (.X 8) (.K (.int 1))) (.cons (.A (.Y 8) (.K (.int 2))) .nil) .nil) (.cons (.A (.Y 6) (.bi .min2 (.cons (.X 6) (.cons (.bi .max3 (.cons (.ix (.ix (.X 0) (.X 3)) (.X 7)) (.cons (.X 8) (.cons (.ix (.ix (.X 0) (.X 7)) (.X 5)) .nil)))) .nil)))) .nil)))) (.cons (.ex (.me .append (.X 4) (.cons (.X 6) .nil))) .nil)))) (.cons (.ex (.me .append (.X 2) (.cons (.mk .tuple (.seq (.X 4))) .nil))) .nil)))) (.cons (.ret (.mk .tuple (.seq (.X 2)))) .nil))))⟩
noncomputable def clA:As:=.ex (.tp (.cons (.K (.str [108,101,116,116,101,114])) (.cons (.X 2) .nil))) (.ex (.call "word_signs" (.ex (.X 0) (.ex (.X 2) .nil))) .nil)
def cg5:Ss:=.cons (.ex (.mcall (.X 1) "take" clA)) .nil
def clF:S:=.fo (.Y 2) (.seq (.call "letters_of" (.ex (.X 0) .nil))) cg5
noncomputable def ah0:List Nat:=[115,116,101,112,115]
def clC:E:=.Z .lt (.X 3) (.bi .len (.cons (.attr (.X 1) ah0) .nil))
noncomputable def clS:E:=.mcall (.X 1) "take_sharp" (.ex (.X 3) .nil)
noncomputable def clP:E:=.mcall (.X 1) "take_pairs" (.ex (.X 3) .nil)
def clB:Ss:=.cons (.ex clS) (.cons (.ex clP) (.cons (.aug 3 (.K (.int 1))) .nil))
abbrev au9:Ss:=.cons (.A (.Y 1) (.new "ClosedSet" .nil)) (.cons clF (.cons (.A (.Y 3) (.K (.int 0))) (.cons (.whl clC clB) (.cons (.ret (.mk .tuple (.seq (.attr (.X 1) ah0)))) .nil))))
def af1:Df:=⟨"closed",1,3,au9⟩
noncomputable def as3:List Nat:=[116,97,98,108,101,115]
noncomputable def am4:List Nat:=[115,101,101,110]
abbrev zV:Ss:=.cons (.setA (.X 0) ah0 (.J .nil)) (.cons (.setA (.X 0) as3 (.J .nil)) (.cons (.setA (.X 0) am4 .dicT) .nil))
def aa9:Df:=⟨"ClosedSet.__init__",1,0,zV⟩
abbrev qw:Ss:=.cons (.ite (.Z .isin (.X 2) (.attr (.X 0) am4)) (.cons .retN .nil) .nil) (.cons (.ite (.Z .eq (.bi .len (.cons (.attr (.X 0) ah0) .nil)) (.gl "MOST_TABLES")) (.cons .raise .nil) .nil) (.cons (.ex (.me .append (.attr (.X 0) ah0) (.cons (.X 1) .nil))) (.cons (.ex (.me .append (.attr (.X 0) as3) (.cons (.X 2) .nil))) (.cons (.setIx (.attr (.X 0) am4) (.X 2) (.K (.T bY))) .nil))))
def aa3:Df:=⟨"ClosedSet.take",3,0,qw⟩
def shC:E:=.call "is_steady" (.ex (.ix (.attr (.X 0) as3) (.X 1)) .nil)
def shA:As:=.ex (.tp (.cons (.K (.str [115,104,97,114,112])) (.cons (.X 1) .nil))) (.ex (.call "sharpened" (.ex (.ix (.attr (.X 0) as3) (.X 1)) .nil)) .nil)
abbrev zS:Ss:=.cons (.ite shC (.cons (.ex (.mcall (.X 0) "take" shA)) .nil) .nil) .nil
def aa5:Df:=⟨"ClosedSet.take_sharp",2,0,zS⟩
noncomputable def aa4:Df:=⟨"ClosedSet.take_pairs",2,1,(.cons (.fo (.Y 2) (.rg (.G .add (.X 1) (.K (.int 1)))) (.cons (.ex (.mcall (.X 0) "take" (.ex (.tp (.cons (.K (.str [112,97,105,114])) (.cons (.X 1) (.cons (.X 2) .nil)))) (.ex (.call "sign_product" (.ex (.ix (.attr (.X 0) [116,97,98,108,101,115]) (.X 1)) (.ex (.ix (.attr (.X 0) [116,97,98,108,101,115]) (.X 2)) .nil))) .nil)))) (.cons (.ex (.mcall (.X 0) "take" (.ex (.tp (.cons (.K (.str [112,97,105,114])) (.cons (.X 2) (.cons (.X 1) .nil)))) (.ex (.call "sign_product" (.ex (.ix (.attr (.X 0) [116,97,98,108,101,115]) (.X 2)) (.ex (.ix (.attr (.X 0) [116,97,98,108,101,115]) (.X 1)) .nil))) .nil)))) .nil))) .nil)⟩
noncomputable def lcI:S:=.fo (.Y 4) (.seq (.slU (.K (.str [97,98,99])) (.ix (.X 0) (.K (.int 0))))) (.cons (.A (.Y 5) (.call "_law_letter_signs" (.ex (.X 0) (.ex (.X 4) .nil)))) (.cons (.ite (.Z .notin (.X 5) (.X 2)) (.cons (.ex (.me .append (.X 2) (.cons (.X 5) .nil))) (.cons (.ex (.me .append (.X 3) (.cons (.X 5) .nil))) .nil)) .nil) .nil))
noncomputable def lcC:E:=.and (.Z .lt (.X 6) (.bi .len (.cons (.X 2) .nil))) (.Z .le (.bi .len (.cons (.X 2) .nil)) (.X 1))
noncomputable def lcL:L:=.comp (.Y 0) (.seq (.X 3)) (.call "_law_product" (.ex (.X 1) (.ex (.X 0) .nil))) [aT,al 7]
noncomputable def lcT:E:=.Z .eq (.call "_law_product" (.ex (.X 7) (.ex (.X 7) .nil))) (.X 7)
noncomputable def lcM:L:=.comp (.Y 0) (.seq (.slU (.X 2) (.G .add (.X 6) (.K (.int 1))))) (.call "_law_product" (.ex (.X 0) (.ex (.X 1) .nil))) [aT,al 9]
def lcS:Ss:=.cons (.A (.Y 9) (.call "_law_sharp" (.ex (.X 7) .nil))) (.cons (.ite (.Z .notin (.X 9) (.X 3)) (.cons (.ex (.me .append (.X 3) (.cons (.X 9) .nil))) (.cons (.A (.Y 8) (.G .add (.G .add (.X 8) (.J (.cons (.X 9) .nil))) (.mk .list lcM))) .nil)) .nil) .nil)
noncomputable def bB1:Ss:=.cons (.ite (.Z .notin (.X 10) (.X 2)) (.cons (.ex (.me .append (.X 2) (.cons (.X 10) .nil))) .nil) .nil) .nil
def lcF:S:=.fo (.Y 10) (.seq (.X 8)) bB1
def lcB:Ss:=.cons (.A (.Y 7) (.ix (.X 2) (.X 6))) (.cons (.A (.Y 8) (.mk .list lcL)) (.cons (.ite lcT lcS .nil) (.cons lcF (.cons (.A (.Y 6) (.G .add (.X 6) (.K (.int 1)))) .nil))))
abbrev al4:Ss:=.cons (.A (.Y 2) (.J .nil)) (.cons (.A (.Y 3) (.J .nil)) (.cons lcI (.cons (.A (.Y 6) (.K (.int 0))) (.cons (.whl lcC lcB) (.cons (.ret (.X 2)) .nil)))))
def ae3:Df:=⟨"_law_closed",2,9,al4⟩
noncomputable def wdA:Ss:=(.cons (.A (.Y 8) (.call "_law_draw" (.ex (.X 0) (.ex (.X 3) .nil)))) (.cons (.ex (.me .append (.X 4) (.cons (.tp (.cons (.X 7) (.cons (.X 6) (.cons (.X 8) (.cons (.call "_law_draw" (.ex (.X 0) (.ex (.K (.int 2)) .nil))) .nil))))) .nil))) .nil))
def wdI:Ss:=(.cons (.A (.Y 6) (.ix (.K (.str [97,98,99])) (.X 5))) (.cons (.fo (.Y 7) (.rg (.X 3)) wdA) .nil))
noncomputable def wdT:Ss:=(.cons (.A (.Y 7) (.call "_law_draw" (.ex (.X 0) (.ex (.X 3) .nil)))) (.cons (.A (.Y 8) (.call "_law_draw" (.ex (.X 0) (.ex (.X 3) .nil)))) (.cons (.A (.Y 6) (.ix (.K (.str [97,98,99])) (.call "_law_draw" (.ex (.X 0) (.ex (.X 2) .nil))))) (.cons (.ex (.me .append (.X 4) (.cons (.tp (.cons (.X 7) (.cons (.X 6) (.cons (.X 8) (.cons (.call "_law_draw" (.ex (.X 0) (.ex (.K (.int 2)) .nil))) .nil))))) .nil))) .nil))))
abbrev aK5:Ss:=.cons (.A (.Y 2) (.G .add (.K (.int 2)) (.call "_law_draw" (.ex (.X 0) (.ex (.K (.int 2)) .nil))))) (.cons (.A (.Y 3) (.G .add (.K (.int 3)) (.call "_law_draw" (.ex (.X 0) (.ex (.X 1) .nil))))) (.cons (.A (.Y 4) (.J .nil)) (.cons (.fo (.Y 5) (.rg (.X 2)) wdI) (.cons (.fo (.Y 9) (.rg (.call "_law_draw" (.ex (.X 0) (.ex (.K (.int 6)) .nil)))) wdT) (.cons (.ret (.tp (.cons (.X 2) (.cons (.X 3) (.cons (.tp (.cons (.K (.int 0)) .nil)) (.cons (.tp (.cons (.K (.int 0)) (.cons (.G .sub (.X 3) (.K (.int 1))) .nil))) (.cons (.mk .tuple (.seq (.X 4))) .nil))))))) .nil)))))
def al3:Df:=⟨"_law_wide",2,8,aK5⟩
noncomputable def bY7:Ss:=(.cons (.A (.Y 2) (.call "_law_wide" (.ex (.call "_law_box" (.ex (.X 0) (.ex (.X 1) .nil))) (.ex (.G .sub (.K (.int 3)) (.X 1)) .nil)))) (.cons (.A (.Y 3) (.bi .len (.cons (.call "_law_closed" (.ex (.X 2) (.ex (.K (.int 80)) .nil))) .nil))) (.cons (.ite (.Z .gt (.X 3) (.K (.int 80))) (.cons (.A (.Y 3) (.K .N)) .nil) .nil) (.cons (.ite (.Z .ne (.call "_law_told" (.ex (.X 2) .nil)) (.X 3)) (.cons (.ret (.K (.T ce))) .nil) .nil) (.cons (.ite (.Z .gt (.ix (.X 2) (.K (.int 1))) (.K (.int 3))) (.cons (.ret (.K (.T bY))) .nil) .nil) .nil)))))
abbrev an8:Ss:=.cons (.fo (.Y 1) (.rng3 (.K (.int 0)) (.G .add (.bi .min2 (.cons (.K (.int 2)) (.cons (.bi .len (.cons (.X 0) .nil)) .nil))) (.K (.int 1))) (2)) bY7) (.cons (.ret (.K (.T bY))) .nil)
def ae1:Df:=⟨"law",1,3,an8⟩
noncomputable def cs8:Df:=⟨"_law_on",3,5,(.cons (.A (.Y 3) (.mk .list (.comp (.Y 0) (.seq (.X 2)) (.K .N) [aT]))) (.cons (.fo (.tp [4,5,6,7]) (.seq (.ix (.X 0) (.K (.int 4)))) (.cons (.ite (.and (.Z .eq (.X 5) (.X 1)) (.notN (.ix (.X 2) (.X 4)))) (.cons (.ite (.or (.isN (.ix (.X 3) (.X 6))) (.Z .lt (.G .add (.ix (.X 2) (.X 4)) (.X 7)) (.ix (.X 3) (.X 6)))) (.cons (.setIx (.X 3) (.X 6) (.G .add (.ix (.X 2) (.X 4)) (.X 7))) .nil) .nil) .nil) .nil) .nil)) (.cons (.ret (.X 3)) .nil)))⟩
class Has (P:Pr)(d:Df):Prop where
 eq:P.df d.name=al d
class HasM (P:Pr)(c m:String)(d:Df):Prop where
 at_:P.mt c m=al d
class HasA (P:Pr)(c:String)(f:List Nat):Prop where
 at_:P.att c f=bY
class HasL (P:Pr)(d:Lm):Prop where
 eq:P.lm d.id=al d
class HasC (P:Pr)(x:String)(v:D):Prop where
 eq:P.con x=al v
def fin (s:Sto)(c:Ct)(s':Sto):R D:=match c with
 | .ret v=>ab7 s v s'
 | .next _=>ab7 s .N s'
 | _=>.B
@[simp] theorem je  s   v   s' :fin s (.ret v) s'=ab7 s v s':=rfl
@[simp] theorem fin_next  s   U   s' :fin s (.next U) s'=ab7 s .N s':=rfl
def zl  d [h:Has P d](z:l.length=d.ps) :
  (aa0 P (n+1)).call d.name l s=(exs (aa0 P n) d.body (l.map al++aA d.vs aT) s).bind (fin s):=by
 simp only[aa0,h.eq,z];rfl
def aj5  d [h:HasL P d](z:l.length=d.ps)(hc:cs.length=d.cs)(hn:(D.nclL l&&D.nclL cs&&s.all O.ncl)=bY) :
  (aa0 P (n+1)).lam d.id cs l s=(ev (aa0 P n) d.body (l.map al++cs.map al) s).bind (ab7 s):=by
 simp only[aa0,h.eq,z,hc,hn,and_self,if_true]
def qA  d [h:HasM P c m d](z:l.length=d.ps) :
  (aa0 P (n+1)).mcall c m l s=(exs (aa0 P n) d.body (l.map al++aA d.vs aT) s).bind λ c s'=>fin s c s':=by
 simp only[aa0,h.at_,br7,z];rfl
def aI7 [h:HasA P c f]:(aa0 P n).att c f=true:=by
 have:(aa0 P n).att=P.att:=by cases n<;>rfl
 rw[this];exact h.at_
def aY8 [h:HasC P x v]:(aa0 P n).con x=al v:=by
 cases n<;>exact h.eq
def ai5  s t :ag1 s (s++t)=true:=by
 unfold ag1;rw[aI];intro i h;rw[bE]at h;rw[aD h];simp
def aV4  s :ag1 s s=true:=by have:=ai5 s [];rwa [aY]at this
def be0  s t  r  o (h:o.bnd s.length=bY):ag1 s (s.set r o++t)=true:=by
 unfold ag1;rw[aI];intro i z;rw[bE]at z;rw[aD (by rw[bw];exact z)];by_cases e:r=i
 .subst e;rw[bA z];simp[h]
 .rw[aC e];simp
def zG (h:∀ n,d.bnd n=bY)(hr:∀ r,d≠.ref r):ab7 s d (s++t)=.ok d s:=by
 unfold ab7;rw[ai5,ef rfl]
 simp_all
def zq (h:∀ n,d.bnd n=bY)(hr:∀ r,d≠.ref r):ab7 s d s=.ok d s:=by
 have:=zG (s:=s) (t:=[]) h hr
 rwa [aY]at this
def aC6 (h:∀ n,d.bnd n=bY)(hr:∀ r,d≠.ref r)(ho:o.bnd s.length=bY):ab7 s d (s.set r o++t)=.ok d (s.set r o):=by
 unfold ab7;rw[be0 s t r o ho,ef rfl]
 simp_all
def aR1 (h:∀ n,d.bnd n=bY)(hr:∀ r,d≠.ref r)(ho:o.bnd s.length=bY):ab7 s d (s.set r o)=.ok d (s.set r o):=by
 have:=aC6 (t:=[]) (r:=r) h hr ho
 rwa [aY]at this
def bf1 {  u:Sto}(ho:o.bnd s.length=bY):ab7 s (.ref (s.length+t.length)) (s++(t++o::u))=.ok (.ref s.length) (s++[o]):=by
 unfold ab7;rw[ai5,ef rfl]
 simp_all
@[simp] theorem zE :ab7 s (.int i) s=.ok (.int i) s:=zq (λ _=>rfl) (by nofun)
@[simp] theorem br9 :ab7 s (.T i) s=.ok (.T i) s:=zq (λ _=>rfl) (by nofun)
@[simp] theorem ao6 :ab7 s .N s=.ok .N s:=zq (λ _=>rfl) (by nofun)
@[simp] theorem bY8 :ab7 s (.str x) s=.ok (.str x) s:=zq (λ _=>rfl) (by nofun)
set_option tactic.hygienic true in
theorem ja :∀ {n} {U} {s},al5 c g n U s≠.B->al5 c g (n+1) U s=al5 c g n U s
 | 0,_,_,h=>iS rfl h
 | n+1,U,s,h=>by
  rw[show al5 c g (n+1+1) U s=tru (c U s) (λ b s=>if b then(g U s).bind λ z s=>match z with
   | .next U=>al5 c g (n+1) U s|.cont U=>al5 c g (n+1) U s|.brk U=>.ok (.next U) s|.ret d=>.ok (.ret d) s else .ok (.next U) s)from rfl]
  have e:al5 c g (n+1) U s=tru (c U s) (λ b s=>if b then(g U s).bind λ z s=>match z with
   | .next U=>al5 c g n U s|.cont U=>al5 c g n U s|.brk U=>.ok (.next U) s|.ret d=>.ok (.ret d) s else .ok (.next U) s):=rfl
  rw[e]at h ⊢;unfold tru at h ⊢;cases hc:c U s with
  | exc _ _=>rfl
  | B=>rfl
  | ok d s1 =>
   rw[hc]at h;cases d with
   | T b =>
    cases b with
    | false=>rfl
    | true =>
     simp only[R.bind_ok]at h ⊢;cases hg:g U s1 with
     | exc _ _=>rfl
     | B=>rfl
     | ok z s2 =>
      rw[hg]at h;simp only[R.bind_ok]at h ⊢;cases z with
      | next U'=>exact ja h
      | cont U'=>exact ja h
      | _=>rfl
   | _=>rfl
theorem jl (h:al5 c g n U s≠.B):∀ k,al5 c g (n+k) U s=al5 c g n U s
 | 0=>rfl
 | k+1=>by
  have e:=jl h k;rw[<-cU,ja (by rw[e];exact h),e]
def bZ2 (h:al5 c g n U s=.ok r t):whl c g U s=.ok r t:=by
 have hb:al5 c g n U s≠.B:=by lia
 have hx:∃ n,al5 c g n U s≠.B:=⟨n,hb⟩
 unfold whl;rw[dif_pos hx];have z:=jl hx.choose_spec n;have B:=jl hb hx.choose;rw[<-z,kJ,B,h]
def aQ1 (hc:c U s=.ok (.T bY) s1)(z:g U s1=.ok (.next U') s'):whl c g U s=whl c g U' s':=by
 have key:∀ n,al5 c g (n+1) U s=al5 c g n U' s':=λ n=>by
  show tru (c U s) _=_
  simp_all
 unfold whl;by_cases hx:∃ n,al5 c g n U' s'≠.B
 .have hy:∃ n,al5 c g n U s≠.B:=⟨hx.choose+1,by rw[key];exact hx.choose_spec⟩
  rw[dif_pos hx,dif_pos hy];have h:=jl hy.choose_spec (hx.choose+1);have B:=jl (by rw[key];exact hx.choose_spec) hy.choose;rw[<-h,kJ,B,key]
 .have hy:¬ ∃ n,al5 c g n U s≠.B:=λ⟨n,hn⟩=>by
   cases n with
   | zero=>exact hn rfl
   | succ n=>exact hx ⟨n,by rw[<-key];exact hn⟩
  rw[dif_neg hx,dif_neg hy]
def bh4 (hc:c U s=.ok (.T ce) s1):whl c g U s=.ok (.next U) s1 :=
 bZ2 (n:=1) (by show tru (c U s) _=_;rw[hc,qC];rfl)
theorem jj (P:Nat->Env->Sto->Prop):∀ l   k   U   s ,
  P k U s->(∀ j   U   s ,j<=l.length->P (k+j) U s->ok s=bY)->(∀ j   d   U   s ,l[j]?=al d->P (k+j) U s->∃ U' s',(g d U s=.ok (.next U') s'\/g d U s=.ok (.cont U') s')/\P (k+j+1) U' s') ->
  ∃ U' s',am0 ok g l U s=.ok (.next U') s'/\P (k+l.length) U' s'
 | [],k,U,s,h,o,_=>⟨U,s,by show(if ok s then _ else _)=_;rw[ef (o 0 U s (aj _) h)],h⟩
 | d::l,k,U,s,h,o,t=>by
  have ho:=o 0 U s (cq _) h;obtain⟨U1,s1,z,B⟩:=t 0 d U s rfl h;obtain⟨U2,s2,e,Uu⟩:=jj P l (k+1) U1 s1 B (λ j U' s' hj J=>o (j+1) U' s' (by simp_all) (by grind)) λ j d' U' s' hj J=>by
   have:=t (j+1) d' U' s' (by simp_all) (by grind)
   rwa [show k+(j+1)+1=k+1+j+1 by lia]at this
  refine⟨U2,s2,?_,by grind⟩;show(if ok s then _ else _)=_;rw[ef ho];rcases z with z|z<;>(simp_all)
noncomputable def Nx (Q:Env->Sto->Prop):R Ct->Prop
 | .ok (.next U) s=>Q U s
 | .ok (.cont U) s=>Q U s
 | _=>False
@[simp] theorem ba8  Q   U   s :Nx Q (.ok (.next U) s)=Q U s:=rfl
@[simp] theorem co9  Q   U   s :Nx Q (.ok (.cont U) s)=Q U s:=rfl
def bL1 (e:r=.ok (.next U) s)(h:Q U s):Nx Q r:=by simp_all
def Nx.out :∀ {r},Nx Q r->∃ U s,(r=.ok (.next U) s\/r=.ok (.cont U) s)/\Q U s
 | .ok (.next U) s,h=>⟨U,s,.inl rfl,h⟩
 | .ok (.cont U) s,h=>⟨U,s,.inr rfl,h⟩
 | .ok (.ret _) _,h=>h.elim
 | .ok (.brk _) _,h=>h.elim
 | .exc _ _,h=>h.elim
 | .B,h=>h.elim
noncomputable def Tst (A B:Sto->Prop):R D->Prop
 | .ok (.T ce) s=>A s
 | .ok (.T bY) s=>B s
 | _=>False
@[simp] theorem cs7  A B   b   s :Tst A B (.ok (.T b) s)=if b then B s else A s:=by cases b<;>rfl
def ah2 {Ww:R α->Prop}(P:Nat->Env->Sto->Prop)(h:P 0 U s)
  (o:∀(j:Nat) (U:Env) (s:Sto),j<=l.length->P j U s->ok s=bY) (step:∀(j:Nat) (d:D) (U:Env) (s:Sto),l[j]?=al d->P j U s->Nx (P (j+1)) (g d U s))
  (B:∀ U' s',P l.length U' s'->Ww (f (.next U') s')):Ww ((am0 ok g l U s).bind f):=by
 obtain⟨U',s',e,q⟩:=jj P l 0 U s h (λ j U s hj z=>o j U s hj (by simp_all)) (λ j d U s hj z=>by
  rw[bN]at z ⊢;exact(step j d U s hj z).out)
 simp_all
def am2 {x:R α}(P:Nat->Env->Sto->Prop)(h:P 0 U s)
  (o:∀(j:Nat) (U:Env) (s:Sto),j<=l.length->P j U s->ok s=bY) (step:∀(j:Nat) (d:D) (U:Env) (s:Sto),l[j]?=al d->P j U s->Nx (P (j+1)) (g d U s))
  (z:∀ U' s',P l.length U' s'->f (.next U') s'=x):(am0 ok g l U s).bind f=x:=ah2 (Ww:=(·=x)) P h o step z
section
variable {F:Fns} {U:Env} {s:Sto}
@[simp] theorem zM  i :ev F (.X i) U s=aH4 U i s:=rfl
@[simp] theorem ev_cst  c :ev F (.K c) U s=.ok c.d s:=rfl
@[simp] theorem ev_bin  op   a b :ev F (.G op a b) U s=(ev F a U s).bind λ x s=>(ev F b U s).bind λ y s=>al8 op x y s:=rfl
@[simp] theorem ev_not  a :ev F (.not a) U s=tru (ev F a U s) λ b s=>.ok (.T (!b)) s:=rfl
@[simp] theorem ev_cmp  op   a b :ev F (.Z op a b) U s=(ev F a U s).bind λ x s=>(ev F b U s).bind λ y s=>js op x y s:=rfl
@[simp] theorem ev_isN  a :ev F (.isN a) U s=(ev F a U s).bind λ x s=>.ok (.T (decide (x=.N))) s:=rfl
@[simp] theorem ev_notN  a :ev F (.notN a) U s=(ev F a U s).bind λ x s=>.ok (.T (!decide (x=.N))) s:=rfl
@[simp] theorem ev_and  a b :ev F (.and a b) U s=tru (ev F a U s) λ c s=>if c then tru (ev F b U s) λ c s=>.ok (.T c) s else .ok (.T ce) s:=rfl
@[simp] theorem ev_or  a b :ev F (.or a b) U s=tru (ev F a U s) λ c s=>if c then .ok (.T bY) s else tru (ev F b U s) λ c s=>.ok (.T c) s:=rfl
@[simp] theorem ev_ite  c a b :ev F (.ite c a b) U s=tru (ev F c U s) λ k s=>if k then ev F a U s else ev F b U s:=rfl
@[simp] theorem ev_tup  es :ev F (.tp es) U s=(evs F es U s).bind λ l s=>.ok (.tp l) s:=rfl
@[simp] theorem ev_lst  es :ev F (.J es) U s=(evs F es U s).bind λ l s=>af9 (.J l) s:=rfl
@[simp] theorem ev_ix  a b :ev F (.ix a b) U s=(ev F a U s).bind λ x s=>(ev F b U s).bind λ y s=>ixM x y s:=rfl
@[simp] theorem ev_call  f   h :ev F (.call f h) U s=(af3 F h U s).bind λ l s=>F.call f l s:=rfl
@[simp] theorem jm  f   h :ev F (.callC f h) U s=(af3 F h U s).bind λ l s=>(F.call f l s).bind λ d s'=>if(d.ncl&&s'.all O.ncl)=bY then .ok d s' else .B:=rfl
@[simp] theorem ev_bi  b   es :ev F (.bi b es) U s=(evs F es U s).bind λ l s=>bi b l s:=rfl
@[simp] theorem ev_mk  k   it :ev F (.mk k it) U s=(evL F it U s).bind λ q s=>mk k q s:=rfl
@[simp] theorem ev_mkD  k   it   d :ev F (.mkD k it d) U s=(evL F it U s).bind λ q s=>(ev F d U s).bind λ d s=>mkD k q d s:=rfl
@[simp] theorem qu :mkq x s s r=r:=ef rfl
def bf7 (h:s[a]?=al (.J l))(g:t[a]?=al (.J m)):mkq (.ref a) s t r=r:=ef (show s[a]?.map O.kd=t[a]?.map O.kd by rw[h,g];rfl)
@[simp] theorem ev_meth  m   o   es :ev F (.me m o es) U s=(ev F o U s).bind λ x s=>(evs F es U s).bind λ l t=>mkq x s t (meth m x l t):=rfl
@[simp] theorem qd:evs F .nil U s=.ok [] s:=rfl
@[simp] theorem z5  e   es :evs F (.cons e es) U s=(ev F e U s).bind λ d s=>(evs F es U s).bind λ l s=>.ok (d::l) s:=rfl
@[simp] theorem qK:af3 F .nil U s=.ok [] s:=rfl
@[simp] theorem evas_ex  e   h :af3 F (.ex e h) U s=(ev F e U s).bind λ d s=>(af3 F h U s).bind λ l s=>.ok (d::l) s:=rfl
@[simp] theorem ck3  f   h :af3 F (.fn f h) U s=(af3 F h U s).bind λ l s=>.ok (.fn f::l) s:=rfl
@[simp] theorem evI_seq  e :evI F (.seq e) U s=(ev F e U s).bind λ d s=>aA0 d s:=rfl
@[simp] theorem cg4  es :evL F (.disp es) U s=evs F es U s:=rfl
@[simp] theorem evL_seq  e :evL F (.seq e) U s=(ev F e U s).bind λ d s=>aY3 d s:=rfl
def bL5 (x:D):M Sq:=λ s=>match x with|.int i=>if -Ww62<=i/\i<Ww62 then .ok ⟨ag2 0 i,[]⟩ s else .B|_=>.B
@[simp] theorem qI  a :evI F (.rg a) U s=(ev F a U s).bind λ x s=>bL5 x s:=rfl
def zC (h0:-Ww62<=i)(h:i<Ww62):bL5 (.int i) s=.ok ⟨ag2 0 i,[]⟩ s:=by unfold bL5;simp only[h0,h,and_self,if_true]
def nxt (F:Fns)(ss:Ss)(c:Ct)(s:Sto):R Ct:=match c with|.next U=>exs F ss U s|c=>.ok c s
@[simp] theorem zd  h   U   s :nxt F h (.next U) s=exs F h U s:=rfl
@[simp] theorem qX  h   d   s :nxt F h (.ret d) s=.ok (.ret d) s:=rfl
@[simp] theorem nxt_cont  h   U   s :nxt F h (.cont U) s=.ok (.cont U) s:=rfl
@[simp] theorem zu:exs F .nil U s=.ok (.next U) s:=rfl
@[simp] theorem za  st   h :exs F (.cons st h) U s=(ex F st U s).bind (nxt F h):=rfl
noncomputable def co8 (U:Option Env)(s:Sto):R Ct:=match U with|some U=>.ok (.next U) s|none=>.B
@[simp] theorem qB  U   s :co8 (al U) s=.ok (.next U) s:=rfl
@[simp] theorem ex_asg  tg   e :ex F (.A tg e) U s=(ev F e U s).bind λ d s=>co8 (jd U tg d) s:=rfl
@[simp] theorem ex_setIx  o i e :ex F (.setIx o i e) U s=(ev F e U s).bind λ d s=>(ev F o U s).bind λ x s=>(ev F i U s).bind λ y s=>(setIx x y d s).bind λ _ s=>.ok (.next U) s:=rfl
@[simp] theorem ex_ex  e :ex F (.ex e) U s=(ev F e U s).bind λ _ s=>.ok (.next U) s:=rfl
@[simp] theorem ex_ret  e :ex F (.ret e) U s=(ev F e U s).bind λ d s=>.ok (.ret d) s:=rfl
@[simp] theorem aY4:ex F .retN U s=.ok (.ret .N) s:=rfl
@[simp] theorem jy  c   a b :ex F (.ite c a b) U s=tru (ev F c U s) λ k s=>if k then exs F a U s else exs F b U s:=rfl
@[simp] theorem ex_whl  c   b :ex F (.whl c b) U s=whl (ev F c) (exs F b) U s:=rfl
def turn (F:Fns)(tg:Tg)(b:Ss)(d:D)(U:Env)(s:Sto):R Ct:=match jd U tg d with
 | some U=>exs F b U s
 | none=>.B
@[simp] theorem ex_for  tg   it   b :ex F (.fo tg it b) U s=(evI F it U s).bind λ q s0=>am0 (λ s=>chk s0 s q.src) (turn F tg b) q.its U s0:=rfl
@[simp] theorem ex_und  i :ex F (.und i) U s=co8 (aj2 U i) s:=rfl
@[simp] theorem zF  i   d :jd U (.Y i) d=as6 U i d:=rfl
@[simp] theorem bindT_tup  is   l :jd U (.tp is) (.tp l)=ap9 U is l:=rfl
@[simp] theorem setVs_nil:ap9 U [] []=al U:=rfl
@[simp] theorem setVs_cons  i   is   d   l :ap9 U (i::is) (d::l)=(as6 U i d).bind λ U=>ap9 U is l:=rfl
@[simp] theorem zL  d  (U:Env):aH4 (al d::U) 0 s=.ok d s:=rfl
@[simp] theorem zU  x  (U:Env)  i :aH4 (x::U) (i+1) s=aH4 U i s:=by unfold aH4;rw[List.getElem?_cons_succ]
@[simp] theorem qF  d   x  (U:Env):as6 (x::U) 0 d=al (al d::U):=rfl
@[simp] theorem setV_s  d   x  (U:Env)  i :as6 (x::U) (i+1) d=(as6 U i d).map (x::·):=by
 unfold as6;by_cases h:i < U.length
 .rw[ef (by simpa using h),ef h];rfl
 .rw[gc (by simpa using h),gc h];rfl
@[simp] theorem unsetV_0  x  (U:Env):aj2 (x::U) 0=al (aT::U):=rfl
@[simp] theorem unsetV_s  x  (U:Env)  i :aj2 (x::U) (i+1)=(aj2 U i).map (x::·):=by
 unfold aj2;by_cases h:i < U.length
 .rw[ef (by simpa using h),ef h];rfl
 .rw[gc (by simpa using h),gc h];rfl
@[simp] theorem Cn_int  i :(Cn.int i).d=.int i:=rfl
@[simp] theorem Cn_bl  i :(Cn.T i).d=.T i:=rfl
@[simp] theorem Cn_str  i :(Cn.str i).d=.str i:=rfl
@[simp] theorem Cn_non:Cn.N.d=.N:=rfl
@[simp] theorem add_int  a b :al8 .add (.int a) (.int b) s=.ok (.int (a+b)) s:=rfl
@[simp] theorem sub_int  a b :al8 .sub (.int a) (.int b) s=.ok (.int (a - b)) s:=rfl
def aQ3 (z:s[a]?=al (.J l))(B:s[b]?=al (.J m))(h:l.length+m.length<=LIM):al8 .add (.ref a) (.ref b) s=.ok (.ref s.length) (s++[.J (l++m)]):=by
 show(match s[a]?,s[b]? with|some (.J l),al (.J m)=>(if l.length+m.length<=LIM then af9 (.J (l++m)) s else .B)|_,_=>.B)=_;rw[z,B];exact ef h
def ag9 (h:mulOk a b=bY):al8 .mul (.int a) (.int b) s=.ok (.int (a*b)) s:=by show(if mulOk a b then _ else _:M D) s=_;rw[ef h];rfl
def ay6 (h:a.natAbs<2^64):mulOk a b=true:=by unfold mulOk;simp[h]
def bi6 (h:b.natAbs<2^64):mulOk a b=true:=by unfold mulOk;simp[h]
def ba3 (h:0<b):al8 .mod (.int a) (.int b) s=.ok (.int (a % b)) s:=by show(if 0<b then _ else _:M D) s=_;rw[ef h];rfl
def bF6:(10)^200<=(DIVL:Int):=by unfold DIVL;decide +kernel
def aM9 (h:0<b)(z:b<10^200):al8 .fdiv (.int a) (.int b) s=.ok (.int (a / b)) s:=by show(if 0<b/\b<(DIVL)then _ else _:M D) s=_;rw[ef ⟨h,Int.lt_of_lt_of_le z bF6⟩];rfl
def bc3 (h:0<=b/\b<=1000000/\a.natAbs<2^64):al8 .pow (.int a) (.int b) s=.ok (.int (a^b.toNat)) s:=by show(if _ then _ else _:M D) s=_;rw[ef h];rfl
@[simp] theorem lt_int  a b :js .lt (.int a) (.int b) s=.ok (.T (decide (a<b))) s:=rfl
@[simp] theorem le_int  a b :js .le (.int a) (.int b) s=.ok (.T (decide (a<=b))) s:=rfl
@[simp] theorem gt_int  a b :js .gt (.int a) (.int b) s=.ok (.T (decide (b<a))) s:=rfl
@[simp] theorem ge_int  a b :js .ge (.int a) (.int b) s=.ok (.T (decide (b<=a))) s:=rfl
@[simp] theorem eq_int  a b :js .eq (.int a) (.int b) s=.ok (.T (decide (a=b))) s:=rfl
@[simp] theorem ne_int  a b :js .ne (.int a) (.int b) s=.ok (.T (!decide (a=b))) s:=rfl
@[simp] theorem alloc_eq  o :af9 o s=.ok (.ref s.length) (s++[o]):=rfl
@[simp] theorem aX6  l :bi .len [.tp l] s=.ok (.int l.length) s:=rfl
@[simp] theorem bD8  l :bi .len [.str l] s=.ok (.int l.length) s:=rfl
def jD (h:s[r]?=al (.J l)):bi .len [.ref r] s=.ok (.int l.length) s:=by
 show bN3 (.ref r) s=_;unfold bN3;simp only[h]
def bz3 (h:s[r]?=al (.ro l)):bi .len [.ref r] s=.ok (.int l.length) s:=by
 show bN3 (.ref r) s=_;unfold bN3;simp only[h]
@[simp] theorem ci8  i :bi .abs [.int i] s=.ok (.int (if i<0 then -i else i)) s:=rfl
@[simp] theorem aL4  a b :bi .min2 [.int a,.int b] s=.ok (.int (if b<a then b else a)) s:=rfl
@[simp] theorem bp9  a b :bi .max2 [.int a,.int b] s=.ok (.int (if b > a then b else a)) s:=rfl
@[simp] theorem bT1  a :bi .isInt [.int a] s=.ok (.T bY) s:=rfl
@[simp] theorem bQ3  a :bi .isBool [.int a] s=.ok (.T ce) s:=rfl
@[simp] theorem bW0  l :bi .isTup [.tp l] s=.ok (.T bY) s:=rfl
def cj2 {j:Nat}(h:s[r]?=al (.ro l))(hj:l[j]?=al d):ixM (.ref r) (.int (j)) s=.ok d s:=by
 have z:=(ag.mp hj).1;have e:=(ag.mp hj).2;simp[ixM,h,ixn,z,e]
def au6 {j:Nat}(h:s[r]?=al (.J l))(hj:l[j]?=al d):ixM (.ref r) (.int (j)) s=.ok d s:=by
 have z:=(ag.mp hj).1;have e:=(ag.mp hj).2;simp[ixM,h,ixn,z,e]
def ix_tup {j:Nat}(hj:l[j]?=al d):ixM (.tp l) (.int (j)) s=.ok d s:=by
 have h:=(ag.mp hj).1;have e:=(ag.mp hj).2;simp[ixM,ixn,h,e]
def bE3 {j:Nat}(h:s[r]?=al (.J l))(z:j<l.length):setIx (.ref r) (.int (j)) v s=.ok () (s.set r (.J (l.set j v))):=by
 simp[setIx,h,ixn,z]
def zI (h:s[r]?=al (.J l))(z:l.length<LIM):meth .append (.ref r) [v] s=.ok .N (s.set r (.J (l++[v]))):=by
 show(match s[r]? with|some (.J l)=>(if l.length<LIM then R.ok D.N (s.set r (.J (l++[v])))else .B)|_=>.B)=_;rw[h];exact ef z
end
def aK1  s t  b :∃ s',ab7 s (.T b) t=.ok (.T b) s':=by
 unfold ab7;by_cases h:ag1 s t=bY
 .rw[ef h];exact⟨_,rfl⟩
 .rw[gc h];exact⟨_,rfl⟩
def Yes (r:R D):Prop:=∃ s',r=.ok (.T bY) s'
def aA2  s t :Yes (ab7 s (.T bY) t):=aK1 s t bY
def qO {j:Nat}(h:(ag2 a b)[j]?=al d):(j)<b - a/\d=.int (a+j):=by
 have hj:=(ag.mp h).1;simp only[ag2,aw,gG]at hj;unfold ag2 at h
 simp_all
def co7 (P:Pr)(k:Nat):Prop:=∀ ns:List Int,ns.length<=63->Yes ((aa0 P k).call "law" [.ref 0] [.ro (ns.map D.int)])
noncomputable def qE:Option Int->D
 | none=>.N
 | some i=>.int i
@[simp] theorem ai2:qE aT=.N:=rfl
@[simp] theorem jc  i :qE (al i)=.int i:=rfl
@[simp] theorem qS  p   n :(qE p).bnd n=true:=by cases p<;>rfl
def ax7  p  r :qE p≠.ref r:=by cases p<;>nofun
@[simp] theorem aU2 :ab7 s (qE p) s=.ok (qE p) s:=zq (qS p) (ax7 p)
noncomputable def cu2 (b:Nat×Nat):O:=.J [.int b.1,.int b.2]
@[simp] theorem cg6  b   n :(cu2 b).bnd n=true:=rfl
noncomputable def tkW (many:Nat):Nat->Nat->Nat->Nat->Nat×Nat
 | 0,mix,num,_=>(num,mix)
 | n+1,mix,num,room=>if room<many then tkW many n ((mix*48271+7919) % 2147483647) (num*1073741789+(mix*48271+7919) % 2147483647 / 8*69621 % 1073741789) (room*1073741789)else(num,mix)
def tk (b:Nat×Nat)(many:Nat):Nat×(Nat×Nat) :=
 if 0<b.1 then(b.1 % many,(b.1 / many,b.2))else let r:=tkW many 12 b.2 0 1;(r.1 % many,(b.1,r.2))
def bF0 { t:Sto}(h:r<s.length):(s++t).set r o=s.set r o++t:=by simp_all
def ji { t:Sto}{r:Nat}(h:s[r]?=al o):(s++t)[r]?=al o:=by
 rw[aD (ag.mp h).1];exact h
def zX {s:Sto}(h:r<s.length):(s.set r o)[r]?=al o:=bA h
def bd (b:Nat×Nat):Nat×(Nat×Nat) :=
 let x0:=tk b 3
 let x1:=tk x0.2 13
 let x2:=tk x1.2 1000000000
 let x3:=tk x2.2 1000000000000000000000000000000
 let i:=tk x3.2 4
 ([x0.1,x1.1,x2.1,x3.1].getD i.1 0,i.2)
section
variable {F:Fns} {U:Env} {s:Sto}
def qc (F:Fns)(tg:Tg)(e:E)(d:D)(U:Env)(s:Sto):R (Option D×Env):=match jd U tg d with
 | some U=>(ev F e U s).bind λ v s=>.ok (al v,U) s
 | none=>.B
def be8 (F:Fns)(tg:Tg)(c e:E)(d:D)(U:Env)(s:Sto):R (Option D×Env):=match jd U tg d with
 | some U=>tru (ev F c U s) λ k s=>if k then(ev F e U s).bind λ v s=>.ok (al v,U) s else .ok (aT,U) s
 | none=>.B
@[simp] theorem qR  tg   it   e   h :evL F (.comp tg it e h) U s=(evI F it U s).bind λ q s0=>if q.its.length<=LIM then qy (λ s=>chk s0 s q.src) (qc F tg e) q.its (zN U h) s0 else .B:=rfl
@[simp] theorem at2  tg   it   c e   h :evL F (.compIf tg it c e h) U s=(evI F it U s).bind λ q s0=>if q.its.length<=LIM then qy (λ s=>chk s0 s q.src) (be8 F tg c e) q.its (zN U h) s0 else .B:=rfl
@[simp] theorem cr3  a h :ev F (.slU a h) U s=(ev F a U s).bind λ x s=>(ev F h U s).bind λ y s=>match y with|.int i=>slM x aT (al i) s|_=>.B:=rfl
end
theorem an2 (P:Env->Sto->Prop) f :∀ l   U   s ,P U s ->
  (∀ U s,P U s->ok s=bY)->(∀ d∈l,∀ U s,P U s->∃ U' s',g d U s=.ok (f d,U') s'/\P U' s')->∃ U' s',qy ok g l U s=.ok (l.filterMap f) s'/\P U' s'
 | [],U,s,h,o,_=>⟨U,s,by unfold qy;rw[ef (o U s h)];rfl,h⟩
 | d::l,U,s,h,o,st=>by
  obtain⟨U1,s1,e1,z⟩:=st d (ar ..) U s h;obtain⟨U2,s2,e2,B⟩:=an2 P f l U1 s1 z o λ x hx=>st x (ah _ hx);refine⟨U2,s2,?_,B⟩;unfold qy;rw[ef (o U s h),e1];simp only[R.bind_ok];rw[e2,bu];cases f d<;>rfl
def ar3 {k:Int}(h:k<=1000):k<=10^90:=fu h (by decide)
def zt (h:∀ d∈l,∀ n,d.bnd n=bY) n :D.bndL n l=true:=by
 induction l with
 | nil=>rfl
 | cons d l ih=>unfold D.bndL;rw[h d (ar ..),ih λ x hx=>h x (ah _ hx)];rfl
def bA0 {k:Nat}(h:k<3) s :ixM (.str [97,98,99]) (.int (k)) s=.ok (.str [97+k]) s:=by
 match k,h with
 | 0,_=>rfl
 | 1,_=>rfl
 | 2,_=>rfl
def bM4 (h:a.length+b.length<=LIM):al8 .add (.str a) (.str b) s=.ok (.str (a++b)) s:=by
 show(if a.length+b.length<=LIM then _ else _:M D) s=_;rw[ef h];rfl
def Lts (L:Nat)(w:List Nat):Prop:=∀ c∈w,97<=c/\c<97+L
noncomputable def bV2 (L:Nat)(d:D):Bool:=match d with
 | .str w=>decide (w.length<=200)&&w.all λ c=>decide (97<=c/\c<97+L)
 | _=>ce
def qY [HasC P x v]{n}{U}{s}:ev (aa0 P n) (.gl x) U s=.ok v s:=by
 show(match(aa0 P n).con x with|some d=>R.ok d s|none=>.B)=_;rw[aY8 (v:=v)]
noncomputable abbrev aF2:List D:=[.str [97],.str [98],.str [99]]
def bJ8 {L:Nat}(h:L<=3) s :slM (.tp aF2) aT (al (L)) s=.ok (.tp (aF2.take L)) s:=by
 match L,h with
 | 0,_=>rfl
 | 1,_=>rfl
 | 2,_=>rfl
 | 3,_=>rfl
def aU3 [Has P ac8][HasC P "LETTERS" (.tp aF2)] n {L:Nat}(h:L<=3) l  s :(aa0 P (n+1)).call "letters_of" [.tp (.int L::l)] s=.ok (.tp (aF2.take L)) s:=by
 refine(zl ac8 rfl).trans ?_;have z:ixM (.tp (.int L::l)) (.int ((0:Nat))) s=.ok (.int L) s:=ix_tup rfl;simp [ac8,qY (v:=.tp aF2)];rw[show(0)=((0:Nat):Int)from rfl,z];simp only[R.bind_ok];rw[bJ8 h];simp
 match L,h with
 | 0,_=>exact zq (λ _=>rfl) (by nofun)
 | 1,_=>exact zq (λ _=>rfl) (by nofun)
 | 2,_=>exact zq (λ _=>rfl) (by nofun)
 | 3,_=>exact zq (λ _=>rfl) (by nofun)
noncomputable def NR (Q:Env->Sto->Prop)(Z:D->Sto->Prop):R Ct->Prop
 | .ok (.next U) s=>Q U s
 | .ok (.cont U) s=>Q U s
 | .ok (.ret d) s=>Z d s
 | _=>False
def bK5 (e:r=.ok (.next U) s)(h:Q U s):NR Q Z r:=by rw[e];exact h
def bS9 (e:r=.ok (.ret d) s)(h:Z d s):NR Q Z r:=by rw[e];exact h
set_option tactic.hygienic true in
theorem for_ret (P:Nat->Env->Sto->Prop) Z :∀ l   k   U   s ,
  P k U s->(∀ j   U   s ,j<=l.length->P (k+j) U s->ok s=bY)->(∀ j   d   U   s ,l[j]?=al d->P (k+j) U s->NR (P (k+j+1)) Z (g d U s)) ->
  (∃ U' s',am0 ok g l U s=.ok (.next U') s'/\P (k+l.length) U' s')\/∃ d s',am0 ok g l U s=.ok (.ret d) s'/\Z d s'
 | [],k,U,s,h,o,_=>.inl ⟨U,s,by show(if ok s then _ else _)=_;rw[ef (o 0 U s (aj _) h)],h⟩
 | d::l,k,U,s,h,o,t=>by
  have ho:=o 0 U s (cq _) h;have h0:=t 0 d U s rfl h;have e:am0 ok g (d::l) U s=(g d U s).bind λ c s=>match c with
   | .next U=>am0 ok g l U s
   | .cont U=>am0 ok g l U s
   | .brk U=>.ok (.next U) s
   | .ret d=>.ok (.ret d) s:=by
   show(if ok s then _ else _)=_;rw[ef ho]<;>rfl
  have go:∀ U1 s1,P (k+0+1) U1 s1->(∃ U' s',am0 ok g l U1 s1=.ok (.next U') s'/\P (k+(d::l).length) U' s')\/∃ d s',am0 ok g l U1 s1=.ok (.ret d) s'/\Z d s':=λ U1 s1 z=>by
   have:=for_ret P Z l (k+1) U1 s1 z (λ j U' s' hj B=>o (j+1) U' s' (by simp_all) (by rwa [show k+(j+1)=k+1+j by omega])) λ j d' U' s' hj B=>by
    have:=t (j+1) d' U' s' (by simpa using hj) (by rwa [show k+(j+1)=k+1+j by omega])
    rwa [show k+(j+1)+1=k+1+j+1 by omega]at this
   rwa [aP,show k+(l.length+1)=k+1+l.length by omega]
  rw[e];cases hg:g d U s with
  | B=>rw[hg]at h0;exact h0.elim
  | exc a b=>rw[hg]at h0;exact h0.elim
  | ok c s1 =>
   rw[hg]at h0;cases c with
   | next U1=>exact go U1 s1 h0
   | cont U1=>exact go U1 s1 h0
   | brk U1=>exact h0.elim
   | ret v=>exact .inr ⟨v,s1,rfl,h0⟩
def aU0 {Ww:R α->Prop}(P:Nat->Env->Sto->Prop) Z (h:P 0 U s)
  (o:∀(j:Nat) (U:Env) (s:Sto),j<=l.length->P j U s->ok s=bY) (step:∀(j:Nat) (d:D) (U:Env) (s:Sto),l[j]?=al d->P j U s->NR (P (j+1)) Z (g d U s))
  (B:∀ U' s',P l.length U' s'->Ww (f (.next U') s')) (hz:∀ d s',Z d s'->Ww (f (.ret d) s')):Ww ((am0 ok g l U s).bind f):=by
 rcases for_ret P Z l 0 U s h (λ j U s hj z=>o j U s hj (by simp_all)) (λ j d U s hj z=>by
  rw[bN]at z ⊢;exact step j d U s hj z)with⟨U',s',e,q⟩|⟨d,s',e,q⟩
 all_goals simp_all
structure Dr where
 a:Nat
 l:Nat
 b:Nat
 t:Nat
noncomputable def Dr.d (x:Dr):D:=.tp [.int x.a,.str [x.l],.int x.b,.int x.t]
structure Mc where
 L:Nat
 R:Nat
 bg:List Nat
 en:List Nat
 ds:List Dr
noncomputable def ch7 (l:List Nat):List D:=l.map λ(k:Nat)=>D.int (k)
noncomputable def sg (w:List Nat):List D:=w.map λ c=>.str [c]
def Mc.ps (m:Mc):List D:=[.int m.L,.int m.R,.tp (ch7 m.bg),.tp (ch7 m.en),.tp (m.ds.map Dr.d)]
noncomputable def Mc.d (m:Mc):D:=.tp m.ps
structure Dr.Ok (m:Mc)(x:Dr):Prop where
 a:x.a<m.R
 l:97<=x.l/\x.l<97+m.L
 b:x.b<m.R
 t:x.t<4
structure Mc.Ok (m:Mc):Prop where
 L1:1<=m.L
 L3:m.L<=3
 R1:1<=m.R
 R5:m.R<=5
 bg:(∀ k∈m.bg,k<m.R)/\m.bg.Pairwise (· < ·)
 en:(∀ k∈m.en,k<m.R)/\m.en.Pairwise (· < ·)
 ds:(∀ x∈m.ds,x.Ok m)/\m.ds.length<=75
def aO9 :∀ d∈ch7 l,∀ n,d.bnd n=true:=λ d hd n=>by
 obtain⟨c,_,rfl⟩:=ao.mp hd;rfl
def aZ6 {l:List Dr}:∀ d∈l.map Dr.d,∀ n,d.bnd n=true:=λ d hd n=>by
 obtain⟨c,_,rfl⟩:=ao.mp hd;rfl
def bC1 {m:Mc}:∀ d∈m.ps,∀ n,d.bnd n=true:=λ d hd n=>by
 simp only[Mc.ps,aB,dA,or_false]at hd;rcases hd with rfl|rfl|rfl|rfl|rfl
 .rfl
 .rfl
 .unfold D.bnd;exact zt aO9 n
 .unfold D.bnd;exact zt aO9 n
 .unfold D.bnd;exact zt aZ6 n
def bY0 (m:Mc) n :m.d.bnd n=true:=by unfold Mc.d D.bnd;exact zt bC1 n
section
variable {P:Pr}
def bK0 (j:Nat)(h:l[j]?=al d):ixM (.tp l) (.int (j)) s=.ok d s:=ix_tup h
def ixL (m:Mc) s :ixM m.d (.int 0) s=.ok (.int m.L) s:=bK0 0 rfl
def ixR (m:Mc) s :ixM m.d (.int 1) s=.ok (.int m.R) s:=bK0 1 rfl
def ixD (m:Mc) s :ixM m.d (.int 4) s=.ok (.tp (m.ds.map Dr.d)) s:=bK0 4 rfl
def ap8 [Has P ac4] n (m:Mc) s :(aa0 P (n+1)).call "rooms_of" [m.d] s=.ok (.int m.R) s:=by
 refine(zl ac4 rfl).trans ?_;simp [ac4,ixR]
def bj1 (h:∀ d∈l,∀ n,d.bnd n=bY):ab7 s (.tp l) s=.ok (.tp l) s:=zq (λ n=>by unfold D.bnd;exact zt h n) (by nofun)
def aK2 [Has P ac1] n (m:Mc) s :(aa0 P (n+1)).call "doors_of" [m.d] s=.ok (.tp (m.ds.map Dr.d)) s:=by
 refine(zl ac1 rfl).trans ?_;simp [ac1,ixD,bj1 aZ6]
def bb9 (h:a<b):ag2 a b=.int a::ag2 (a+1) b:=by
 unfold ag2;obtain⟨n,hn⟩:∃ n,(b - a).toNat=n+1:=⟨(b - a).toNat - 1,by lia⟩
 rw[hn,show(b - (a+1)).toNat=n by omega,cF,aR,cz]
 congr 1
 .simp
 .apply dj
  grind
@[simp] theorem co5  a b   s :js .ne (.str [a]) (.str [b]) s=.ok (.T (!decide (a=b))) s:=by
 show(match eqv s DEEP (.str [a]) (.str [b])with|some r=>R.ok (D.T (!r)) s|none=>.B)=_;have:eqv s DEEP (.str [a]) (.str [b])=al ([a]==[b]):=rfl;rw[this];have e:([a]==[b])=decide (a=b):=by rw[fU];simp
 rw[e]
@[simp] theorem bg1  a b   s :js .eq (.str [a]) (.str [b]) s=.ok (.T (decide (a=b))) s:=by
 show(match eqv s DEEP (.str [a]) (.str [b])with|some r=>R.ok (D.T r) s|none=>.B)=_;have:eqv s DEEP (.str [a]) (.str [b])=al ([a]==[b]):=rfl;rw[this];have e:([a]==[b])=decide (a=b):=by rw[fU];simp
 rw[e]
end
def good_of {L}(h:w.length<=200)(hw:Lts L w):bV2 L (.str w)=true:=by
 unfold bV2;simp only[h,decide_true,dh,aI,li];exact hw
noncomputable def jI (N:Int):O:=.J [.int N]
def bA8 {s:Sto}(h:∃ N,s[r]?=al (jI N)):r<s.length:=by obtain⟨b,hb⟩:=h;exact(ag.mp hb).1
def aY9 {s:Sto}(h:r<s.length):∃ z,(s.set r (jI b))[r]?=al (jI z):=⟨b,zX h⟩
def aG6 [Has P af4] n {s}{r}(hs:∃ N,s[r]?=al (jI N)) z (h0:0<z)(h:z<=10^90) :
  ∃(k:Nat) (N:Int),(k:Int)<z/\(aa0 P (n+1)).call "_law_draw" [.ref r,.int z] s=.ok (.int k) (s.set r (jI N)):=by
 obtain⟨N,hN⟩:=hs;have Uu:(aa0 P (n+1)).call "_law_draw" [.ref r,.int z] s=_:=zl af4 rfl;have B:z<10^200:=by
  lia
 have Y:=lx N (show z≠0 by lia);have Z:=kh N h0;refine⟨(N % z).toNat,N / z,by lia,?_⟩;rw[Uu];have J:s[r]?=al (.J [.int N]):=hN;simp [af4,ixM,J,ixn,ba3 h0,aM9 h0 B,setIx];rw[show max (N % z) 0=N % z by lia];exact aR1 (λ _=>rfl) (by nofun) rfl
def cs4 (s:Sto)(x:R D):Prop:=∃ N,x=.ok (.ref s.length) (s++[jI N])
def bU3 [Has P aq8] n (ns:List Int)(k:Nat){s:Sto}{r:Nat}(hs:s[r]?=al (.ro (ns.map D.int))) :
  ∃ N:Int,(aa0 P (n+1)).call "_law_box" [.ref r,.int k] s=.ok (.ref s.length) (s++[jI N]):=by
 have e0:(aa0 P (n+1)).call "_law_box" [.ref r,.int k] s=_:=zl aq8 (n:=n) rfl;have z:bi .len [.ref r] s=.ok (.int ns.length) s:=by rw[bz3 hs,aw]
 have Y:∀ a:Int,mulOk 7919 a=true:=λ a=>ay6 (by decide);have m2:∀ a:Int,mulOk a 48271=true:=λ a=>bi6 (by decide);have Uu:∀ a:Int,mulOk 104729 a=true:=λ a=>ay6 (by decide);have Z:∀ a:Int,mulOk a 2147483647=true:=λ a=>bi6 (by decide);have m5:∀ a:Int,mulOk 31 a=true:=λ a=>ay6 (by decide);have m6:∀ a:Int,mulOk (a % 2147483647) (a % 2147483647)=true:=λ a=>ay6 (by
  lia)
 have J:∀ N:Int,ab7 s (.ref s.length) (s++[.J [.int N]])=.ok (.ref s.length) (s++[jI N]):=λ N=>by
  have:=bf1 (s:=s) (t:=[]) (u:=[]) (o:=jI N) rfl;simp only[fT,mF,ir]at this;exact this
 have h:∀ c:Int,cs4 s ((exs (aa0 P n) (.cons (.ite (.Z .ge (.X 2) (.G .pow (.K (.int 10)) (.K (.int 18)))) (.cons (.ret (.J (.cons (.X 2) .nil))) .nil) .nil) (.cons (.A (.Y 3) (.K (.int 0))) (.cons (.fo (.Y 4) (.rg (.K (.int 128))) (.cons (.A (.Y 5) (.G .mod (.G .mul (.G .add (.G .add (.G .add (.G .mod (.X 2) (.K (.int 2147483647))) (.G .mul (.K (.int 7919)) (.X 1))) (.G .mul (.K (.int 104729)) (.X 4))) (.K (.int 97))) (.K (.int 48271))) (.K (.int 2147483647)))) (.cons (.A (.Y 3) (.G .add (.G .mul (.X 3) (.K (.int 2147483647))) (.G .mod (.G .add (.G .add (.G .mul (.X 5) (.X 5)) (.G .mul (.K (.int 31)) (.X 4))) (.G .fdiv (.X 2) (.K (.int 2147483647)))) (.K (.int 2147483647))))) .nil))) (.cons (.ret (.J (.cons (.X 3) .nil))) .nil))))
   [al (.ref r),al (.int k),al (.int c),aT,aT,aT] s).bind (fin s)):=by
  intro c;by_cases hc:(10:Int)^18<=c
  .have B:(1000000000000000000:Int)<=c:=hc;exact⟨c,by simp -implicitDefEqProofs [bc3,B,J]⟩
  .have B:¬(1000000000000000000:Int)<=c:=hc;simp [bc3,B];rw[zC (by decide) (by decide)];simp only[R.bind_ok];refine ah2 (Ww:=cs4 s) (λ j U t=>t=s/\∃(N:Int) (x y:Option D),U=[al (.ref r),al (.int k),al (.int c),al (.int N),x,y]) ⟨rfl,0,_,_,rfl⟩ (λ _ _ _ _ _=>rfl) ?_ ?_
   .rintro j d U t hj ⟨rfl,N,x,y,rfl⟩
    obtain⟨_,rfl⟩:=qO hj
    conv=>arg 2;simp [turn,ag9 (Y _),ag9 (m2 _),ag9 (Uu _),ag9 (Z _),ag9 (m5 _),ag9 (m6 _),ba3,aM9]
    exact⟨rfl,_,_,_,rfl⟩
   .rintro U t ⟨rfl,N,x,y,rfl⟩
    exact⟨N,by simp_all⟩
 rw[e0];by_cases hk:k<ns.length
 .have hx:ixM (.ref r) (.int k) s=.ok (.int (ns.getD k 0)) s:=cj2 hs (by simp[hk]);obtain⟨N,e⟩:=h (if ns.getD k 0<0 then -ns.getD k 0 else ns.getD k 0);refine⟨N,?_⟩;rw[<-e];simp [aq8,z,hk,hx]
 .obtain⟨N,e⟩:=h 0;refine⟨N,?_⟩;rw[<-e];simp [aq8,z,hk]
def two {l:List D}(h:l.length=2):∃ a b,l=[a,b]:=by
 match l,h with
 | [a,b],_=>exact⟨a,b,rfl⟩
def jE [Has P af4] n {s t:Sto}{r}(hr:r<s.length) b  z (h0:0<z)(h:z<=10^90) :
  ∃(k:Nat) (B:Int),(k:Int)<z/\(aa0 P (n+1)).call "_law_draw" [.ref r,.int z] (s.set r (jI b)++t)=.ok (.int k) (s.set r (jI B)++t):=by
 obtain⟨k,B,J,Uu⟩:=aG6 (P:=P) n ⟨b,ji (zX hr)⟩ z h0 h;refine⟨k,B,J,?_⟩;rw[Uu,bF0 (by rw[bw];exact hr),mG]
def bg9 {s t:Sto}(h:l.length<LIM):meth .append (.ref s.length) [v] (s.set r (jI b)++(.J l::t))=.ok .N (s.set r (jI b)++(.J (l++[v])::t)):=by
 rw[zI (by simp_all) h]
 simp_all
noncomputable def row (m:Nat)(f:Nat->Int):List D:=(am m).map λ j=>.int (f j)
def gd (m:Nat)(f:Nat->Nat->Int):D:=.tp ((am m).map λ i=>.tp (row m (f i)))
def jC (h:j<m):(row m f)[j]?=al (.int (f j)):=by
 unfold row;rw[aL,bQ h];rfl
@[simp] theorem be5 :(row m f).length=m:=by unfold row;simp
def bN0  n :D.bndL n (row m f)=true:=zt (λ d hd n=>by
 obtain⟨j,_,rfl⟩:=ao.mp hd;rfl) n
def ba2 (h:∀ j,j<m->f j=g j):row m f=row m g:=by
 unfold row;simp_all
def ah5  n :(gd m f).bnd n=true:=by
 unfold gd D.bnd;exact zt (λ d hd n=>by
  obtain⟨j,_,rfl⟩:=ao.mp hd;unfold D.bnd;exact bN0 n) n
def as5 (h:i<m) s :ixM (gd m f) (.int (i)) s=.ok (.tp (row m (f i))) s :=
 ix_tup (by rw[aL,bQ h];rfl)
def qD (h:j<m) s :ixM (.tp (row m f)) (.int (j)) s=.ok (.int (f j)) s:=ix_tup (jC h)
def cd0  s :aA0 (gd m f) s=.ok ⟨(am m).map λ i=>.tp (row m (f i)),[]⟩ s:=rfl
def aK4  s :aA0 (.tp l) s=.ok ⟨l,[]⟩ s:=rfl
def bo9 (h:∀ i j,i<m->j<m->f i j=g i j):gd m f=gd m g:=by
 unfold gd
 congr 1
 exact dj λ i z=>by rw[ba2 λ j hj=>h i j (bE.mp z) hj]
def az4 (P:Env->Sto->Prop) f  l  U  s (h:P U s)
  (o:∀ U s,P U s->ok s=bY) (st:∀ d∈l,∀ U s,P U s->∃ U' s',g d U s=.ok (al (f d),U') s'/\P U' s'):∃ U' s',qy ok g l U s=.ok (l.map f) s'/\P U' s':=by
 obtain⟨U',s',e,p⟩:=an2 P (λ d=>al (f d)) l U s h o st;refine⟨U',s',?_,p⟩
 simp_all
def qH (P:Env->Sto->Prop) f (n:Nat) U  s (h:P U s)
  (o:∀ U s,P U s->ok s=bY) (st:∀ j,j<n->∀ U s,P U s->∃ U' s',g (.int (j:Int)) U s=.ok (al (f j),U') s'/\P U' s'):∃ U' s',qy ok g (ag2 0 (n)) U s=.ok ((am n).map f) s'/\P U' s':=by
 obtain⟨U',s',e,p⟩:=az4 (g:=g) P (λ d=>match d with|.int i=>f i.toNat|d=>d) (ag2 0 (n)) U s h o λ d hd U s z=>by
  obtain⟨j,hj⟩:=fN hd;obtain⟨B,rfl⟩:=qO hj
  simp_all
 refine⟨U',s',?_,p⟩;rw[e]
 congr 1
 unfold ag2
 simp_all
def zy (n:Nat):(ag2 0 (n)).length=n:=by simp[ag2]
def jh {n :Nat}(h:(ag2 0 (n:Int))[j]?=al d):j<n/\d=.int (j):=by
 obtain⟨z,rfl⟩:=qO h;lia
def bk5 :(row m f).map (λ _=>D.int i)=row m λ _=>i:=by
 unfold row;rw[cz];rfl
def aJ7 { t:Sto}(h:l.length<LIM):meth .append (.ref s.length) [v] (s++.J l::t)=.ok .N (s++.J (l++[v])::t):=by
 rw[zI (by rw[ay (aj _)];simp) h,cJ _ _ (aj _)];simp
def ax2 {s t:Sto}{o:O}:(s++x::(t++[o]))[s.length+(t.length+1)]?=al o:=by
 simp_all
noncomputable def prN (f g:Nat->Nat->Int)(i j:Nat):Nat->Int
 | 0=>3
 | k+1=>if f i k<3 then(let b:=(if g k j > f i k then g k j else f i k);if b<prN f g i j k then b else prN f g i j k)else prN f g i j k
def pr (m:Nat)(f g:Nat->Nat->Int)(i j:Nat):Int:=prN f g i j m
def aj7 [Has P ab6] n {m}(Z:m<=5) f g  s  :
  (aa0 P (n+1)).call "_law_product" [gd m f,gd m g] s=.ok (gd m (pr m f g)) s:=by
 have Y:(aa0 P (n+1)).call "_law_product" [gd m f,gd m g] s=_:=zl ab6 rfl;rw[Y]
 conv=>lhs;simp only[ab6]
 simp [];refine am2 (λ i U t=>∃ T   x y z ,U=[al (gd m f),al (gd m g),al (.ref s.length),x,y,z]/\t=s++.J ((am i).map λ i=>.tp (row m (pr m f g i)))::T) ⟨[],aT,aT,aT,rfl,rfl⟩ (λ _ _ _ _ _=>rfl) ?_ ?_
 .rintro i d U t hi ⟨T,x,y,z,rfl,rfl⟩
  have J:=by have:=(ag.mp hi).1;simpa using this
  have hd:=by rw[aL,bQ J]at hi;exact(av hi).symm
  subst hd
  conv=>arg 2;simp -implicitDefEqProofs [turn,aK4]
  rw[ef (by unfold LIM;lia)];obtain⟨U1,s1,e1,Uu⟩:=az4 (ok:=λ s1=>chk (s++.J ((am i).map λ i=>.tp (row m (pr m f g i)))::T) s1 []) (g:=qc (aa0 P n) (.Y 0) (.K (.int 3))) (λ U u=>u=s++.J ((am i).map λ i=>.tp (row m (pr m f g i)))::T/\∃ x,U=[x]) (λ _=>.int 3) (row m (f i)) (zN [al (gd m f),al (gd m g),al (.ref s.length),al (.tp (row m (f i))),y,z] [aT]) _ ⟨rfl,aT,rfl⟩ (λ _ _ _=>rfl) (by
   rintro d _ U u ⟨rfl,x,rfl⟩
   exact⟨_,_,rfl,rfl,_,rfl⟩)
  obtain⟨rfl,_⟩:=Uu;rw[bk5]at e1;rw[e1];simp -implicitDefEqProofs [mk];rw[zC (by unfold Ww62;lia) (by unfold Ww62;lia)];simp only[R.bind_ok];refine ah2 (λ k U t=>∃(T:Sto) (p:Nat) (z:Option D),U=[al (gd m f),al (gd m g),al (.ref s.length),al (.tp (row m (f i))),al (.ref p),z]/\t=s++.J ((am i).map λ i=>.tp (row m (pr m f g i)))::T/\t[p]?=al (.J (row m λ j=>prN f g i j k))) ⟨T++[.J (row m λ _=>3)],s.length+(T.length+1),z,rfl,rfl,ax2⟩ (λ _ _ _ _ _=>rfl) ?_ ?_
  .rintro k d U t hk ⟨T,p,z,rfl,rfl,B⟩
   obtain⟨h,rfl⟩:=jh hk;by_cases h3:f i k<3
   .conv=>arg 2;simp -implicitDefEqProofs [turn,qD h,h3]
    rw[zC (by unfold Ww62;lia) (by unfold Ww62;lia)];simp only[R.bind_ok];rw[ef (by rw[zy];unfold LIM;lia)];obtain⟨U1,s1,e1,Uu⟩:=qH (ok:=λ s1=>chk (s++.J ((am i).map λ i=>.tp (row m (pr m f g i)))::T) s1 []) (g:=qc (aa0 P n) (.Y 0) (.bi .min2 (.cons (.ix (.X 1) (.X 0)) (.cons (.bi .max2 (.cons (.ix (.X 2) (.X 3)) (.cons (.ix (.ix (.X 4) (.X 3)) (.X 0)) .nil))) .nil)))) (λ U u=>u=s++.J ((am i).map λ i=>.tp (row m (pr m f g i)))::T/\∃ x,U=[x,al (.ref p),al (.tp (row m (f i))),al (.int k),al (gd m g)]) (λ j=>.int (prN f g i j (k+1))) m (zN [al (gd m f),al (gd m g),al (.ref s.length),al (.tp (row m (f i))),al (.ref p),al (.int (k:Int))] [aT,al 4,al 3,al 5,al 1]) _ ⟨rfl,aT,rfl⟩ (λ _ _ _=>rfl) (by
     rintro j hj U u ⟨rfl,x,rfl⟩
     refine⟨[al (.int j),al (.ref p),al (.tp (row m (f i))),al (.int k),al (gd m g)],_,?_,rfl,_,rfl⟩;simp -implicitDefEqProofs [qc,qD h,as5 h,qD hj,au6 B (jC hj),prN,h3])
    obtain⟨rfl,_⟩:=Uu;rw[e1];simp -implicitDefEqProofs [mk];rfl
   .refine bL1 (U:=[al (gd m f),al (gd m g),al (.ref s.length),al (.tp (row m (f i))),al (.ref p),al (.int k)]) ?_ ⟨T,p,_,rfl,rfl,?_⟩
    .simp -implicitDefEqProofs [turn,qD h,h3]
    .rw[B];simp[prN,h3]
  .rintro U t ⟨T,p,z,rfl,rfl,B⟩
   rw[zy]at B;simp -implicitDefEqProofs [aY3,B,mk];rw[aJ7 (by unfold LIM;simp;lia)];simp -implicitDefEqProofs;rw[dM,aS];rfl
 .rintro U t ⟨T,x,y,z,rfl,rfl⟩
  have h0:(s++.J ((am m).map λ i=>D.tp (row m (pr m f g i)))::T:Sto)[s.length]?=al (.J ((am m).map λ i=>D.tp (row m (pr m f g i)))):=by rw[ay (aj _)];simp
  simp -implicitDefEqProofs [aY3,h0,mk];exact zG (d:=gd m (pr m f g)) ah5 (by nofun)
def McB (s:Sto)(r:Nat)(x:R D):Prop:=∃(m:Mc) (b:Int),m.Ok/\x=.ok m.d (s.set r (jI b))
def ai3 (m:Nat)(f:Nat->Nat->Int):Sto:=(am m).map λ i=>.J (row m (f i))
@[simp] theorem aX1 :(ai3 m f).length=m:=by unfold ai3;simp
def ah6 (h:i<m):(ai3 m f)[i]?=al (.J (row m (f i))):=by
 unfold ai3;rw[aL,bQ h];rfl
def bD5 :(row m f).set b (.int v)=row m λ j=>if j=b then v else f j:=by
 apply gJ;intro j;by_cases hj:j<m
 .rw[jC hj];by_cases e:j=b
  .simp_all
  .rw[aC (λ z=>e z.symm),jC hj,gc e]
 simp_all
def bc6 :(ai3 m f).set a (.J ((row m (f a)).set b (.int v)))=ai3 m λ i j=>if i=a/\j=b then v else f i j:=by
 apply gJ;intro i;by_cases hi:i<m
 .rw[ah6 hi];by_cases e:i=a
  .subst e;rw[bA (by simp_all),bD5];simp
  .rw[aC (λ z=>e z.symm),ah6 hi];simp[e]
 simp_all
noncomputable def aF8 (p m:Nat):List D:=(am m).map λ i=>.ref (p+i)
def bp1 (h:i<m):(aF8 p m)[i]?=al (.ref (p+i)):=by
 unfold aF8;rw[aL,bQ h];rfl
def aZ2 (P:Nat->Env->Sto->Prop) f  n 
  (o:∀ k U s,P k U s->ok s=bY) (st:∀ j,j<n->∀ U s,P j U s->∃ U' s',g (.int (j:Int)) U s=.ok (al (f j),U') s'/\P (j+1) U' s') :
  ∀ k   U   s ,k<=n->P k U s->∃ U' s',qy ok g (ag2 (k) (n)) U s=.ok ((List.range' k (n - k)).map f) s'/\P n U' s':=by
 intro k
 induction h:n - k generalizing k with
 | zero =>
  intro U s hk z;have e:k=n:=by lia
  subst e;refine⟨U,s,?_,z⟩;rw[show ag2 (k) (k)=[]by simp[ag2]];unfold qy
  grind
 | succ d ih =>
  intro U s hk z;obtain⟨U1,s1,e1,B⟩:=st k (by omega) U s z;obtain⟨U2,s2,e2,J⟩:=ih (k+1) (by omega) U1 s1 (by lia) B;refine⟨U2,s2,?_,J⟩;rw[bb9 (by omega),List.range'_succ,aR];unfold qy;rw[ef (o _ _ _ z),e1]
  simp_all
noncomputable def sgF (ds:List Dr)(c i j:Nat):Nat->Int
 | 0=>3
 | k+1=>match ds[k]? with
  | some x=>if x.l=c/\i=x.a/\j=x.b then(if(if 0<x.t then(1)else 0)<sgF ds c i j k then(if 0<x.t then(1)else 0)else sgF ds c i j k)else sgF ds c i j k
  | none=>sgF ds c i j k
theorem bz9  h  c i j :∀ k,0<=sgF h c i j k/\sgF h c i j k<=3
 | 0=>by unfold sgF;decide
 | k+1=>by
  have:=bz9 h c i j k;unfold sgF;split
  .repeat' split
   all_goals omega
  .exact this
def sgM (m:Mc)(c i j:Nat):Int:=sgF m.ds c i j m.ds.length
def bQ6 :bi .int [.T b] s=.ok (.int (if b then 1 else 0)) s:=rfl
def ap7 [Has P ac5] n {m}(hm:m.Ok) c  s  :
  (aa0 P (n+1)).call "_law_letter_signs" [m.d,.str [c]] s=.ok (gd m.R (sgM m c)) s:=by
 have e0:(aa0 P (n+1)).call "_law_letter_signs" [m.d,.str [c]] s=_:=zl ac5 rfl;have hR:=hm.R5;rw[e0];simp -implicitDefEqProofs [ac5,ixR];rw[zC (by unfold Ww62;lia) (by unfold Ww62;lia)];simp only[R.bind_ok];rw[ef (by rw[zy];unfold LIM;lia)];obtain⟨U1,s1,e1,J⟩:=aZ2 (ok:=λ s1=>chk s s1 []) (g:=qc (aa0 P n) (.Y 0) (.mk .list (.comp (.Y 0) (.rg (.X 1)) (.K (.int 3)) [aT]))) (λ k U u=>u=s++(am k).map (λ _=>O.J (row m.R λ _=>3))/\∃ x,U=[x,al (.int m.R)]) (λ i=>.ref (s.length+i)) m.R (λ _ _ _ _=>rfl) (by
  rintro j hj U u ⟨rfl,x,rfl⟩
  refine⟨[al (.int j),al (.int m.R)],_,?_,rfl,_,rfl⟩;simp -implicitDefEqProofs [qc];rw[zC (by unfold Ww62;lia) (by unfold Ww62;lia)];simp only[R.bind_ok];rw[ef (by rw[zy];unfold LIM;lia)];obtain⟨U1,s1,e1,J⟩:=qH (ok:=λ s1=>chk (s++(am j).map (λ _=>O.J (row m.R λ _=>3))) s1 []) (g:=qc (aa0 P n) (.Y 0) (.K (.int 3))) (λ U u=>u=s++(am j).map (λ _=>O.J (row m.R λ _=>3))/\∃ x,U=[x]) (λ _=>.int 3) m.R (zN [al (.int (j)),al (.int m.R)] [aT]) _ ⟨rfl,aT,rfl⟩ (λ _ _ _=>rfl) (by
   rintro i _ U u ⟨rfl,x,rfl⟩
   exact⟨_,_,rfl,rfl,_,rfl⟩)
  obtain⟨rfl,_⟩:=J;rw[e1];simp -implicitDefEqProofs [mk,dM];rfl) 0 (zN [al m.d,al (.str [c]),al (.int m.R),aT,aT,aT,aT,aT] [aT,al 2]) s (cq _) ⟨by simp,aT,rfl⟩
 obtain⟨rfl,_⟩:=J;rw[show((0:Nat):Int)=0 from rfl]at e1;rw[e1];have el:(am m.R).map (λ _=>O.J (row m.R λ _=>3))=ai3 m.R (λ i j=>sgF m.ds c i j 0):=rfl;rw[el,kK,<-List.range_eq_range'];simp -implicitDefEqProofs [mk,aK4];refine am2 (λ k U t=>∃ x y z w ,U=[al m.d,al (.str [c]),al (.int m.R),al (.ref (s.length+m.R)),x,y,z,w]/\t=s++(ai3 m.R (λ i j=>sgF m.ds c i j k)++[.J (aF8 s.length m.R)])) ⟨aT,aT,aT,aT,rfl,rfl⟩ (λ _ _ _ _ _=>rfl) ?_ ?_
 .rintro k d U t hk ⟨x,y,z,w,rfl,rfl⟩
  rw[aL]at hk;obtain⟨v,hv,rfl⟩:∃ v,m.ds[k]?=al v/\Dr.d v=d:=by
   simp_all
  have B:=hm.ds.1 v (aE hv);have ha:=B.a;have hb:=B.b;refine bL1 (U:=[al m.d,al (.str [c]),al (.int m.R),al (.ref (s.length+m.R)),al (.int v.a),al (.str [v.l]),al (.int v.b),al (.int v.t)]) (s:=s++(ai3 m.R (λ i j=>sgF m.ds c i j (k+1))++[.J (aF8 s.length m.R)])) ?_ ⟨_,_,_,_,rfl,rfl⟩;have Z:(s++(ai3 m.R (λ i j=>sgF m.ds c i j k)++[.J (aF8 s.length m.R)]))[s.length+m.R]?=al (.J (aF8 s.length m.R)):=by
   simp_all
  have Y:(s++(ai3 m.R (λ i j=>sgF m.ds c i j k)++[.J (aF8 s.length m.R)]))[s.length+v.a]?=al (.J (row m.R λ j=>sgF m.ds c v.a j k)):=by
   rw[ay (by lia),bO,aD (by simp_all),ah6 ha]
  have e5:=au6 Z (bp1 ha);have e6:=au6 Y (jC hb);by_cases hl:v.l=c
  .simp -implicitDefEqProofs only[turn,Dr.d,bindT_tup,setVs_cons,setVs_nil,setV_s,qF,bS,lc,za,zu,jy,ev_cmp,zM,zL,zU,R.bind_ok,bg1,hl,decide_true,qC,if_true,ex_setIx,ev_bi,z5,qd,ev_ix,e5,e6,ev_cst,Cn_int,gt_int,bQ6,aL4];rw[bE3 Y (by simp_all)];simp -implicitDefEqProofs only[R.bind_ok,zd,zu]
   congr 1
   rw[cJ _ _ (by lia),bO,List.set_append_left _ _ (by simp_all)]
   congr 2
   rw[bc6 (f:=λ i j=>sgF m.ds c i j k)]
   congr 1
   funext i j
   rw[sgF,hv];by_cases h2:i=v.a/\j=v.b
   .obtain⟨rfl,rfl⟩:=h2;simp[hl]
   .simp[hl,h2]
  .simp -implicitDefEqProofs only[turn,Dr.d,bindT_tup,setVs_cons,setVs_nil,setV_s,qF,bS,lc,za,zu,jy,ev_cmp,zM,zL,zU,R.bind_ok,bg1,hl,decide_false,qC,if_false,bz,zd]
   congr 3
   congr 1
   funext i j
   rw[sgF,hv];simp[hl]
 .rintro U t ⟨x,y,z,w,rfl,rfl⟩
  rw[aw];have Z:(s++(ai3 m.R (sgM m c)++[.J (aF8 s.length m.R)]))[s.length+m.R]?=al (.J (aF8 s.length m.R)):=by
   simp_all
  show(nxt _ _ _ (s++(ai3 m.R (sgM m c)++[.J (aF8 s.length m.R)]))).bind _=_;simp -implicitDefEqProofs [aA0,Z];rw[ef (by unfold aF8 LIM;simp;omega)];generalize hS:s++(ai3 m.R (sgM m c)++[.J (aF8 s.length m.R)])=S;obtain⟨U1,s1,e1,J⟩:=az4 (ok:=λ s1=>chk S s1 [s.length+m.R]) (g:=qc (aa0 P n) (.Y 0) (.mk .tuple (.seq (.X 0)))) (λ U u=>u=S/\∃ x,U=[x]) (λ d=>match d with|.ref p=>.tp (row m.R (sgM m c (p - s.length)))|d=>d) (aF8 s.length m.R) (zN [al m.d,al (.str [c]),al (.int m.R),al (.ref (s.length+m.R)),x,y,z,w] [aT]) S ⟨rfl,aT,rfl⟩ (λ _ u h=>by obtain⟨rfl,_⟩:=h;simp[chk]) (by
   rintro d hd U u ⟨rfl,x,rfl⟩
   obtain⟨i,hi,rfl⟩:=ao.mp hd;have Uu:=bE.mp hi;have Y:u[s.length+i]?=al (.J (row m.R (sgM m c i))):=by
    rw[<-hS,ay (by lia),bO,aD (by simp_all),ah6 Uu]
   refine⟨[al (.ref (s.length+i))],u,?_,rfl,_,rfl⟩;simp -implicitDefEqProofs [qc,aY3,Y,mk])
  obtain⟨rfl,_⟩:=J;rw[e1];simp -implicitDefEqProofs [mk];rw[<-hS];have:(aF8 s.length m.R).map (λ d=>match d with|.ref p=>D.tp (row m.R (sgM m c (p - s.length)))|d=>d)=(am m.R).map λ i=>.tp (row m.R (sgM m c i)):=by
   unfold aF8
   simp_all
  rw[this];exact zG (d:=gd m.R (sgM m c)) ah5 (by nofun)
def ix_str {j :Nat}(hj:l[j]?=al c):ixM (.str l) (.int (j)) s=.ok (.str [c]) s:=by
 have h:=(ag.mp hj).1;have e:=(ag.mp hj).2;simp[ixM,ixn,h,e]
def bB7  s  n  a b :eqv s n (.int a) (.int b)=al (a==b):=by cases n<;>rfl
noncomputable def shN (f:Nat->Nat->Int)(i j:Nat):Nat->Int
 | 0=>3
 | k+1=>let b:=max (max (f i k) (if f k k=1 then 2 else f k k)) (f k j);if b<shN f i j k then b else shN f i j k
def sh (m:Nat)(f:Nat->Nat->Int)(i j:Nat):Int:=shN f i j m
def az0 :bi .max3 [.int a,.int b,.int c] s=.ok (.int (max (max a b) c)) s:=rfl
def aZ4 :bi .len [gd m f] s=.ok (.int m) s:=by
 show R.ok (D.int ((am m).map λ i=>D.tp (row m (f i))).length) s=_;simp
def bn8 {s:Sto}(h:l.length<LIM):meth .append (.ref s.length) [v] (s++[.J l])=.ok .N (s++[.J (l++[v])]):=aJ7 h
def bp5 [Has P ad8] n {m}(hR:m<=5) f  s  :
  (aa0 P (n+1)).call "_law_sharp" [gd m f] s=.ok (gd m (sh m f)) s:=by
 have e0:(aa0 P (n+1)).call "_law_sharp" [gd m f] s=_:=zl ad8 rfl;rw[e0];simp -implicitDefEqProofs [ad8,aZ4];rw[zC (by unfold Ww62;lia) (by unfold Ww62;lia)];simp only[R.bind_ok];refine am2 (λ i U t=>∃(T:Sto) (x y z u v w:Option D),U=[al (gd m f),al (.int m),al (.ref s.length),x,y,z,u,v,w]/\t=s++.J ((am i).map λ i=>.tp (row m (sh m f i)))::T) ⟨[],aT,aT,aT,aT,aT,aT,rfl,rfl⟩ (λ _ _ _ _ _=>rfl) ?_ ?_
 .rintro i d U t hi ⟨T,x,y,z,u,v,w,rfl,rfl⟩
  have qq:=jh hi;have B:=qq.1;have hd:=qq.2;rw[hd];simp -implicitDefEqProofs only[turn,zF,setV_s,qF,bS,za,ex_asg,ev_lst,qd,R.bind_ok,alloc_eq,qB,zd,ex_for,qI,zM,zL,zU,bo,aM];rw[zC (by unfold Ww62;omega) (by unfold Ww62;omega)];simp only[R.bind_ok];generalize Y:(am i).map (λ i=>D.tp (row m (sh m f i)))=X;have Z:X.length=i:=by rw[<-Y];simp
  refine ah2 (λ j U t=>∃ z u v w ,U=[al (gd m f),al (.int m),al (.ref s.length),al (.int i),al (.ref (s.length+(T.length+1))),z,u,v,w]/\t=s++.J X::(T++[.J ((am j).map λ j=>.int (sh m f i j))])) ⟨z,u,v,w,rfl,rfl⟩ (λ _ _ _ _ _=>rfl) ?_ ?_
  .rintro j d U t hj ⟨z,u,v,w,rfl,rfl⟩
   have J:=(jh hj).1;rw[(jh hj).2];simp -implicitDefEqProofs only[turn,zF,setV_s,qF,bS,za,ex_asg,ev_cst,Cn_int,R.bind_ok,qB,zd,ex_for,qI,zM,zL,zU];rw[zC (by unfold Ww62;lia) (by unfold Ww62;lia)];simp only[R.bind_ok];refine ah2 (Ww:=Nx _) (λ k U t=>∃(v w:Option D),U=[al (gd m f),al (.int m),al (.ref s.length),al (.int i),al (.ref (s.length+(T.length+1))),al (.int j),al (.int (shN f i j k)),v,w]/\t=s++.J X::(T++[.J ((am j).map λ j=>.int (sh m f i j))])) ⟨v,w,rfl,rfl⟩ (λ _ _ _ _ _=>rfl) ?_ ?_
   .rintro k d U t hk ⟨v,w,rfl,rfl⟩
    have h:=(jh hk).1;rw[(jh hk).2];refine bL1 (U:=[al (gd m f),al (.int m),al (.ref s.length),al (.int i),al (.ref (s.length+(T.length+1))),al (.int j),al (.int (shN f i j (k+1))),al (.int k),al (.int (if f k k=1 then 2 else f k k))]) (s:=s++.J X::(T++[.J ((am j).map λ j=>.int (sh m f i j))])) ?_ ⟨_,_,rfl,rfl⟩;by_cases h1:f k k=1
    .simp -implicitDefEqProofs [turn,as5 h,as5 B,qD h,qD J,h1,az0,shN]
    .simp -implicitDefEqProofs [turn,as5 h,as5 B,qD h,qD J,h1,az0,shN]
   .rintro U t ⟨v,w,rfl,rfl⟩
    rw[zy];have Uu:(s++.J X::(T++[O.J ((am j).map λ j=>D.int (sh m f i j))]))[s.length+(T.length+1)]?=al (.J ((am j).map λ j=>.int (sh m f i j))):=ax2;simp -implicitDefEqProofs only[zd,za,zu,ex_ex,ev_meth,qu,z5,qd,zM,zL,zU,R.bind_ok];rw[zI Uu (by unfold LIM;simp;lia)];simp -implicitDefEqProofs only[R.bind_ok,zd,zu,ba8];refine⟨_,_,_,_,rfl,?_⟩;rw[cJ _ _ (by lia),bO,List.set_cons_succ,cJ _ _ (aj _),kI,List.set_cons_zero,dM,aS];rfl
  .rintro U t ⟨z,u,v,w,rfl,rfl⟩
   rw[zy];have Uu:(s++.J X::(T++[O.J ((am m).map λ j=>D.int (sh m f i j))]))[s.length+(T.length+1)]?=al (.J ((am m).map λ j=>.int (sh m f i j))):=ax2;simp -implicitDefEqProofs only[zd,za,zu,ex_ex,ev_meth,qu,z5,qd,zM,zL,zU,R.bind_ok,ev_mk,evL_seq,aY3,Uu,mk];rw[aJ7 (by unfold LIM;lia)];simp -implicitDefEqProofs only[R.bind_ok,zd,zu,ba8];refine⟨T++[O.J (bL (λ j=>D.int (sh m f i j)) (am m))],_,_,_,_,_,_,rfl,?_⟩;rw[dM,aS,Y];rfl
 .rintro U t ⟨T,x,y,z,u,v,w,rfl,rfl⟩
  rw[zy];have h0:(s++.J ((am m).map λ i=>D.tp (row m (sh m f i)))::T:Sto)[s.length]?=al (.J ((am m).map λ i=>D.tp (row m (sh m f i)))):=by rw[ay (aj _)];simp
  simp -implicitDefEqProofs [aY3,h0,mk];exact zG (d:=gd m (sh m f)) ah5 (by nofun)
theorem aZ8 { m:Nat}{f g:Nat->Int}:∀ l:List Nat,eqL (eqv s n) (l.map λ j=>.int (f j)) (l.map λ j=>.int (g j))=al (l.all λ j=>f j==g j)
 | []=>rfl
 | a::l=>by
  rw[aR,aR];unfold eqL;rw[bB7,aZ8 (m:=m) l];simp
theorem bz1 {f g:Nat->Nat->Int}:∀ l:List Nat,eqL (eqv s (n+1)) (l.map λ i=>.tp (row m (f i))) (l.map λ i=>.tp (row m (g i)))=al (l.all λ i=>(am m).all λ j=>f i j==g i j)
 | []=>rfl
 | a::l=>by
  rw[aR,aR];unfold eqL;rw[show eqv s (n+1) (.tp (row m (f a))) (.tp (row m (g a)))=eqL (eqv s n) (row m (f a)) (row m (g a))from rfl,row,row,aZ8 (m:=m),bz1 l];simp
def EqG (m:Nat)(f g:Nat->Nat->Int):Prop:=∀ i j,i<m->j<m->f i j=g i j
def bx4 :∃ b,eqv s DEEP (gd m f) (gd m g)=al b/\(b=bY↔EqG m f g):=by
 refine⟨_,bz1 (am m),?_⟩;simp[aI];exact⟨λ h i j z hj=>h i z j hj,λ h i z j hj=>h i j z hj⟩
def cb9 :∃ b,js .eq (gd m f) (gd m g) s=.ok (.T b) s/\(b=bY↔EqG m f g):=by
 obtain⟨b,e,h⟩:=bx4 ;exact⟨b,by show(match eqv s DEEP (gd m f) (gd m g)with|some r=>R.ok (D.T r) s|none=>.B)=_;rw[e],h⟩
inductive Stp where
 | let_ (c:Nat)|pair (i j:Nat)|sharp (i:Nat)
noncomputable abbrev Stp.ctorIdx (x:Stp):Nat:=Stp.casesOn x (λ _=>0) (λ _ _=>1) (λ _=>2)
noncomputable def Stp.d:Stp->D
 | .let_ c=>.tp [.str [108,101,116,116,101,114],.str [c]]
 | .pair i j=>.tp [.str [112,97,105,114],.int i,.int j]
 | .sharp i=>.tp [.str [115,104,97,114,112],.int i]
theorem Stp.bnd (x:Stp) n :x.d.bnd n=true:=by cases x<;>rfl
def zx (h:∀ d∈l,d.ncl=bY):D.nclL l=true:=by
 induction l with
 | nil=>rfl
 | cons d l ih=>unfold D.nclL;rw[h d (ar ..),ih λ x hx=>h x (ah _ hx)];rfl
def bt7 :D.nclL (ch7 l)=true:=zx λ d hd=>by obtain⟨x,_,rfl⟩:=ao.mp hd;rfl
def bv6 {l:List Int}:D.nclL (l.map D.int)=true:=zx λ d hd=>by obtain⟨x,_,rfl⟩:=ao.mp hd;rfl
def bi2 :D.nclL (row m f)=true:=zx λ d hd=>by obtain⟨x,_,rfl⟩:=ao.mp hd;rfl
def an5 :(gd m f).ncl=true:=by
 unfold gd D.ncl;exact zx λ d hd=>by obtain⟨x,_,rfl⟩:=ao.mp hd;unfold D.ncl;exact bi2
def bF7 {s:Sto}(h:s.all O.ncl=bY)(ho:o.ncl=bY):(s.set r o).all O.ncl=true:=by
 rw[aI]at h ⊢;intro x hx;rcases gu hx with h1|h1
 .exact h x h1
 .rw[h1];exact ho
inductive Mks (m:Mc):List Stp->List (Nat->Nat->Int)->Prop where
 | nil:Mks m [] []
 | let_ {l fs} (c:Nat):Mks m l fs->97<=c->c<97+m.L->Mks m (l++[.let_ c]) (fs++[sgM m c])
 | pair {l fs} (i j:Nat) (f g:Nat->Nat->Int):Mks m l fs->fs[i]?=al f->fs[j]?=al g->Mks m (l++[.pair i j]) (fs++[pr m.R f g])
 | sharp {l fs} (i:Nat) (f:Nat->Nat->Int):Mks m l fs->fs[i]?=al f->EqG m.R (pr m.R f f) f->Mks m (l++[.sharp i]) (fs++[sh m.R f])
def Mks.len (h:Mks m l fs):l.length=fs.length:=by
 induction h<;>simp_all
section
variable {s:Sto} {r:Nat} {b:Int} {A B Cc:List D} {T:Sto}
end
theorem bk2 :∀ k,prN f g i j k<=x↔3<=x\/∃ l,l<k/\f i l<3/\f i l<=x/\g l j<=x
 | 0=>by unfold prN;exact⟨.inl,λ h=>h.elim id λ⟨l,B,_⟩=>iS B (cH _)⟩
 | k+1=>by
  have z:=bk2 (f:=f) (g:=g) (i:=i) (j:=j) (x:=x) k;have key:prN f g i j (k+1)<=x↔prN f g i j k<=x\/(f i k<3/\f i k<=x/\g k j<=x):=by
   conv=>lhs;unfold prN
   simp only
   repeat' split
   all_goals omega
  rw[key,z];constructor
  .rintro((h|⟨l,h1,h2⟩)|h)
   .exact .inl h
   .exact .inr ⟨l,by lia,h2⟩
   .exact .inr ⟨k,by lia,h⟩
  .rintro(h|⟨l,h1,h2⟩)
   .exact .inl (.inl h)
   .by_cases e:l=k
    .subst e;exact .inr h2
    .exact .inl (.inr ⟨l,by lia,h2⟩)
def az1 (hx:x<3):pr m f g i j<=x↔∃ l,l<m/\f i l<=x/\g l j<=x:=by
 unfold pr;rw[bk2];constructor
 .rintro(h|⟨l,z,_,B,h3⟩)
  .omega
  .exact⟨l,z,B,h3⟩
 .rintro⟨l,z,B,h3⟩
  exact .inr ⟨l,z,by lia,B,h3⟩
def cd8 :pr m f g i j<=3:=by
 unfold pr;exact(bk2 _).mpr (.inl (cE _))
def be4 { b:Int}(ha:a<=3)(hb:b<=3)(h:∀ x,x<3->(a<=x↔b<=x)):a=b:=by
 by_cases h1:a<3
 .have:=(h a h1).mp (cE _);have:=(h b (by lia)).mpr (cE _);lia
 .by_cases h2:b<3
  .have:=(h b h2).mpr (cE _);lia
  .lia
section
variable {m:Nat} {f:Nat->Nat->Int} {x:Int}
end
def bn2 {l:List Stp} n :(D.tp (l.map Stp.d)).bnd n=true:=by
 unfold D.bnd;exact zt (λ d hd n=>by obtain⟨x,_,rfl⟩:=ao.mp hd;exact x.bnd n) n
noncomputable def cm6 (a c:Int)(vs:List Int):Stp->Int
 | .let_ _=>a
 | .pair i j=>vs.getD i 0+vs.getD j 0
 | .sharp i=>vs.getD i 0*c
def vl (a c:Int)(l:List Stp):List Int:=l.foldl (λ vs x=>vs++[cm6 a c vs x]) []
def aB7 {α:Type}{l:List α}{x}(h:l[k]?=al x):l.take (k+1)=l.take k++[x]:=by
 rw[List.take_succ,h];rfl
section
variable {F:Fns} {U:Env} {s:Sto}
noncomputable def apV (F:Fns)(d:D)(l:List D)(s:Sto):R D:=match d with
 | .fn f=>F.call f l s
 | .clo id cs=>F.lam id cs l s
 | _=>.B
def bl6  es (h:U[i]?=al (al d)):ev F (.callV i es) U s=(evs F es U s).bind λ l s=>apV F d l s:=by
 show(evs F es U s).bind (λ l s=>match U[i]? with
  | some (al (.fn f))=>F.call f l s
  | some (al (.clo id cs))=>F.lam id cs l s
  | _=>.B)=_
 rw[h];cases d<;>rfl
def jp  J (h:ag8 U z=al cs):af3 F (.lam B z J) U s=(af3 F J U s).bind λ l s=>.ok (.clo B cs::l) s:=by
 show(match ag8 U z with
  | some cs=>(af3 F J U s).bind λ l s=>R.ok (D.clo B cs::l) s
  | none=>.B)=_
 rw[h]
end
def qG {s:Sto}(h:s.all O.ncl=bY)(ho:o.ncl=bY):(s++[o]).all O.ncl=true:=by rw[ly,h];simp[ho]
noncomputable def Stp.t (c:Int):Stp->D
 | .sharp i=>.tp [.str [116,105,109,101,115],.int i,.int c]
 | x=>x.d
noncomputable def gdD (m:Nat)(Ww:Nat->Nat->D):D:=.tp ((am m).map λ i=>.tp ((am m).map λ j=>Ww i j))
def bb7 (h:∀ i j n,(Ww i j).bnd n=bY) n :(gdD m Ww).bnd n=true:=by
 unfold gdD D.bnd;refine zt (λ d hd n=>?_) n;obtain⟨i,_,rfl⟩:=ao.mp hd;unfold D.bnd;refine zt (λ d hd n=>?_) n;obtain⟨j,_,rfl⟩:=ao.mp hd;exact h i j n
def ak0 [Has P ad3] n {m:Nat}(Z:m<=1000){d}{s}{Ww}(Y:∀ i j n,(Ww i j).bnd n=bY)
  (h:∀ i j,i<m->j<m->apV (aa0 P n) d [.int i,.int j] (s++[.J ((am i).map λ i=>.tp ((am m).map λ j=>Ww i j))])=.ok (Ww i j) (s++[.J ((am i).map λ i=>.tp ((am m).map λ j=>Ww i j))])) :
  (aa0 P (n+1)).call "grid" [.int m,d] s=.ok (gdD m Ww) s:=by
 have Uu:(aa0 P (n+1)).call "grid" [.int m,d] s=_:=zl ad3 rfl;rw[Uu,show(bL al [D.int m,d]++aA ad3.vs aT)=[al (D.int m),al d,aT,aT]from rfl];simp only[ad3];simp -implicitDefEqProofs only[za,ex_asg,ev_lst,qd,R.bind_ok,alloc_eq,zF,setV_s,qF,bS,qB,zd,ex_for,qI,zM,zL,zU];rw[zC (by unfold Ww62;lia) (by unfold Ww62;lia)];simp only[R.bind_ok];rw[R.bind_assoc];refine am2 (λ i U t=>∃(x:Option D),U=[al (D.int m),al d,al (.ref s.length),x]/\t=s++[.J ((am i).map λ i=>.tp ((am m).map λ j=>Ww i j))]) ⟨aT,rfl,rfl⟩ (λ _ _ _ _ _=>rfl) ?_ ?_
 .rintro i dd U t hi ⟨x,rfl,rfl⟩
  have z:=(jh hi).1;rw[(jh hi).2];generalize B:s++[O.J ((am i).map λ i=>D.tp ((am m).map λ j=>Ww i j))]=S;have e1:qy (λ s1=>chk S s1 []) (qc (aa0 P n) (.Y 0) (.callV 1 (.cons (.X 2) (.cons (.X 0) .nil)))) (ag2 0 (m:Int)) (zN [al (D.int m),al d,al (.ref s.length),al (.int (i:Int))] [aT,al 1,al 3]) S=.ok ((am m).map λ j=>Ww i j) S:=by
   obtain⟨U1,s1,e1,J⟩:=qH (ok:=λ s1=>chk S s1 []) (g:=qc (aa0 P n) (.Y 0) (.callV 1 (.cons (.X 2) (.cons (.X 0) .nil)))) (λ U u=>u=S/\∃ x,U=[x,al d,al (.int i)]) (λ j=>Ww i j) m (zN [al (D.int m),al d,al (.ref s.length),al (.int (i:Int))] [aT,al 1,al 3]) S ⟨rfl,aT,rfl⟩ (λ _ _ _=>rfl) (by
    rintro j hj U u ⟨rfl,x,rfl⟩
    refine⟨[al (.int j),al d,al (.int i)],u,?_,rfl,_,rfl⟩;have hc:=h i j z hj;rw[B]at hc;unfold qc;simp -implicitDefEqProofs only[zF,qF];rw[bl6 (d:=d) _ rfl]
    simp_all)
   obtain⟨rfl,_⟩:=J;exact e1
  have e2:turn (aa0 P n) (.Y 3) (.cons (.ex (.me .append (.X 2) (.cons (.mk .tuple (.comp (.Y 0) (.rg (.X 0)) (.callV 1 (.cons (.X 2) (.cons (.X 0) .nil))) [aT,al 1,al 3])) .nil))) .nil) (.int i) [al (D.int m),al d,al (.ref s.length),x] S=.ok (.next [al (D.int m),al d,al (.ref s.length),al (.int i)]) (s++[.J ((am (i+1)).map λ i=>.tp ((am m).map λ j=>Ww i j))]):=by
   unfold turn;simp -implicitDefEqProofs only[zF,setV_s,qF,bS,za,zu,ex_ex,ev_meth,qu,z5,qd,ev_mk,qR,qI,zM,zL,zU,R.bind_ok];rw[zC (by unfold Ww62;lia) (by unfold Ww62;lia)];simp only[R.bind_ok];rw[ef (by rw[zy];unfold LIM;lia),e1,<-B];simp -implicitDefEqProofs only[R.bind_ok,mk];rw[bn8 (by unfold LIM;simp;lia),dM,aS,qu];rfl
  rw[e2];show ∃ x,_;exact⟨al (.int i),rfl,rfl⟩
 .rintro U t ⟨x,rfl,rfl⟩
  rw[zy];have h0:(s++[O.J ((am m).map λ i=>D.tp ((am m).map λ j=>Ww i j))])[s.length]?=al (.J ((am m).map λ i=>D.tp ((am m).map λ j=>Ww i j))):=by rw[ay (aj _)];simp
  simp -implicitDefEqProofs only[zd,za,zu,ex_ret,ev_mk,evL_seq,zM,zL,zU,R.bind_ok,aY3,h0,mk,qX,je];exact zG (d:=gdD m Ww) (bb7 Y) (by nofun)
def InG (m:Nat)(f:Nat->Nat->Int):Prop:=∀ i j,i<m->j<m->0<=f i j/\f i j<=3
def bA4 (J:1<=m)(B:InG m f)(z:InG m g)(h:i<m)(hj:j<m):pr m f g i j<=x↔∃ l,l<m/\f i l<=x/\g l j<=x:=by
 by_cases hx:x<3
 .exact az1 hx
 .refine⟨λ _=>⟨0,by lia,?_,?_⟩,λ _=>fu cd8 (by lia)⟩
  .have:=B i 0 h (by omega);lia
  .have:=z 0 j (by omega) hj;lia
def bv5 (h:1<=m)(J:InG m f)(B:InG m g):EqG m (pr m f g) (L2.bd8 m f g):=λ i j z hj=>L2.ax1 λ x=>by
 rw[bA4 h J B z hj,L2.ax3 h]
theorem bx9 :∀ k,shN f i j k<=x↔3<=x\/∃ l,l<k/\f i l<=x/\(if f l l=1 then 2 else f l l)<=x/\f l j<=x
 | 0=>by unfold shN;lia
 | k+1=>by
  have B:=bx9 (f:=f) (i:=i) (j:=j) (x:=x) k;have key:shN f i j (k+1)<=x↔shN f i j k<=x\/(f i k<=x/\(if f k k=1 then 2 else f k k)<=x/\f k j<=x):=by
   conv=>lhs;unfold shN
   simp only;generalize (if f k k=1 then(2)else f k k)=z;split<;>omega
  rw[key,B];constructor
  .rintro((h|⟨l,h1,h2⟩)|h)
   .exact .inl h
   .exact .inr ⟨l,by lia,h2⟩
   .exact .inr ⟨k,by lia,h⟩
  .rintro(h|⟨l,h1,h2⟩)
   .exact .inl (.inl h)
   .by_cases e:l=k
    .subst e;exact .inr h2
    .exact .inl (.inr ⟨l,by lia,h2⟩)
def bz6 (h:0<=y)(h3:y<=3):(if y=1 then 2 else y)=L2.rnd y:=by
 unfold L2.rnd;lia
def aN2 (Z:1<=m)(B:InG m f):EqG m (sh m f) (L2.sharp m f):=λ i j Y hj=>L2.ax1 λ x=>by
 unfold sh;rw[bx9,L2.am3 Z];constructor
 .rintro(h|⟨l,z,J,Uu,h3⟩)
  .refine⟨0,by lia,?_,?_,?_⟩
   .have:=B i 0 Y (by omega);lia
   .have:=B 0 0 (by omega) (by omega);have:=(L2.bx7 this.1 this.2).2;lia
   .have:=B 0 j (by omega) hj;lia
  .exact⟨l,z,J,by rw[<-bz6 (B l l z z).1 (B l l z z).2];exact Uu,h3⟩
 .rintro⟨l,z,J,Uu,h3⟩
  exact .inr ⟨l,z,J,by rw[bz6 (B l l z z).1 (B l l z z).2];exact Uu,h3⟩
def ci0 (J:1<=m)(B:InG m f)(z:InG m g):InG m (pr m f g):=λ i j h hj=>by
 rw[bv5 J B z i j h hj];exact L2.bv2 J B z h hj
def ci2 (B:1<=m)(z:InG m f):InG m (sh m f):=λ i j h hj=>by
 rw[aN2 B z i j h hj];exact L2.bl4 B z i j h hj
theorem al6 :∀ l  (a:Int),l.foldl min a<=x↔∃ y∈a::l,y<=x
 | [],a=>by simp
 | b::l,a=>by
  rw[iu,al6 l];constructor
  .grind
  .rintro⟨y,hy,hx⟩
   simp only[aB]at hy;rcases hy with rfl|rfl|hy
   .exact⟨min y b,by simp,by lia⟩
   .exact⟨min a y,by simp,by lia⟩
   grind
def bM5 (h:minI l=al m):m<=x↔∃ y∈l,y<=x:=by
 cases l with
 | nil=>cases h
 | cons a l=>rw[<-av (h)];exact al6 l a
def aT0 {l:List Nat}:qe (l.map λ k=>D.int (f k))=al (l.map f):=by
 induction l with
 | nil=>rfl
 | cons a l ih=>rw[aR];unfold qe;rw[ih];rfl
def bw1 (h:1<=m){f:Nat->Int}(hv:∀ x,v<=x↔∃ k,k<m/\f k<=x) s :mk .min ((am m).map λ k=>D.int (f k)) s=.ok (.int v) s:=by
 obtain⟨w,hw⟩:∃ w,minI ((am m).map f)=al w:=by
  obtain⟨m',rfl⟩:∃ m',m=m'+1:=⟨m - 1,by lia⟩
  rw[cF];exact⟨_,rfl⟩
 show(match(qe ((am m).map λ k=>D.int (f k))).bind minI with|some m=>R.ok (D.int m) s|none=>.B)=_;rw[aT0];show(match minI ((am m).map f)with|some m=>R.ok (D.int m) s|none=>.B)=_;rw[hw];have:w=v:=L2.ax1 λ x=>by
  rw[bM5 hw,hv];constructor
  .rintro⟨y,hy,hx⟩
   obtain⟨k,hk,rfl⟩:=ao.mp hy;exact⟨k,bE.mp hk,hx⟩
  .rintro⟨k,hk,hx⟩
   exact⟨_,ao.mpr ⟨k,bE.mpr hk,rfl⟩,hx⟩
 rw[this]
section
variable {P:Pr} [Has P ad3] [Has P aa7] [HasL P aa2]
def jk  n (J:1<=m)(a0:m<=5)(hf:InG m f)(Z:InG m g)(hs:s.all O.ncl=bY) :
  (aa0 P (n+3)).call "sign_product" [gd m f,gd m g] s=.ok (gd m (pr m f g)) s:=by
 have e0:(aa0 P (n+3)).call "sign_product" [gd m f,gd m g] s=_:=zl aa7 rfl;have z:=ak0 (P:=P) (n+1) (m:=m) (by lia) (d:=.clo "sign_product.0" [.int m,gd m f,gd m g]) (λ _ _ _=>rfl) (λ i j Uu hj=>by
  generalize Y:s++[O.J ((am i).map λ i=>D.tp ((am m).map λ j=>D.int (pr m f g i j)))]=S;have nS:S.all O.ncl=true:=by
   rw[<-Y];refine qG hs (zx λ d hd=>?_);obtain⟨x,_,rfl⟩:=ao.mp hd;unfold D.ncl;exact zx λ d hd=>by obtain⟨x,_,rfl⟩:=ao.mp hd;rfl
  refine(aj5 aa2 rfl rfl (by rw[nS];simp[D.nclL,D.ncl,an5])).trans ?_;show(ev (aa0 P n) aa2.body [al (.int i),al (.int j),al (.int m),al (gd m f),al (gd m g)] S).bind (ab7 S)=_;simp -implicitDefEqProofs only[aa2,ev_mk,qR,qI,zM,zL,zU,R.bind_ok];rw[zC (by unfold Ww62;lia) (by unfold Ww62;lia)];simp only[R.bind_ok];rw[ef (by rw[zy];unfold LIM;lia)];obtain⟨U1,s1,e1,h⟩:=qH (ok:=λ s1=>chk S s1 []) (g:=qc (aa0 P n) (.Y 0) (.bi .max2 (.cons (.ix (.ix (.X 1) (.X 2)) (.X 0)) (.cons (.ix (.ix (.X 3) (.X 0)) (.X 4)) .nil)))) (λ U u=>u=S/\∃ x,U=[x,al (gd m f),al (.int i),al (gd m g),al (.int j)]) (λ k=>.int (if g k j > f i k then g k j else f i k)) m (zN [al (.int i),al (.int j),al (.int m),al (gd m f),al (gd m g)] [aT,al 3,al 0,al 4,al 1]) S ⟨rfl,aT,rfl⟩ (λ _ _ _=>rfl) (by
   rintro k hk U u ⟨rfl,x,rfl⟩
   refine⟨[al (.int k),al (gd m f),al (.int i),al (gd m g),al (.int j)],u,?_,rfl,_,rfl⟩;unfold qc;simp -implicitDefEqProofs only[zF,qF,ev_bi,z5,qd,ev_ix,zM,zL,zU,R.bind_ok,as5 Uu,as5 hk,qD hk,qD hj,bp9])
  obtain⟨rfl,_⟩:=h;rw[e1];simp only[R.bind_ok];rw[bw1 (v:=pr m f g i j) J (λ x=>by
   rw[bA4 J hf Z Uu hj];constructor
   .rintro⟨l,B,h,h2⟩;exact⟨l,B,by split<;>omega⟩
   .rintro⟨l,B,h⟩;exact⟨l,B,by split at h<;>omega,by split at h<;>omega⟩)]
  exact zE)
 rw[e0,show(bL al [gd m f,gd m g]++aA aa7.vs aT)=[al (gd m f),al (gd m g),aT]from rfl];simp -implicitDefEqProofs only[aa7,za,zu,ex_asg,ev_bi,z5,qd,zM,zL,zU,R.bind_ok,aZ4,zF,setV_s,qF,bS,qB,zd,ex_ret,jm,evas_ex];rw[jp (cs:=[.int m,gd m f,gd m g]) _ rfl];simp -implicitDefEqProofs only[qK,R.bind_ok,z];have e:gdD m (λ i j=>.int (pr m f g i j))=gd m (pr m f g):=rfl;rw[e,ef (by rw[an5,hs];rfl)];simp -implicitDefEqProofs only[R.bind_ok,qX,je];exact zq ah5 (by nofun)
end
def bx8 {s:Sto}:(s++[o])[s.length]?=al o:=by rw[ay (aj _)];simp
def cf1  a :(sg a).length=a.length:=by unfold sg;exact aw _
class HasX (P:Pr)(f:String)(d:Xf):Prop where
 at_:P.xf f=al d
class HasT (P:Pr)(f:String)(d:Tf):Prop where
 no:P.df f=aT
 at_:P.tf f=al d
class HasE (P:Pr)(c:String)(ts:List String):Prop where
 at_:P.xc c=bY
 ts:∀ t∈ts,P.xt t=bY
def bk4  d [h:HasX P f d](z:l.length=d.ps):(aa0 P (n+1)).xcall f l s=xB (aa0 P n) d.body (l.map al++aA d.vs aT) s:=by
 show(match P.xf f with|some d=>if l.length=d.ps then xB (aa0 P n) d.body (l.map al++aA d.vs aT) s else aT|none=>aT)=_;rw[h.at_];exact ef z
def bL6  d [h:HasT P f d](z:l.length=d.ps):(aa0 P (n+1)).call f l s=bC0 (aa0 P n) d l s:=by
 have e:(aa0 P (n+1)).call f l s=match P.df f with
   | some d=>if l.length=d.ps then(exs (aa0 P n) d.body (l.map al++aA d.vs aT) s).bind λ c s'=>match c with
     | .ret v=>ab7 s v s'
     | .next _=>ab7 s .N s'
     | _=>.B else .B
   | none=>match P.tf f with
    | some d=>if l.length=d.ps then bC0 (aa0 P n) d l s else .B
    | none=>.B:=rfl
 rw[e,h.no]
 skip
 rw[h.at_];exact ef z
def bu4 (h:d.pre=.nil):bC0 F d l s=bt2 F d s (l.map al++aA d.vs aT) s:=by
 unfold bC0;rw[h];rfl
def bX3 :(aa0 P n).xc=P.xc/\(aa0 P n).xt=P.xt:=by cases n<;>exact⟨rfl,rfl⟩
section
variable {α:Type} [DecidableEq α]
theorem aS2:∀ {l m:List α},l.Nodup->(∀ x∈l,x∈m)->l.length<=m.length
 | [],m,_,_=>cq _
 | a::l,m,h,k=>by
  obtain⟨z,B⟩:=cO.mp h;have ha:=k a (ar ..);have:=aS2 (m:=m.erase a) B λ x hx=>(List.mem_erase_of_ne λ e=>z (by simp_all)).mpr (k x (ah _ hx))
  grind
def cl6 {l m:List α}(B:l.Nodup)(z:m.Nodup)(h:∀ x,x∈l↔x∈m):l.length=m.length :=
 Nat.le_antisymm (aS2 B λ x=>(h x).mp) (aS2 z λ x=>(h x).mpr)
def aq4 {x:α}(h:l.Nodup)(hx:x ∉ l):(l++[x]).Nodup:=by
 rw[kF];exact⟨h,cO.mpr ⟨(λ z=>nomatch z),gm⟩,λ a ha b hb e=>hx (by rw[<-aO.mp hb,<-e];exact ha)⟩
end
section
variable {α:Type} (L0:α->Prop) (mul:α->α->α) (shp:α->α)
variable {L0 mul shp}
end
end DV
end
noncomputable section
namespace DV
def aj4 (ho:ag1 s t=bY)(h:t.length=s.length):ab7 s .N t=.ok .N t:=by
 unfold ab7
 grind
def aE1 (h:∀ i,i<s.length->t[i]?=s[i]?\/∃ o,t[i]?=al o/\o.bnd s.length=bY):ag1 s t=true:=by
 unfold ag1;rw[aI];intro i B;rcases h i (bE.mp B)with z|⟨o,z1,z2⟩
 .rw[z];simp
 .rw[z1];simp[z2]
class HasMX (P:Pr)(c m:String)(d:Xf):Prop where
 at_:P.mx c m=al d
def aE2  d [h:HasMX P c m d](z:l.length=d.ps):(aa0 P (n+1)).xm c m l s=xB (aa0 P n) d.body (l.map al++aA d.vs aT) s:=by
 show(match P.mx c m with|some d=>if l.length=d.ps then xB (aa0 P n) d.body (l.map al++aA d.vs aT) s else aT|none=>aT)=_;rw[h.at_];exact ef z
def fldC (a b e:Nat):List (D×D):=[(.str ah0,.ref a),(.str as3,.ref b),(.str am4,.ref e)]
def ak1 (h:s[o]?=al (.ins "ClosedSet" (fldC a b e))):aq1 ah0 (.ref o) s=.ok (.ref a) s:=by unfold aq1;simp only[h];simp[look,fldC,am4]
def av8 (h:s[o]?=al (.ins "ClosedSet" (fldC a b e))):aq1 as3 (.ref o) s=.ok (.ref b) s:=by unfold aq1;simp only[h];simp[look,fldC,ah0,as3]
def jF (h:s[o]?=al (.ins "ClosedSet" (fldC a b e))):aq1 am4 (.ref o) s=.ok (.ref e) s:=by unfold aq1;simp only[h];simp[look,fldC,ah0,as3,am4]
def ak7 (h:s[o]?=al (.ins "ClosedSet" (fldC a b e))):bk9 (.ref o) s=.ok "ClosedSet" s:=by unfold bk9;simp only[h]
noncomputable def seeD (l:List D):List (D×D):=l.map λ d=>(d,.T bY)
theorem qv :∀ {l},(d∈l->look d (seeD l)=al (.T bY))/\(d ∉ l->look d (seeD l)=aT)
 | []=>⟨λ h=>(nomatch h),λ _=>rfl⟩
 | a::l=>by
  have B:=qv (d:=d) (l:=l);have e:look d (seeD (a::l))=if a=d then al (.T bY)else look d (seeD l):=rfl
  grind
def jn (h:s[r]?=al (.dit l))(hk:k.keyT=bY):js .isin k (.ref r) s=.ok (.T (look k l).isSome) s:=by
 show(inM k (.ref r) s).bind _=_;unfold inM
 simp_all
structure ClS (s:Sto)(o a b e:Nat)(st tb:List D):Prop where
 ins:s[o]?=al (.ins "ClosedSet" (fldC a b e))
 stp:s[a]?=al (.J st)
 tab:s[b]?=al (.J tb)
 see:s[e]?=al (.dit (seeD tb))
 ab:a≠b
 len:st.length=tb.length
 le:tb.length<=80
 bs:∀ d∈st,∀ n,d.bnd n=bY
 bt:∀ d∈tb,∀ n,d.bnd n=bY
def clU (s:Sto)(a b e:Nat)(st tb:List D):Sto:=((s.set a (.J st)).set b (.J tb)).set e (.dit (seeD tb))
def aW5 :(clU s a b e st tb).length=s.length:=by unfold clU;simp
def ClS.ne (h:ClS s o a b e st tb):o≠a/\o≠b/\o≠e/\a≠e/\b≠e:=by
 refine⟨λ z=>?_,λ z=>?_,λ z=>?_,λ z=>?_,λ z=>?_⟩
 .have:=h.ins;rw[z,h.stp]at this;lia
 .have:=h.ins;rw[z,h.tab]at this;lia
 .have:=h.ins;rw[z,h.see]at this;lia
 .have:=h.stp;rw[z,h.see]at this;lia
 .have:=h.tab;rw[z,h.see]at this;lia
def aN6 (h:i≠a)(z:i≠b)(h3:i≠e):(clU s a b e st tb)[i]?=s[i]?:=by
 unfold clU;rw[aC (bH h3),aC (bH z),aC (bH h)]
def ClS.more (h:ClS s o a b e st tb)(hl:B.length=z.length)(J:z.length<=80)(hs:∀ d∈B,∀ n,d.bnd n=bY)(ht:∀ d∈z,∀ n,d.bnd n=bY):ClS (clU s a b e B z) o a b e B z:=by
 obtain⟨Y,n2,n3,n4,Z⟩:=h.ne;have Uu:=(ag.mp h.stp).1;have lb:=(ag.mp h.tab).1;have le:=(ag.mp h.see).1;refine⟨?_,?_,?_,?_,h.ab,hl,J,hs,ht⟩
 .rw[aN6 Y n2 n3];exact h.ins
 .unfold clU;rw[aC (bH n4),aC (bH h.ab)];exact zX Uu
 .unfold clU;rw[aC (bH Z)];exact zX (by simp;exact lb)
 .unfold clU;exact zX (by simp;exact le)
def bK8 (h:ClS s o a b e st tb)(hs:∀ d∈B,∀ n,d.bnd n=bY)(ht:∀ d∈z,∀ n,d.bnd n=bY):ag1 s (clU s a b e B z)=true:=aE1 λ i hi=>by
 obtain⟨n1,n2,n3,Y,Uu⟩:=h.ne;have J:=(ag.mp h.stp).1;have Z:=(ag.mp h.tab).1;have le:=(ag.mp h.see).1;by_cases h1:i=a
 .subst h1;refine .inr ⟨.J B,?_,zt hs _⟩;unfold clU;rw[aC (bH Y),aC (bH h.ab)];exact zX J
 .by_cases h2:i=b
  .subst h2;refine .inr ⟨.J z,?_,zt ht _⟩;unfold clU;rw[aC (bH Uu)];exact zX (by simp;exact Z)
  .by_cases h3:i=e
   .subst h3;refine .inr ⟨.dit (seeD z),by unfold clU;exact zX (by simp;exact le),?_⟩;show(D.bndL _ ((seeD z).map (·.1))&&D.bndL _ ((seeD z).map (·.2)))=bY;unfold seeD;rw[cz,cz,ae];exact⟨zt (λ d hd n=>by simp_all) _,zt (λ d hd n=>by obtain⟨x,hx,rfl⟩:=ao.mp hd;rfl) _⟩
   .exact .inl (aN6 h1 h2 h3)
def bD6 (h:y ∉ tb):al9 y (.T bY) (seeD tb)=seeD (tb++[y]):=by
 unfold al9;rw[(qv).2 h];unfold seeD;rw[aS];rfl
def zJ  o  f :ev F (.attr o f) U s=(ev F o U s).bind λ x s=>aq1 f x s:=rfl
def ae9:Xf:=⟨3,0,.seq (.ite (.Z .isin (.X 2) (.attr (.X 0) am4)) (.cons .retN .nil) .nil) (.iteT (.Z .eq (.bi .len (.cons (.attr (.X 0) ah0) .nil)) (.gl "MOST_TABLES")) (.rais "TooMuch") .no)⟩
def ao9:aa3.body=qw:=rfl
section
variable {P:Pr} [HasM P "ClosedSet" "take" aa3] [HasC P "MOST_TABLES" (.int 80)]
def bK3  n (h:ClS s o a b e st tb)(hy:y∈tb)(hk:y.keyT=bY):(aa0 P (n+1)).mcall "ClosedSet" "take" [.ref o,x,y] s=.ok .N s:=by
 have q:=jn h.see hk;rw[(qv).1 hy]at q;rw[qA aa3 rfl,ao9,show(bL al [D.ref o,x,y]++aA aa3.vs aT)=[al (.ref o),al x,al y]from rfl]
 simp only[za,zu,jy,zM,ev_cmp,R.bind_ok,zL,zU,qX,je,qC,if_true,zJ,jF h.ins,q,eN,aY4]
 simp_all
def bs1  n (h:ClS s o a b e st tb)(hy:y ∉ tb)(hk:y.keyT=bY)(hx:∀ n,x.bnd n=bY)(B:∀ n,y.bnd n=bY)(hl:tb.length<80) :
  (aa0 P (n+1)).mcall "ClosedSet" "take" [.ref o,x,y] s=.ok .N (clU s a b e (st++[x]) (tb++[y]))/\ClS (clU s a b e (st++[x]) (tb++[y])) o a b e (st++[x]) (tb++[y]):=by
 have hs:∀ d∈st++[x],∀ n,d.bnd n=true:=λ d hd=>by
  rcases aZ.mp hd with z|z
  .exact h.bs d z
  .rw[aO.mp z];exact hx
 have ht:∀ d∈tb++[y],∀ n,d.bnd n=true:=λ d hd=>by
  rcases aZ.mp hd with z|z
  .exact h.bt d z
  .rw[aO.mp z];exact B
 refine⟨?_,h.more (by simp[h.len]) (by simp;lia) hs ht⟩;obtain⟨Z,n2,n3,n4,n5⟩:=h.ne;have la:a<s.length:=(ag.mp h.stp).1;have lb:b<s.length:=(ag.mp h.tab).1;have q:=jn h.see hk;rw[(qv).2 hy]at q;have e2:bi .len [.ref a] s=.ok (.int st.length) s:=jD h.stp;have hd:decide ((st.length:Int)=80)=false:=iF (by rw[h.len];lia);have e3:=zI (v:=x) h.stp (by rw[h.len];unfold LIM;lia);have J:(s.set a (.J (st++[x])))[o]?=al (.ins "ClosedSet" (fldC a b e)):=by rw[aC (bH Z)];exact h.ins
 have b1:(s.set a (.J (st++[x])))[b]?=al (.J tb):=by rw[aC h.ab];exact h.tab
 have Uu:=zI (v:=y) b1 (by unfold LIM;omega);have i2:((s.set a (.J (st++[x]))).set b (.J (tb++[y])))[o]?=al (.ins "ClosedSet" (fldC a b e)):=by rw[aC (bH n2)];exact J
 have c2:((s.set a (.J (st++[x]))).set b (.J (tb++[y])))[e]?=al (.dit (seeD tb)):=by rw[aC n5,aC n4];exact h.see
 have Y:oI (.ref e) y (.T bY) ((s.set a (.J (st++[x]))).set b (.J (tb++[y])))=.ok () (clU s a b e (st++[x]) (tb++[y])):=by
  unfold oI;simp only[c2,hk,bD6 hy];rw[ef (by simp[seeD];unfold LIM;omega)];rfl
 rw[qA aa3 rfl,ao9,show(bL al [D.ref o,x,y]++aA aa3.vs aT)=[al (.ref o),al x,al y]from rfl]
 simp only[qu,za,zu,jy,ex_ex,ex_setIx,zM,ev_cst,ev_cmp,ev_bi,ev_meth,qd,z5,Cn_bl,R.bind_ok,zL,zU,zd,fin_next,eq_int,qC,if_false,Bool.false_eq_true,zJ,jF h.ins,q,eN,ak1 h.ins,e2,qY (v:=.int 80),hd,qu,e3,av8 J,Uu,jF i2,Y]
 exact aj4 (bK8 h hs ht) aW5
end
section
variable {P:Pr} [HasMX P "ClosedSet" "take" ae9] [HasC P "MOST_TABLES" (.int 80)]
def cc1 [hE:HasE P "TooMuch" ts] n (h:ClS s o a b e st tb)(hy:y ∉ tb)(hk:y.keyT=bY)(J:tb.length=80):(aa0 P (n+1)).xm "ClosedSet" "take" [.ref o,x,y] s=al ("TooMuch",s):=by
 have q:=jn h.see hk;rw[(qv).2 hy]at q;have e2:=jD h.stp;have hd:decide ((st.length:Int)=80)=true:=ij (by rw[h.len];lia);have hx:(aa0 P n).xc "TooMuch"=true:=by rw[bX3.1];exact hE.at_
 rw[aE2 ae9 rfl,show(bL al [D.ref o,x,y]++aA ae9.vs aT)=[al (.ref o),al x,al y]from rfl];have z:ex (aa0 P n) (.ite (.Z .isin (.X 2) (.attr (.X 0) am4)) (.cons .retN .nil) .nil) [al (.ref o),al x,al y] s=.ok (.next [al (.ref o),al x,al y]) s:=by
  simp only[za,zu,jy,zM,ev_cmp,R.bind_ok,zL,zU,qC,if_false,Bool.false_eq_true,zJ,jF h.ins,q,eN]
 have B:ev (aa0 P n) (.Z .eq (.bi .len (.cons (.attr (.X 0) ah0) .nil)) (.gl "MOST_TABLES")) [al (.ref o),al x,al y] s=.ok (.T bY) s:=by
  simp only[zM,ev_cmp,ev_bi,qd,z5,R.bind_ok,zL,eq_int,zJ,ak1 h.ins,e2,qY (v:=.int 80),hd]
 show(match ex (aa0 P n) (.ite (.Z .isin (.X 2) (.attr (.X 0) am4)) (.cons .retN .nil) .nil) [al (.ref o),al x,al y] s with|.ok (.next U1) s1=>xB (aa0 P n) (.iteT (.Z .eq (.bi .len (.cons (.attr (.X 0) ah0) .nil)) (.gl "MOST_TABLES")) (.rais "TooMuch") .no) U1 s1|_=>aT)=_;rw[z];show(match ev (aa0 P n) (.Z .eq (.bi .len (.cons (.attr (.X 0) ah0) .nil)) (.gl "MOST_TABLES")) [al (.ref o),al x,al y] s with|.ok (.T b) s1=>if b then xB (aa0 P n) (.rais "TooMuch") [al (.ref o),al x,al y] s1 else xB (aa0 P n) .no [al (.ref o),al x,al y] s1|_=>aT)=_;rw[B];show(if(aa0 P n).xc "TooMuch"=bY then al ("TooMuch",s)else aT)=_;rw[ef hx]
end
def Stdy (m:Nat)(f:Nat->Nat->Int):Prop:=EqG m (pr m f f) f
section
variable {P:Pr} [Has P ad3] [Has P aa7] [HasL P aa2] [Has P ab5]
def ak5  n (Uu:1<=m)(z:m<=5)(B:InG m f)(hs:s.all O.ncl=bY) :
  ∃ b,(aa0 P (n+4)).call "is_steady" [gd m f] s=.ok (.T b) s/\(b=bY↔Stdy m f):=by
 have J:(aa0 P (n+4)).call "is_steady" [gd m f] s=_:=zl ab5 rfl;obtain⟨b,e,h⟩:=cb9 (s:=s) ;refine⟨b,?_,h⟩;rw[J,show(bL al [gd m f]++aA ab5.vs aT)=[al (gd m f)]from rfl];simp only[ab5,za,ex_ret,ev_cmp,ev_call,evas_ex,qK,zM,zL,R.bind_ok,jk n Uu z B B hs,e,je];exact br9
variable [Has P ac2] [Has P ac3] [HasL P ab1] [HasC P "FREE" (.int 0)] [HasC P "UNBOUND" (.int 2)] [HasC P "NONE" (.int 3)]
def aJ8 {x}{d}[HasC P x d] U  s :ev (aa0 P n) (.gl x) U s=.ok d s:=by
 show(match(aa0 P n).con x with|some d=>R.ok d s|none=>.B)=_;rw[aY8 (v:=d)]
def aJ4  n  x  s :(aa0 P (n+1)).call "round_of" [.int x] s=.ok (.int (L2.rnd x)) s:=by
 have B:(aa0 P (n+1)).call "round_of" [.int x] s=_:=zl ac2 rfl;rw[B,show(bL al [D.int x]++aA ac2.vs aT)=[al (D.int x)]from rfl];have g1:=λ U s=>aJ8 (P:=P) (n:=n) (x := "FREE") (d:=.int 0) U s;have h:=λ U s=>aJ8 (P:=P) (n:=n) (x := "NONE") (d:=.int 3) U s;have z:=λ U s=>aJ8 (P:=P) (n:=n) (x := "UNBOUND") (d:=.int 2) U s;by_cases h0:x=0
 .have e:L2.rnd x=x:=by unfold L2.rnd;lia
  simp only[ac2,za,jy,ev_or,ev_cmp,zM,zL,R.bind_ok,g1,eq_int,h0,je]
  simp_all
 .by_cases h3:x=3
  .have e:L2.rnd x=x:=by unfold L2.rnd;lia
   simp only[ac2,za,jy,ev_or,ev_cmp,g1,h,je]
   simp_all
  .have e:L2.rnd x=2:=by unfold L2.rnd;lia
   simp only[ac2,za,zu,jy,ev_or,ev_cmp,zM,zL,R.bind_ok,g1,h,z,eq_int,h0,h3,decide_false,bz,if_false,qC,zd,ex_ret,qX,je]
   simp_all
def aD8  n (B:1<=m)(Y:m<=5)(hf:InG m f)(Z:Stdy m f)(hs:s.all O.ncl=bY) :
  (aa0 P (n+5)).call "sharpened" [gd m f] s=.ok (gd m (sh m f)) s:=by
 have e0:(aa0 P (n+5)).call "sharpened" [gd m f] s=_:=zl ac3 rfl;obtain⟨b,eb,hb⟩:=ak5 (P:=P) n B Y hf hs;have a0:=hb.mpr Z;subst a0;have nL:(O.J (row m λ k=>L2.rnd (f k k))).ncl=true:=bi2;have z:=qG hs nL;have gL:∀ t:Sto,(s++[O.J (row m λ k=>L2.rnd (f k k))]++t)[s.length]?=al (.J (row m λ k=>L2.rnd (f k k))):=λ t=>by rw[bo,ay (aj _)];simp
 have J:=ak0 (P:=P) (n+3) (m:=m) (by omega) (d:=.clo "sharpened.0" [.int m,gd m f,.ref s.length]) (λ _ _ _=>rfl) (λ i j hi hj=>by
  have g0:=gL [O.J ((am i).map λ i=>D.tp ((am m).map λ j=>D.int (sh m f i j)))];generalize hS:s++[O.J (row m λ k=>L2.rnd (f k k))]++[O.J ((am i).map λ i=>D.tp ((am m).map λ j=>D.int (sh m f i j)))]=S at g0;have nS:S.all O.ncl=true:=by
   rw[<-hS];refine qG z (zx λ d hd=>?_);obtain⟨x,_,rfl⟩:=ao.mp hd;unfold D.ncl;exact zx λ d hd=>by obtain⟨x,_,rfl⟩:=ao.mp hd;rfl
  refine(aj5 ab1 rfl rfl (by rw[nS];simp[D.nclL,D.ncl,an5])).trans ?_;show(ev (aa0 P (n+2)) ab1.body [al (.int i),al (.int j),al (.int m),al (gd m f),al (.ref s.length)] S).bind (ab7 S)=_;simp -implicitDefEqProofs only[ab1,ev_mk,qR,qI,zM,zL,zU,R.bind_ok];rw[zC (by unfold Ww62;omega) (by unfold Ww62;omega)];simp only[R.bind_ok];rw[ef (by rw[zy];unfold LIM;omega)];have e1:qy (λ s1=>chk S s1 []) (qc (aa0 P (n+2)) (.Y 0) (.bi .max3 (.cons (.ix (.ix (.X 1) (.X 2)) (.X 0)) (.cons (.ix (.X 3) (.X 0)) (.cons (.ix (.ix (.X 1) (.X 0)) (.X 4)) .nil))))) (ag2 0 (m:Int)) (zN [al (.int i),al (.int j),al (.int m),al (gd m f),al (.ref s.length)] [aT,al 3,al 0,al 4,al 1]) S=.ok ((am m).map λ k=>.int (max (max (f i k) (L2.rnd (f k k))) (f k j))) S:=by
   obtain⟨U1,s1,e1,h⟩:=qH (ok:=λ s1=>chk S s1 []) (g:=qc (aa0 P (n+2)) (.Y 0) (.bi .max3 (.cons (.ix (.ix (.X 1) (.X 2)) (.X 0)) (.cons (.ix (.X 3) (.X 0)) (.cons (.ix (.ix (.X 1) (.X 0)) (.X 4)) .nil))))) (λ U u=>u=S/\∃ x,U=[x,al (gd m f),al (.int i),al (.ref s.length),al (.int j)]) (λ k=>.int (max (max (f i k) (L2.rnd (f k k))) (f k j))) m (zN [al (.int i),al (.int j),al (.int m),al (gd m f),al (.ref s.length)] [aT,al 3,al 0,al 4,al 1]) S ⟨rfl,aT,rfl⟩ (λ _ _ _=>rfl) (by
    rintro k hk U u ⟨rfl,x,rfl⟩
    refine⟨[al (.int k),al (gd m f),al (.int i),al (.ref s.length),al (.int j)],u,?_,rfl,_,rfl⟩;unfold qc;simp -implicitDefEqProofs only[zF,qF,ev_bi,z5,qd,ev_ix,zM,zL,zU,R.bind_ok,as5 hi,as5 hk,qD hk,qD hj,au6 g0 (jC hk),az0])
   obtain⟨rfl,_⟩:=h;exact e1
  rw[e1];simp only[R.bind_ok];rw[bw1 (v:=sh m f i j) B (λ x=>by
   rw[aN2 B hf i j hi hj,L2.am3 B];constructor
   .rintro⟨l,Uu,h,h2,h3⟩;exact⟨l,Uu,by lia⟩
   .rintro⟨l,Uu,h⟩;exact⟨l,Uu,by omega,by omega,by lia⟩)]
  exact zE)
 have er:qy (λ s1=>chk s s1 []) (qc (aa0 P (n+4)) (.Y 0) (.call "round_of" (.ex (.ix (.ix (.X 1) (.X 0)) (.X 0)) .nil))) (ag2 0 (m:Int)) (zN [al (gd m f),al (.int m),aT] [aT,al 0]) s=.ok (row m λ k=>L2.rnd (f k k)) s:=by
  obtain⟨U1,s1,e1,h⟩:=qH (ok:=λ s1=>chk s s1 []) (g:=qc (aa0 P (n+4)) (.Y 0) (.call "round_of" (.ex (.ix (.ix (.X 1) (.X 0)) (.X 0)) .nil))) (λ U u=>u=s/\∃ x,U=[x,al (gd m f)]) (λ k=>.int (L2.rnd (f k k))) m (zN [al (gd m f),al (.int m),aT] [aT,al 0]) s ⟨rfl,aT,rfl⟩ (λ _ _ _=>rfl) (by
   rintro k hk U u ⟨rfl,x,rfl⟩
   refine⟨[al (.int k),al (gd m f)],u,?_,rfl,_,rfl⟩;unfold qc;simp -implicitDefEqProofs only[zF,qF,ev_call,evas_ex,qK,ev_ix,zM,zL,zU,R.bind_ok,as5 hk,qD hk,aJ4 (n+3)])
  obtain⟨rfl,_⟩:=h;exact e1
 rw[e0,show(bL al [gd m f]++aA ac3.vs aT)=[al (gd m f),aT,aT]from rfl];simp -implicitDefEqProofs only[ac3,za,zu,jy,ev_not,ev_call,evas_ex,qK,zM,zL,zU,R.bind_ok,eb,qC,eI,if_false,bz,zd,ex_asg,ev_bi,z5,qd,aZ4,zF,setV_s,qF,bS,qB,ev_mk,qR,qI];rw[zC (by unfold Ww62;lia) (by unfold Ww62;lia)];simp only[R.bind_ok];rw[ef (by rw[zy];unfold LIM;lia),er];simp -implicitDefEqProofs only[R.bind_ok,mk,alloc_eq,qB,zd,zF,setV_s,qF,bS,za,zu,ex_ret,jm,evas_ex,zM,zL,zU];rw[jp (cs:=[.int m,gd m f,.ref s.length]) _ rfl];simp -implicitDefEqProofs only[qK,R.bind_ok,J];have e:gdD m (λ i j=>.int (sh m f i j))=gd m (sh m f):=rfl;rw[e,ef (by rw[an5,z];rfl)];simp -implicitDefEqProofs only[R.bind_ok,qX,je];exact zG ah5 (by nofun)
end
section
variable {P:Pr} [Has P ad3] [Has P aa7] [HasL P aa2] [Has P ab5] [Has P ju]
end
noncomputable def ai8 (S:Int->Prop):Option Int->Prop
 | none=>∀ c,¬ S c
 | some c=>S c/\∀ c',S c'->c<=c'
def ai8.congr {S }(h:ai8 S o)(e:∀ c,S c↔B c):ai8 B o:=by
 cases o with
 | none=>exact λ c hc=>h c ((e c).mpr hc)
 | some c=>exact⟨(e c).mp h.1,λ z hc=>h.2 z ((e z).mpr hc)⟩
noncomputable def minO:Option Int->Option Int->Option Int
 | none,x=>x
 | some a,aT=>al a
 | some a,al b=>if b<a then al b else al a
noncomputable def Wk (ds:List Dr):List Nat->Nat->Nat->Int->Prop
 | [],p,q,c=>p=q/\c=0
 | x::w,p,q,c=>∃ d∈ds,d.a=p/\d.l=x/\∃ c',Wk ds w d.b q c'/\c=(d.t)+c'
noncomputable def Dr.turn (x:Dr):Dr:=⟨x.b,x.l,x.a,x.t⟩
def Mc.Wk (m:Mc)(w:List Nat)(c:Int):Prop:=∃ p∈m.bg,∃ q∈m.en,DV.Wk m.ds w p q c
def Mc.turn (m:Mc):Mc:=⟨m.L,m.R,m.en,m.bg,m.ds.map Dr.turn⟩
def aU5 (row:List (Option Int)):List D:=row.map qE
def br3  row :(aU5 row).length=row.length:=aw ..
theorem at8:∀ l:List Int,qe (l.map D.int)=al l
 | []=>rfl
 | a::l=>by rw[aR];unfold qe;rw[at8 l];rfl
theorem aD5:∀(l:List Int)  a ,(l.foldl min a=a\/l.foldl min a∈l)/\l.foldl min a<=a/\∀ y∈l,l.foldl min a<=y
 | [],a=>⟨.inl rfl,cE _,λ y hy=>by cases hy⟩
 | b::l,a=>by
  obtain⟨B,J,h3⟩:=aD5 l (min a b);rw[iu];refine⟨?_,by omega,λ y hy=>?_⟩
  .rcases B with h|h
   .rw[h];rcases mD a b with z|z
    .left;omega
    .right;rw[show min a b=b by omega];exact ar ..
   .exact .inr (ah _ h)
  .rcases aB.mp hy with z|z
   .rw[z];omega
   .exact h3 y z
def aV6  l :ai8 (λ c=>c∈l) (minI l):=by
 cases l with
 | nil=>exact λ c hc=>by cases hc
 | cons a l =>
  obtain⟨B,J,h3⟩:=aD5 l a;refine⟨?_,λ y hy=>?_⟩
  .rcases B with h|h
   .rw[h];exact ar ..
   .exact ah _ h
  .rcases aB.mp hy with z|z
   .rw[z];exact J
   .exact h3 y z
def bC9  l  s :mkD .min (l.map D.int) .N s=.ok (qE (minI l)) s:=by
 unfold mkD;simp only[at8];cases minI l<;>rfl
theorem ak4 {α β:Type}{f g:α->Option β}:∀ {l:List α},(∀ x∈l,f x=g x)->l.filterMap f=l.filterMap g
 | [],_=>rfl
 | a::l,h=>by rw[bu,bu,h a (ar ..),ak4 λ x hx=>h x (ah _ hx)]
def gdO (m:Nat)(f:Nat->Nat->Option Int):D:=gdD m λ i j=>qE (f i j)
def am8  o :(qE o).ncl=true:=by cases o<;>rfl
def ax9  n :(gdO m f).bnd n=true:=bb7 (λ i j n=>qS _ n) n
def ak2 :(gdO m f).ncl=true:=by
 unfold gdO gdD D.ncl;refine zx λ d hd=>?_;obtain⟨i,_,rfl⟩:=ao.mp hd;unfold D.ncl;refine zx λ d hd=>?_;obtain⟨j,_,rfl⟩:=ao.mp hd;exact am8 _
def rowO (m:Nat)(f:Nat->Option Int):List D:=(am m).map λ j=>qE (f j)
def bu9 (h:j<m):(rowO m f)[j]?=al (qE (f j)):=by unfold rowO;rw[aL,bQ h];rfl
def bb2 (h:i<m) s :ixM (gdO m f) (.int (i)) s=.ok (.tp (rowO m (f i))) s:=ix_tup (by rw[aL,bQ h];rfl)
def aI3 (h:j<m) s :ixM (.tp (rowO m f)) (.int (j)) s=.ok (qE (f j)) s:=ix_tup (bu9 h)
def bb1 :bi .len [gdO m f] s=.ok (.int m) s:=by unfold gdO gdD;simp_all
noncomputable def addO:Option Int->Option Int->Option Int
 | some a,al b=>al (a+b)
 | _,_=>aT
theorem ar9:∀ l:List (Option Int),(aU5 l).filterMap (λ d=>if d=D.N then aT else al d)=(l.filterMap id).map D.int
 | []=>rfl
 | o::l=>by
  have h:=ar9 l;unfold aU5 at h ⊢;cases o with
  | none=>simp_all
  | some i=>simp_all
def aM3 [Has P ad7] n {s}{q}{l}(hq:s[q]?=al (.J (aU5 l)))(J:l.length<=1000):(aa0 P (n+1)).call "least" [.ref q] s=.ok (qE (minI (l.filterMap id))) s:=by
 have z:(aa0 P (n+1)).call "least" [.ref q] s=_:=zl ad7 rfl;rw[z,show(bL al [D.ref q]++aA ad7.vs aT)=[al (D.ref q)]from rfl];have B:aA0 (.ref q) s=.ok ⟨aU5 l,[q]⟩ s:=by simp only[aA0,hq]
 obtain⟨U1,s1,e1,rfl,_⟩:=an2 (ok:=λ s1=>chk s s1 [q]) (g:=be8 (aa0 P n) (.Y 0) (.notN (.X 0)) (.X 0)) (λ U u=>u=s/\∃ x,U=[x]) (λ d=>if d=D.N then aT else al d) (aU5 l) [aT] s ⟨rfl,aT,rfl⟩ (λ _ u h=>by obtain⟨rfl,_⟩:=h;simp[chk]) (by
  rintro d hd U u ⟨rfl,x,rfl⟩
  refine⟨[al d],u,?_,rfl,_,rfl⟩;unfold be8;by_cases hn:d=.N
  all_goals simp_all)
 rw[ar9]at e1;simp only[ad7]
 simp only[za,ex_ret,zM,ev_cst,ev_mkD,evI_seq,Cn_non,R.bind_ok,zL,qX,je,at2,B,ef (show(aU5 l).length<=LIM by rw[br3];unfold LIM;lia),show zN [al (D.ref q)] [aT]=[aT]from rfl,e1,bC9]
 exact aU2
def bo6 [Has P ae0] n  a b  s :(aa0 P (n+1)).call "added" [qE a,qE b] s=.ok (qE (addO a b)) s:=by
 have h:(aa0 P (n+1)).call "added" [qE a,qE b] s=_:=zl ae0 rfl;rw[h,show(bL al [qE a,qE b]++aA ae0.vs aT)=[al (qE a),al (qE b)]from rfl];simp only[ae0];cases a with
 | none=>simp only[za,zu,jy,ex_ret,zM,ev_cst,ev_or,ev_isN,Cn_non,R.bind_ok,zL,zU,qX,je,qC,if_true,decide_true,ai2,eq_self _];exact ao6
 | some a=>cases b with
  | none=>simp only[za,zu,jy,ex_ret,zM,ev_cst,ev_or,ev_isN,Cn_non,R.bind_ok,zL,zU,qX,je,qC,if_true,if_false,Bool.false_eq_true,decide_true,decide_false,ai2,jc,eq_self _,show(D.int a=D.N)=False from eq_false (by nofun)];exact ao6
  | some b=>simp only[za,zu,jy,ex_ret,zM,ev_cst,ev_bin,ev_or,ev_isN,Cn_non,R.bind_ok,zL,zU,zd,qX,je,add_int,qC,if_false,Bool.false_eq_true,decide_false,jc,show(D.int a=D.N)=False from eq_false (by nofun),show(D.int b=D.N)=False from eq_false (by nofun)];exact zE
def prO (m:Nat)(f g:Nat->Nat->Option Int)(i j:Nat):Option Int:=minI (((am m).map λ k=>addO (f i k) (g k j)).filterMap id)
def an0 {s:Sto}(hs:s.all O.ncl=bY){Ww:Nat->Nat->D}(h:∀ i j,(Ww i j).ncl=bY):(s++[O.J ((am i).map λ i=>D.tp ((am m).map λ j=>Ww i j))]).all O.ncl=true:=by
 refine qG hs (zx λ d hd=>?_);obtain⟨x,_,rfl⟩:=ao.mp hd;unfold D.ncl;exact zx λ d hd=>by obtain⟨x,_,rfl⟩:=ao.mp hd;exact h _ _
section
variable {P:Pr} [Has P ad3]
def br2 [Has P ae2][HasL P ac0] n {m:Nat}(Z:m<=5){s}(hs:s.all O.ncl=bY) :
  (aa0 P (n+3)).call "plain" [.int m] s=.ok (gdO m λ i j=>if i=j then al 0 else aT) s:=by
 have z:(aa0 P (n+3)).call "plain" [.int m] s=_:=zl ae2 rfl;have J:=ak0 (P:=P) (n+1) (m:=m) (by lia) (d:=.clo "plain.0" []) (λ _ _ n=>qS _ n) (λ i j Y hj=>by
  generalize B:s++[O.J ((am i).map λ i=>D.tp ((am m).map λ j=>qE (if i=j then al 0 else aT)))]=S;have Uu:S.all O.ncl=true:=by rw[<-B];exact an0 hs (λ _ _=>am8 _)
  refine(aj5 ac0 rfl rfl (by rw[Uu];rfl)).trans ?_;show(ev (aa0 P n) ac0.body [al (.int i),al (.int j)] S).bind (ab7 S)=_;simp only[ac0];by_cases h:i=j
  .simp_all
  .simp only[zM,ev_cst,ev_cmp,ev_ite,Cn_int,Cn_non,R.bind_ok,zL,zU,eq_int,qC,if_false,Bool.false_eq_true,decide_false,show((i)=(j:Int))=False from eq_false (by lia),gc h,ai2];exact ao6)
 rw[z,show(bL al [D.int m]++aA ae2.vs aT)=[al (D.int m)]from rfl];simp only[ae2]
 simp only[za,ex_ret,zM,evas_ex,R.bind_ok,zL,jm]
 rw[jp _ rfl];have e:gdD m (λ i j=>qE (if i=j then al 0 else aT))=gdO m (λ i j=>if i=j then al 0 else aT):=rfl
 simp only[qK,R.bind_ok,qX,je,J,e,ef (show((gdO m λ i j=>if i=j then al 0 else aT).ncl&&s.all O.ncl)=bY by rw[ak2,hs];rfl)]
 exact zq ax9 (by nofun)
def aq3 [Has P ad7][Has P ae0][Has P ac9][HasL P ab2] n {m}(hm:m<=5) f g {s}(hs:s.all O.ncl=bY) :
  (aa0 P (n+4)).call "product" [gdO m f,gdO m g] s=.ok (gdO m (prO m f g)) s:=by
 have Y:(aa0 P (n+4)).call "product" [gdO m f,gdO m g] s=_:=zl ac9 rfl;have Uu:=ak0 (P:=P) (n+2) (m:=m) (by omega) (d:=.clo "product.0" [.int m,gdO m f,gdO m g]) (λ _ _ n=>qS _ n) (λ i j J hj=>by
  generalize z:s++[O.J ((am i).map λ i=>D.tp ((am m).map λ j=>qE (prO m f g i j)))]=S;have nS:S.all O.ncl=true:=by rw[<-z];exact an0 hs (λ _ _=>am8 _)
  refine(aj5 ab2 rfl rfl (by rw[nS];simp[D.nclL,D.ncl,ak2])).trans ?_;show(ev (aa0 P (n+1)) ab2.body [al (.int i),al (.int j),al (.int m),al (gdO m f),al (gdO m g)] S).bind (ab7 S)=_;obtain⟨U1,s1,e1,rfl,_⟩:=qH (ok:=λ s1=>chk S s1 []) (g:=qc (aa0 P (n+1)) (.Y 0) (.call "added" (.ex (.ix (.ix (.X 1) (.X 2)) (.X 0)) (.ex (.ix (.ix (.X 3) (.X 0)) (.X 4)) .nil)))) (λ U u=>u=S/\∃ x,U=[x,al (gdO m f),al (.int i),al (gdO m g),al (.int j)]) (λ k=>qE (addO (f i k) (g k j))) m [aT,al (gdO m f),al (.int i),al (gdO m g),al (.int j)] S ⟨rfl,aT,rfl⟩ (λ _ _ _=>rfl) (by
   rintro k hk U u ⟨rfl,x,rfl⟩
   refine⟨[al (.int k),al (gdO m f),al (.int i),al (gdO m g),al (.int j)],u,?_,rfl,_,rfl⟩;unfold qc
   simp only[zM,ev_ix,ev_call,qK,evas_ex,R.bind_ok,zF,qF,zL,zU,bb2 J,bb2 hk,aI3 hk,aI3 hj,bo6 n])
  have Z:((am m).map λ k=>qE (addO (f i k) (g k j)))=aU5 ((am m).map λ k=>addO (f i k) (g k j)):=by unfold aU5;rw[cz];rfl
  rw[Z]at e1;have h:∀ q (s:Sto),mk .list q s=.ok (.ref s.length) (s++[.J q]):=λ _ _=>rfl;have B:=aM3 (P:=P) n (s:=s1++[O.J (aU5 ((am m).map λ k=>addO (f i k) (g k j)))]) (q:=s1.length) (l:=(am m).map λ k=>addO (f i k) (g k j)) (by rw[ay (aj _)];simp) (by simp;lia);simp only[ab2]
  simp -implicitDefEqProofs only[zM,ev_call,ev_mk,qK,evas_ex,qI,R.bind_ok,zL,zU,qR,zC (s:=s1) (i:=(m:Int)) (by unfold Ww62;lia) (by unfold Ww62;lia),ef (show(ag2 0 (m:Int)).length<=LIM by rw[zy];unfold LIM;lia),show zN [al (D.int (i:Int)),al (D.int (j:Int)),al (D.int (m:Int)),al (gdO m f),al (gdO m g)] [aT,al 3,al 0,al 4,al 1]=[aT,al (gdO m f),al (.int i),al (gdO m g),al (.int j)]from rfl,e1,h,B]
  exact zG (qS _) (ax7 _))
 rw[Y,show(bL al [gdO m f,gdO m g]++aA ac9.vs aT)=[al (gdO m f),al (gdO m g),aT]from rfl];simp -implicitDefEqProofs only[ac9]
 simp -implicitDefEqProofs only[za,ex_asg,ex_ret,zM,ev_bi,qd,z5,evas_ex,R.bind_ok,zF,setV_s,qF,zL,zU,Option.map_some,qB,zd,bb1,jm]
 rw[jp (cs:=[.int m,gdO m f,gdO m g]) _ rfl];have e:gdD m (λ i j=>qE (prO m f g i j))=gdO m (prO m f g):=rfl
 simp -implicitDefEqProofs only[qK,R.bind_ok,qX,je,Uu,e,ef (show((gdO m (prO m f g)).ncl&&s.all O.ncl)=bY by rw[ak2,hs];rfl)]
 exact zq ax9 (by nofun)
end
def ai8.low {S}(J:∀ x∈l,S x)(B:∀ c,S c->∃ x∈l,x<=c):ai8 S (minI l):=by
 have h:=aV6 l;cases e:minI l with
 | none =>
  rw[e]at h;exact λ c hc=>by obtain⟨x,hx,_⟩:=B c hc;exact h x hx
 | some i =>
  rw[e]at h;refine⟨J i h.1,λ c hc=>?_⟩;obtain⟨x,hx,z⟩:=B c hc;exact fu (h.2 x hx) z
def aX5 {A B:Nat->Nat->Int->Prop}(Y:∀ i j,i<m->j<m->ai8 (A i j) (f i j))(Uu:∀ i j,i<m->j<m->ai8 (B i j) (g i j))(J:i<m)(hj:j<m) :
  ai8 (λ c=>∃ k,k<m/\∃ a b,A i k a/\B k j b/\c=a+b) (prO m f g i j):=by
 unfold prO;refine ai8.low (λ x hx=>?_) λ c hc=>?_
 .obtain⟨o,ho,e⟩:=cK.mp hx;obtain⟨k,hk,rfl⟩:=ao.mp ho;have hk:=bE.mp hk;have h:=Y i k J hk;have z:=Uu k j hk hj;cases e1:f i k with
  | none=>rw[e1]at e;cases e
  | some a =>
   cases e2:g k j with
   | none=>rw[e1,e2]at e;cases e
   | some b =>
    rw[e1]at h;rw[e2]at z;rw[e1,e2]at e;cases e;exact⟨k,hk,a,b,h.1,z.1,rfl⟩
 .obtain⟨k,hk,a,b,ha,hb,rfl⟩:=hc;have h:=Y i k J hk;have z:=Uu k j hk hj;cases e1:f i k with
  | none=>rw[e1]at h;exact iS ha (h a)
  | some a' =>
   cases e2:g k j with
   | none=>rw[e2]at z;exact iS hb (z b)
   | some b' =>
    rw[e1]at h;rw[e2]at z;refine⟨a'+b',cK.mpr ⟨al (a'+b'),ao.mpr ⟨k,bE.mpr hk,by rw[e1,e2];rfl⟩,rfl⟩,?_⟩;have:=h.2 a ha;have:=z.2 b hb;lia
def aF3 (m:Mc)(w:List Nat)(f:Nat->Nat->Option Int):Prop:=∀ i j,i<m.R->j<m.R->ai8 (Wk m.ds w i j) (f i j)
theorem bi5 :∀ {v w} {p q} {c},Wk z (v++w) p q c↔∃ k a b,Wk z v p k a/\Wk z w k q b/\c=a+b
 | [],w,p,q,c=>by
  constructor
  .intro h;exact⟨p,0,c,⟨rfl,rfl⟩,h,by lia⟩
  .rintro⟨k,a,b,⟨rfl,rfl⟩,h,e⟩
   simp_all
 | x::v,w,p,q,c=>by
  skip
  constructor
  .rintro⟨d,hd,B,Uu,c',h3,e⟩
   obtain⟨k,a,b,Y,J,e2⟩:=bi5.mp h3;exact⟨k,a+d.t,b,⟨d,hd,B,Uu,a,Y,by lia⟩,J,by lia⟩
  .rintro⟨k,a,b,⟨d,hd,B,Uu,Z,Y,e⟩,J,e2⟩
   exact⟨d,hd,B,Uu,Z+b,bi5.mpr ⟨k,Z,b,Y,J,rfl⟩,by lia⟩
theorem bX7 {m:Mc}(z:m.Ok):∀ {w} {p q} {c},p<m.R->Wk m.ds w p q c->q<m.R
 | [],p,q,c,hp,h=>by obtain⟨rfl,_⟩:=h;exact hp
 | x::w,p,q,c,hp,h=>by
  obtain⟨d,hd,_,_,B,h3,_⟩:=h;exact bX7 z (z.ds.1 d hd).b h3
def aF3.nil :aF3 m [] λ i j=>if i=j then al 0 else none:=λ i j z hj=>by
 show ai8 (Wk m.ds [] i j) (if i=j then al 0 else aT);by_cases h:i=j
 .rw[ef h];exact⟨⟨h,rfl⟩,λ c hc=>by have:=hc.2;lia⟩
 .rw[gc h];exact λ c hc=>h hc.1
def aF3.mul (Uu:m.Ok)(h:aF3 m v f)(h':aF3 m w g):aF3 m (v++w) (prO m.R f g):=λ i j J hj=>(aX5 h h' J hj).congr λ c=>by
 rw[bi5];constructor
 .rintro⟨k,_,a,b,z,B,e⟩;exact⟨k,a,b,z,B,e⟩
 .rintro⟨k,a,b,z,B,e⟩;exact⟨k,bX7 Uu J z,a,b,z,B,e⟩
def ltF (ds:List Dr)(c i j:Nat):Option Int:=minI (ds.filterMap λ d=>if d.a=i/\d.l=c/\d.b=j then al (d.t)else aT)
def ak8 :Wk B [x] p q c↔∃ d∈B,d.l=x/\d.a=p/\d.b=q/\c=d.t:=by
 constructor
 .rintro⟨d,hd,h,z,J,⟨h3,Uu⟩,e⟩;exact⟨d,hd,z,h,h3,by lia⟩
 .rintro⟨d,hd,h,z,h3,e⟩;exact⟨d,hd,z,h,0,⟨h3,rfl⟩,by lia⟩
set_option tactic.hygienic true in
def aF3.letter  c :aF3 m [c] (ltF m.ds c):=λ i j J hj=>by
 unfold ltF;refine ai8.low (λ x hx=>?_) λ x hx=>?_
 .obtain⟨d,hd,e⟩:=cK.mp hx;split at e
  .rename_i h;cases e;exact ak8.mpr ⟨d,hd,h.2.1,h.1,h.2.2,rfl⟩
  .cases e
 .obtain⟨d,hd,z,B,h3,e⟩:=ak8.mp hx;exact⟨x,cK.mpr ⟨d,hd,by rw[ef ⟨B,z,h3⟩,e]⟩,cE _⟩
def aZ0 {a b i j  :Nat}:js .eq (.tp [.int (a),.str [l],.int (b)]) (.tp [.int (i),.str [c],.int (j)]) s=.ok (.T (decide (a=i/\l=c/\b=j))) s:=by
 have:eqv s DEEP (.tp [.int (a),.str [l],.int (b)]) (.tp [.int (i),.str [c],.int (j)])=al (((a)==(i:Int))&&(([l]==[c])&&(((b)==(j:Int))&&bY))):=rfl;show(match eqv s DEEP (.tp [.int (a),.str [l],.int (b)]) (.tp [.int (i),.str [c],.int (j)])with|some r=>R.ok (D.T r) s|none=>.B)=_;rw[this];show R.ok (D.T _) s=_
 congr 2
 lia
section
variable {P:Pr} [Has P ad3] [Has P ad7] [Has P ac4] [Has P ac1] [Has P aa8] [HasL P aa6]
def ce1 {m:Mc}:m.d.ncl=true:=by
 unfold Mc.d Mc.ps D.ncl;simp only[D.nclL,D.ncl,bt7,fI];exact zx λ d hd=>by obtain⟨x,_,rfl⟩:=ao.mp hd;rfl
def aq0  n {m:Mc}(Uu:m.Ok) c (hs:s.all O.ncl=bY) :
  (aa0 P (n+4)).call "letter_table" [m.d,.str [c]] s=.ok (gdO m.R (ltF m.ds c)) s:=by
 have e0:(aa0 P (n+4)).call "letter_table" [m.d,.str [c]] s=_:=zl aa8 rfl;have hR:=Uu.R5;have hD:=Uu.ds.2;have hg:=ak0 (P:=P) (n+2) (m:=m.R) (by lia) (d:=.clo "letter_table.least_fee" [m.d,.str [c]]) (λ _ _ n=>qS _ n) (λ i j hi hj=>by
  generalize Z:s++[O.J ((am i).map λ i=>D.tp ((am m.R).map λ j=>qE (ltF m.ds c i j)))]=S;have nS:S.all O.ncl=true:=by rw[<-Z];exact an0 hs (λ _ _=>am8 _)
  refine(aj5 aa6 rfl rfl (by rw[nS];simp[D.nclL,D.ncl,ce1])).trans ?_;show(ev (aa0 P (n+1)) aa6.body [al (.int i),al (.int j),al m.d,al (.str [c])] S).bind (ab7 S)=_;obtain⟨U1,s1,e1,rfl,_⟩:=an2 (ok:=λ s1=>chk S s1 []) (g:=be8 (aa0 P (n+1)) (.tp [0,1,2,3]) (.Z .eq (.tp (.cons (.X 0) (.cons (.X 1) (.cons (.X 2) .nil)))) (.tp (.cons (.X 4) (.cons (.X 5) (.cons (.X 6) .nil))))) (.X 3)) (λ U u=>u=S/\∃ x0 x1 x2 J,U=[x0,x1,x2,J,al (.int (i:Int)),al (.str [c]),al (.int (j:Int))]) (λ d=>match d with|.tp [.int a,.str [l],.int b,.int t]=>if a=i/\l=c/\b=j then al (.int t)else aT|_=>aT) (m.ds.map Dr.d) [aT,aT,aT,aT,al (.int (i:Int)),al (.str [c]),al (.int (j:Int))] S ⟨rfl,aT,aT,aT,aT,rfl⟩ (λ _ _ _=>rfl) (by
   rintro d hd U u ⟨rfl,x0,x1,x2,J,rfl⟩
   obtain⟨x,_,rfl⟩:=ao.mp hd;refine⟨[al (.int x.a),al (.str [x.l]),al (.int x.b),al (.int x.t),al (.int i),al (.str [c]),al (.int j)],u,?_,rfl,_,_,_,_,rfl⟩;unfold be8 Dr.d;by_cases h:x.a=i/\x.l=c/\x.b=j
   .simp only[zM,ev_cmp,ev_tup,qd,z5,R.bind_ok,bindT_tup,setVs_nil,setVs_cons,setV_s,qF,zL,zU,Option.map_some,Option.bind_some,qC,aZ0,h]
    simp
   .have h2:¬((x.a:Int)=(i:Int)/\x.l=c/\(x.b:Int)=(j:Int)):=by lia
    simp only[zM,ev_cmp,ev_tup,qd,z5,R.bind_ok,bindT_tup,setVs_nil,setVs_cons,setV_s,qF,zL,zU,Option.map_some,Option.bind_some,qC,if_false,Bool.false_eq_true,decide_false,aZ0,h,gc h2])
  have er:(m.ds.map Dr.d).filterMap (λ d=>match d with|.tp [.int a,.str [l],.int b,.int t]=>if a=i/\l=c/\b=j then al (D.int t)else aT|_=>aT)=aU5 ((m.ds.filterMap λ d=>if d.a=i/\d.l=c/\d.b=j then al (d.t:Int)else aT).map al):=by
   unfold aU5;rw[cz,gi,List.map_filterMap];refine ak4 λ x _=>?_;unfold Dr.d;simp only[lZ];by_cases h:x.a=i/\x.l=c/\x.b=j
   .simp_all
   .rw[gc h,gc (by omega)];rfl
  rw[er]at e1;generalize B:(m.ds.filterMap λ d=>if d.a=i/\d.l=c/\d.b=j then al (d.t:Int)else aT)=L at e1;have a0:L.length<=75:=by rw[<-B];exact aq (gS _ _) hD
  have z:∀ q (s:Sto),mk .list q s=.ok (.ref s.length) (s++[.J q]):=λ _ _=>rfl;have Y:=aM3 (P:=P) n (s:=s1++[O.J (aU5 (L.map al))]) (q:=s1.length) (l:=L.map al) (by rw[ay (aj _)];simp) (by simp;lia);have eL:(L.map al).filterMap id=L:=by simp_all
  rw[eL]at Y;simp only[aa6]
  simp only[zM,ev_call,ev_mk,qK,evas_ex,evI_seq,R.bind_ok,zL,zU,aK2 n,aK4,at2,ef (show(m.ds.map Dr.d).length<=LIM by rw[aw];unfold LIM;lia),show zN [al (D.int (i:Int)),al (D.int (j:Int)),al m.d,al (D.str [c])] [aT,aT,aT,aT,al 0,al 3,al 1]=[aT,aT,aT,aT,al (.int (i:Int)),al (.str [c]),al (.int (j:Int))]from rfl,e1,z,Y]
  rw[<-B];exact zG (qS _) (ax7 _))
 rw[e0,show(bL al [m.d,D.str [c]]++aA aa8.vs aT)=[al m.d,al (D.str [c]),aT]from rfl];simp only[aa8]
 simp only[za,ex_ret,ex_und,zM,ev_call,qK,evas_ex,R.bind_ok,unsetV_s,unsetV_0,zL,Option.map_some,qB,zd,jm,ap8 (n+2)]
 rw[jp (cs:=[m.d,.str [c]]) _ rfl];have e:gdD m.R (λ i j=>qE (ltF m.ds c i j))=gdO m.R (ltF m.ds c):=rfl
 simp only[qK,R.bind_ok,qX,je,hg,e,ef (show((gdO m.R (ltF m.ds c)).ncl&&s.all O.ncl)=bY by rw[ak2,hs];rfl)]
 exact zq ax9 (by nofun)
end
theorem az6  k a v :∀ l:List (D×D),look k (l++[(a,v)])=match look k l with|some x=>al x|none=>if a=k then al v else aT
 | []=>by unfold look;rfl
 | (b,u)::l=>by
  rw[dq];unfold look;by_cases h:b=k
  .rw[ef h,ef h]
  .rw[gc h,gc h];exact az6 k a v l
def aE9 (h:s[r]?=al (.dc l))(hk:k.key=bY):js .notin k (.ref r) s=.ok (.T (!(look k l).isSome)) s:=by
 show(inM k (.ref r) s).bind (λ r s=>R.ok (D.T (!r)) s)=_;simp only[inM,h,hk,if_true,R.bind_ok]
def bw6 (h:s[r]?=al (.dc l))(hk:k.key=bY)(hv:look k l=al v):ixM (.ref r) k s=.ok v s:=by
 simp only[ixM,h,hk,if_true,hv]
def bD3 (h:s[r]?=al (.dc l))(hk:k.key=bY)(z:l.length<LIM):setIx (.ref r) k v s=.ok () (s.set r (.dc (al9 k v l))):=by
 simp[setIx,h,hk,z]
def bO2 :ev F (.dc .nil .nil) U s=.ok (.ref s.length) (s++[.dc []]):=rfl
def bP1 (h:look k l=aT):al9 k v l=l++[(k,v)]:=by unfold al9;rw[h];rfl
def bo0 {s:Sto}{o :O}:(s++[o]).set s.length p=s++[p]:=by simp_all
section
variable {P:Pr} [Has P ad3] [Has P ad7] [Has P ae0] [Has P ac4] [Has P ac1] [Has P aa8] [HasL P aa6] [Has P ae2] [HasL P ac0] [Has P ac9] [HasL P ab2] [Has P ab4]
def bP2 (m:Mc)(l:List (D×D)):Prop:=(∀ c v,look (.str [c]) l=al v->v=gdO m.R (ltF m.ds c))/\∀ p∈l,p.2.ncl=bY
def bP2.nil :bP2 m []:=⟨λ c v h=>(by cases h),λ p z=>(by cases z)⟩
def ay0  n (hm:m.Ok) w (hw:w.length<=5000)(hs:s.all O.ncl=bY) :
  ∃ f,aF3 m w f/\(aa0 P (n+5)).call "word_table" [m.d,.str w] s=.ok (gdO m.R f) s:=by
 have e0:(aa0 P (n+5)).call "word_table" [m.d,.str w] s=_:=zl ab4 rfl;have Z:=hm.R5;have nd:∀ l:List (D×D),bP2 m l->(s++[O.dc l]).all O.ncl=true:=λ l h=>qG hs (zx λ d hd=>by
  obtain⟨p,hp,rfl⟩:=ao.mp hd;exact h.2 p hp)
 have key:=jj (ok:=λ s1=>chk (s++[O.dc []]) s1 []) (g:=turn (aa0 P (n+4)) (.Y 4) (.cons (.ite (.Z .notin (.X 4) (.X 2)) (.cons (.setIx (.X 2) (.X 4) (.call "letter_table" (.ex (.X 0) (.ex (.X 4) .nil)))) .nil) .nil) (.cons (.A (.Y 3) (.call "product" (.ex (.X 3) (.ex (.ix (.X 2) (.X 4)) .nil)))) .nil)))
  (λ k U t=>∃ f l x,aF3 m (w.take k) f/\bP2 m l/\l.length<=k/\U=[al m.d,al (.str w),al (.ref s.length),al (gdO m.R f),x]/\t=s++[.dc l]) (sg w) 0 [al m.d,al (.str w),al (.ref s.length),al (gdO m.R λ i j=>if i=j then al 0 else aT),aT] (s++[O.dc []])
  ⟨_,[],aT,by rw[lP];exact aF3.nil,bP2.nil,aj _,rfl,rfl⟩ (λ _ _ _ _ _=>rfl) (by
  rintro k d U t hk ⟨f,l,x,J,z,a0,rfl,rfl⟩
  rw[bN]at J a0 ⊢;unfold sg at hk;rw[aL]at hk;obtain⟨c,hc,rfl⟩:=bq.mp hk;have a1:=(ag.mp hc).1;have B:∀ l:List (D×D),(s++[O.dc l])[s.length]?=al (.dc l):=λ l=>by simp_all
  have e1:=aq0 (P:=P) n hm c (nd l z);have hT:aF3 m (w.take (k+1)) (prO m.R f (ltF m.ds c)):=by
   rw[aB7 hc];exact aF3.mul hm J (aF3.letter c)
  cases hlk:look (.str [c]) l with
  | none =>
   have Uu:bP2 m (l++[(.str [c],gdO m.R (ltF m.ds c))]):=by
    refine⟨λ c' v hv=>?_,λ p hp=>?_⟩
    .rw[az6]at hv;cases q:look (.str [c']) l with
     | none =>
      lia
     | some v'=>rw[q]at hv;cases hv;exact z.1 c' v q
    .rcases aZ.mp hp with h|h
     .exact z.2 p h
     .rw[aO.mp h];exact ak2
   have e2:=aq3 (P:=P) n Z f (ltF m.ds c) (nd _ Uu);have Y:=bw6 (B (l++[(.str [c],gdO m.R (ltF m.ds c))])) rfl (v:=gdO m.R (ltF m.ds c)) (by rw[az6,hlk];simp);have e4:=bD3 (v:=gdO m.R (ltF m.ds c)) (B l) (k:=.str [c]) rfl (by unfold LIM;lia);rw[bP1 hlk,bo0]at e4;refine⟨_,_,.inl ?_,_,_,al (.str [c]),hT,Uu,by simp_all,rfl,rfl⟩;unfold turn
   simp -implicitDefEqProofs only[za,zu,ex_asg,jy,ex_setIx,zM,ev_cmp,ev_ix,ev_call,qK,evas_ex,R.bind_ok,zF,setV_s,qF,zL,zU,Option.map_some,qB,zd,qC,if_true,Bool.not_false,aE9 (B l) (k:=.str [c]) rfl,hlk,ka,e1,e4,Y,e2]
  | some v =>
   have hv:=z.1 c v hlk;have e2:=aq3 (P:=P) n Z f (ltF m.ds c) (nd _ z);have Y:=bw6 (B l) (k:=.str [c]) rfl hlk;rw[hv]at Y;refine⟨_,_,.inl ?_,_,_,al (.str [c]),hT,z,by lia,rfl,rfl⟩;unfold turn
   simp -implicitDefEqProofs only[za,zu,ex_asg,jy,ex_setIx,zM,ev_cmp,ev_ix,ev_call,qK,evas_ex,R.bind_ok,zF,setV_s,qF,zL,zU,Option.map_some,qB,zd,qC,if_false,Bool.false_eq_true,Bool.not_true,aE9 (B l) (k:=.str [c]) rfl,hlk,gk,Y,e2])
 refine wl λ _ ua=>?_;obtain⟨U',s',ek,f,l,x,J,z,_,rfl,rfl⟩:=key;rw[bN,cf1,g7]at J;refine ua ⟨f,J,?_⟩;have e1:=br2 (P:=P) (n+1) Z (nd [] bP2.nil);have h2:∀ t,aA0 (.str w) t=.ok ⟨sg w,[]⟩ t:=λ _=>rfl;rw[e0,show(bL al [m.d,D.str w]++aA ab4.vs aT)=[al m.d,al (D.str w),aT,aT,aT]from rfl];simp only[ab4]
 simp only[za,ex_asg,ex_for,zM,ev_call,qK,evas_ex,evI_seq,R.bind_ok,zF,setV_s,qF,zL,zU,Option.map_some,qB,zd,bO2,ap8 (n+3),e1,h2]
 rw[ek]
 simp only[za,ex_ret,zM,R.bind_ok,zL,zU,zd,qX,je]
 exact zG ax9 (by nofun)
end
section
variable {P:Pr} [Has P ad3] [Has P ad7] [Has P ae0] [Has P ac4] [Has P ac1] [Has P aa8] [HasL P aa6] [Has P ae2] [HasL P ac0] [Has P ac9] [HasL P ab2] [Has P ab4]

end
section
variable {P:Pr} [Has P jH] [Has P zO]
variable [Has P ad3] [Has P ad7] [Has P ae0] [Has P ac4] [Has P ac1] [Has P aa8] [HasL P aa6] [Has P ae2] [HasL P ac0] [Has P ac9] [HasL P ab2] [Has P ab4]
end
section
variable {P:Pr} [Has P af4]
end
section
variable {m:Nat} (hm:1<=m) {g:Nat->Nat->Int} (hg:InG m g) (hst:Stdy m g)
include hm hg hst
end
section
variable {P:Pr} [Has P af4] [Has P ad3] [Has P aa7] [HasL P aa2] [Has P ab5] [Has P ac2] [Has P ac3] [HasL P ab1] [HasC P "FREE" (.int 0)] [HasC P "UNBOUND" (.int 2)] [HasC P "NONE" (.int 3)] [Has P ju]
variable [Has P aq8]
end
noncomputable def un (i j:Nat):Int:=if i=j then 0 else 3
section
variable {m:Nat} (hm:1<=m)
end
section
variable {P:Pr} [Has P ad3] [HasL P qU] [HasC P "FREE" (.int 0)] [HasC P "NONE" (.int 3)]
variable [Has P aa7] [HasL P aa2]
variable [HasC P "sign_product" (.fn "sign_product")]
end
section
variable {P:Pr} [Has P ab6]
end
section
variable {P:Pr} [Has P aq8] [Has P af4] [Has P ab6] [Has P ad3] [HasL P qU] [Has P aa7] [HasL P aa2] [HasC P "FREE" (.int 0)] [HasC P "NONE" (.int 3)] [HasC P "sign_product" (.fn "sign_product")]
end
noncomputable def sgn:Option Int->Int
 | none=>3
 | some i=>if i=0 then 0 else 1
def bQ5  o :0<=sgn o/\sgn o<=3/\sgn o≠2:=by
 cases o with
 | none=>exact⟨by decide,by decide,by decide⟩
 | some i=>unfold sgn;simp only;split<;>exact⟨by decide,by decide,by decide⟩
theorem bT2 :∀ {w} {p q} {c},Wk z w p q c->0<=c
 | [],p,q,c,h=>by have:=h.2;lia
 | x::w,p,q,c,h=>by
  obtain⟨d,hd,_,_,B,h3,e⟩:=h;have:=bT2 h3;lia
structure SgW1 (S:Int->Prop)(x:Int):Prop where
 lo:0<=x
 hi:x<=3
 n2:x≠2
 z:x=0↔S 0
 t:x=3↔∀ c,¬ S c
def SgW1.eq {S}(h:SgW1 S x)(g:SgW1 S y):x=y:=by
 have B:=h.z.trans g.z.symm;have J:=h.t.trans g.t.symm;have:=h.lo;have:=h.hi;have:=h.n2;have:=g.lo;have:=g.hi;have:=g.n2;lia
set_option tactic.hygienic true in
def aY1 {S}(h:ai8 S o)(nn:∀ c,S c->0<=c):SgW1 S (sgn o):=by
 obtain⟨h0,h3,B⟩:=bQ5 o;refine⟨h0,h3,B,?_,?_⟩
 .cases o with
  | none=>exact⟨λ z=>(by cases z),λ z=>iS z (h 0)⟩
  | some i =>
   show(if i=0 then(0)else 1)=0↔_;constructor
   .intro z;split at z
    .rename_i e;rw[<-e];exact h.1
    grind
   .intro z;have J:=h.2 0 z;have B:=nn i h.1;lia
 .cases o with
  | none=>exact⟨λ _=>h,λ _=>rfl⟩
  | some i =>
   show(if i=0 then(0)else 1)=3↔_;constructor
   .grind
   .intro z;exact iS h.1 (z i)
def SgW (m:Mc)(w:List Nat)(g:Nat->Nat->Int):Prop:=∀ i j,i<m.R->j<m.R->SgW1 (Wk m.ds w i j) (g i j)
def aF3.sg (h:aF3 m w f):SgW m w λ i j=>sgn (f i j):=λ i j z hj=>aY1 (h i j z hj) λ c hc=>bT2 hc
def SgW.eqG (h:SgW m w f)(h':SgW m w g):EqG m.R f g:=λ i j z hj=>(h i j z hj).eq (h' i j z hj)
theorem aK9  J  c i j :∀ k,k<=J.length->(sgF J c i j k=3/\∀ d∈J.take k,¬(d.l=c/\d.a=i/\d.b=j))\/(sgF J c i j k=1/\(∃ d∈J.take k,d.l=c/\d.a=i/\d.b=j)/\∀ d∈J.take k,d.l=c/\d.a=i/\d.b=j->d.t≠0)\/(sgF J c i j k=0/\∃ d∈J.take k,(d.l=c/\d.a=i/\d.b=j)/\d.t=0)
 | 0,_=>.inl ⟨rfl,λ d hd=>by simp_all⟩
 | k+1,hk=>by
  have Y:=aK9 J c i j k (by lia);have hx:=au (show k<J.length by lia);have B:∀ d,d∈J.take (k+1)↔d∈J.take k\/d=J[k]:=λ d=>by rw[aB7 hx,aZ,aO]
  have key:sgF J c i j (k+1)=if J[k].l=c/\i=J[k].a/\j=J[k].b then(if(if 0<J[k].t then(1)else 0)<sgF J c i j k then(if 0<J[k].t then(1)else 0)else sgF J c i j k)else sgF J c i j k:=by
   conv=>lhs;unfold sgF
   rw[hx]
  rw[key];generalize Z:J[k]=x at *;by_cases hc:x.l=c/\i=x.a/\j=x.b
  .rw[ef hc];have Uu:x.l=c/\x.a=i/\x.b=j:=⟨hc.1,hc.2.1.symm,hc.2.2.symm⟩
   by_cases ht:0<x.t
   .rw[ef ht];rcases Y with⟨e,h⟩|⟨e,h1,h2⟩|⟨e,d,hd,h1⟩
    .rw[e,ef (by decide)];refine .inr (.inl ⟨rfl,⟨x,(B x).mpr (.inr rfl),Uu⟩,λ d hd hh=>?_⟩);rcases(B d).mp hd with z|z
     .exact iS hh (h d z)
     .rw[z];lia
    .rw[e,gc (by decide)];refine .inr (.inl ⟨rfl,⟨x,(B x).mpr (.inr rfl),Uu⟩,λ d hd hh=>?_⟩);rcases(B d).mp hd with z|z
     .exact h2 d z hh
     .rw[z];lia
    .rw[e,gc (by decide)];exact .inr (.inr ⟨rfl,d,(B d).mpr (.inl hd),h1⟩)
   .rw[gc ht];have hz:x.t=0:=by lia
    rcases Y with⟨e,h⟩|⟨e,h1,h2⟩|⟨e,d,hd,h1⟩
    .rw[e,ef (by decide)];exact .inr (.inr ⟨rfl,x,(B x).mpr (.inr rfl),Uu,hz⟩)
    .rw[e,ef (by decide)];exact .inr (.inr ⟨rfl,x,(B x).mpr (.inr rfl),Uu,hz⟩)
    .rw[e,gc (by decide)];exact .inr (.inr ⟨rfl,x,(B x).mpr (.inr rfl),Uu,hz⟩)
  .rw[gc hc];have Uu:¬(x.l=c/\x.a=i/\x.b=j):=λ z=>hc ⟨z.1,z.2.1.symm,z.2.2.symm⟩;rcases Y with⟨e,h⟩|⟨e,⟨d,hd,h1⟩,h2⟩|⟨e,d,hd,h1⟩
   .refine .inl ⟨e,λ d hd hh=>?_⟩;rcases(B d).mp hd with z|z
    .exact h d z hh
    .rw[z]at hh;exact Uu hh
   .refine .inr (.inl ⟨e,⟨d,(B d).mpr (.inl hd),h1⟩,λ d hd hh=>?_⟩);rcases(B d).mp hd with z|z
    .exact h2 d z hh
    .rw[z]at hh;exact iS hh Uu
   .exact .inr (.inr ⟨e,d,(B d).mpr (.inl hd),h1⟩)
def SgW.letter  m  c :SgW m [c] (sgM m c):=λ i j J hj=>by
 have h:=aK9 m.ds c i j m.ds.length (aj _);rw[g7]at h;unfold sgM;rcases h with⟨e,h⟩|⟨e,⟨d,hd,h1⟩,h2⟩|⟨e,d,hd,h1,h3⟩
 .rw[e];refine⟨by decide,by decide,by decide,⟨λ z=>(by cases z),λ z=>?_⟩,⟨λ _ x hx=>?_,λ _=>rfl⟩⟩
  .refine wl λ _ ua=>?_;obtain⟨d,hd,a,b,B,_⟩:=ak8.mp z;refine ua ?_;simp_all
  .obtain⟨d,hd,a,b,B,_⟩:=ak8.mp hx;simp_all
 .rw[e];refine⟨by decide,by decide,by decide,⟨λ z=>(by cases z),λ z=>?_⟩,⟨λ z=>(by cases z),λ z=>?_⟩⟩
  .obtain⟨d,hd,a,b,B,e2⟩:=ak8.mp z;grind
  .exact iS (ak8.mpr ⟨d,hd,h1.1,h1.2.1,h1.2.2,rfl⟩) (z _)
 .rw[e];refine⟨by decide,by decide,by decide,⟨λ _=>ak8.mpr ⟨d,hd,h1.1,h1.2.1,h1.2.2,by lia⟩,λ _=>rfl⟩,⟨λ z=>(by cases z),λ z=>?_⟩⟩;exact iS (ak8.mpr ⟨d,hd,h1.1,h1.2.1,h1.2.2,rfl⟩) (z _)
section
variable {P:Pr} [HasC P "FREE" (.int 0)] [HasC P "SOME" (.int 1)] [HasC P "NONE" (.int 3)] [Has P ad5]
def aR4  n  o  s :(aa0 P (n+1)).call "sign_of" [qE o] s=.ok (.int (sgn o)) s:=by
 have B:(aa0 P (n+1)).call "sign_of" [qE o] s=_:=zl ad5 rfl;have z:=λ U s=>(qY (P:=P) (n:=n) (x := "NONE") (v:=.int 3) (U:=U) (s:=s))
 have g0:=λ U s=>(qY (P:=P) (n:=n) (x := "FREE") (v:=.int 0) (U:=U) (s:=s))
 have g1:=λ U s=>(qY (P:=P) (n:=n) (x := "SOME") (v:=.int 1) (U:=U) (s:=s))
 rw[B,show(bL al [qE o]++aA ad5.vs aT)=[al (qE o)]from rfl];simp only[ad5];cases o with
 | none=>simp only[za,zu,jy,ex_ret,zM,ev_isN,R.bind_ok,zL,qX,je,qC,if_true,decide_true,ai2,z];exact zE
 | some i =>
  by_cases h:i=0
  .subst h;simp only[za,zu,jy,ex_ret,zM,ev_cst,ev_cmp,ev_ite,ev_isN,Cn_int,R.bind_ok,zL,zd,qX,je,eq_int,qC,if_true,if_false,Bool.false_eq_true,decide_true,decide_false,jc,show(D.int 0=D.N)=False from eq_false (by nofun),g0,sgn];exact zE
  .simp only[za,zu,jy,ex_ret,zM,ev_cst,ev_cmp,ev_ite,ev_isN,Cn_int,R.bind_ok,zL,zd,qX,je,eq_int,qC,if_false,Bool.false_eq_true,decide_false,jc,show(D.int i=D.N)=False from eq_false (by nofun),h,g1,sgn];exact zE
variable [Has P ad3] [Has P ad6] [HasL P ac7]
def aV1  n (Y:m<=5) f (hs:s.all O.ncl=bY) :
  (aa0 P (n+4)).call "reading" [gdO m f] s=.ok (gd m λ i j=>sgn (f i j)) s:=by
 have z:(aa0 P (n+4)).call "reading" [gdO m f] s=_:=zl ad6 rfl;have J:=ak0 (P:=P) (n+2) (m:=m) (by omega) (d:=.clo "reading.0" [gdO m f]) (λ _ _ n=>rfl) (λ i j h hj=>by
  generalize B:s++[O.J ((am i).map λ i=>D.tp ((am m).map λ j=>.int (sgn (f i j))))]=S;have Uu:S.all O.ncl=true:=by rw[<-B];exact an0 hs (λ _ _=>rfl)
  refine(aj5 ac7 rfl rfl (by rw[Uu];simp[D.nclL,D.ncl,ak2])).trans ?_;show(ev (aa0 P (n+1)) ac7.body [al (.int i),al (.int j),al (gdO m f)] S).bind (ab7 S)=_;simp only[ac7]
  simp only[zM,ev_ix,ev_call,qK,evas_ex,R.bind_ok,zL,zU,bb2 h,aI3 hj,aR4 n]
  exact zE)
 rw[z,show(bL al [gdO m f]++aA ad6.vs aT)=[al (gdO m f)]from rfl];simp only[ad6]
 simp only[za,ex_ret,zM,ev_bi,qd,z5,evas_ex,R.bind_ok,zL,jm,bb1]
 rw[jp _ rfl];have e:gdD m (λ i j=>.int (sgn (f i j)))=gd m (λ i j=>sgn (f i j)):=rfl
 simp only[qK,R.bind_ok,qX,je,J,e,ef (show((gd m λ i j=>sgn (f i j)).ncl&&s.all O.ncl)=bY by rw[an5,hs];rfl)]
 exact zq ah5 (by nofun)
variable [Has P ad7] [Has P ae0] [Has P ac4] [Has P ac1] [Has P aa8] [HasL P aa6] [Has P ae2] [HasL P ac0] [Has P ac9] [HasL P ab2] [Has P ab4] [Has P ac6]
def aw9  n (h:m.Ok) w (hw:w.length<=5000)(hs:s.all O.ncl=bY) :
  ∃ g,SgW m w g/\(aa0 P (n+6)).call "word_signs" [m.d,.str w] s=.ok (gd m.R g) s:=by
 have z:(aa0 P (n+6)).call "word_signs" [m.d,.str w] s=_:=zl ac6 rfl;obtain⟨f,B,e1⟩:=ay0 (P:=P) n h w hw hs;refine⟨_,B.sg,?_⟩;rw[z,show(bL al [m.d,D.str w]++aA ac6.vs aT)=[al m.d,al (D.str w)]from rfl];simp only[ac6]
 simp only[za,ex_ret,zM,ev_call,qK,evas_ex,R.bind_ok,zL,zU,qX,je,e1,aV1 (n+1) h.R5 f hs]
 exact zq ah5 (by nofun)
variable [Has P jH] [Has P zO]
end
structure Gx (ns:List Int)(r:Nat)(u:Sto):Prop where
 scr:u[0]?=al (.ro (ns.map D.int))
 ncl:u.all O.ncl=bY
 box:∃ b,u[r]?=al (jI b)
 r0:r≠0
def Gx.put (h:Gx ns r u) b :Gx ns r (u.set r (jI b)):=⟨by rw[aC h.r0];exact h.scr,bF7 h.ncl rfl,aY9 (bA8 h.box),h.r0⟩
def Gx.snoc (h:Gx ns r u)(ho:o.ncl=bY):Gx ns r (u++[o]):=⟨ji h.scr,qG h.ncl ho,by obtain⟨b,hb⟩:=h.box;exact⟨b,ji hb⟩,h.r0⟩
section
variable {P:Pr} [HasC P "FREE" (.int 0)] [HasC P "SOME" (.int 1)] [HasC P "NONE" (.int 3)] [Has P ad5] [Has P ad3] [Has P ad6] [HasL P ac7] [Has P ad7] [Has P ae0] [Has P ac4] [Has P ac1] [Has P aa8] [HasL P aa6] [Has P ae2] [HasL P ac0] [Has P ac9] [HasL P ab2] [Has P ab4] [Has P ac6] [Has P jH] [Has P zO] [Has P aa7] [HasL P aa2]
 [Has P aq8] [Has P af4] [Has P ab6] [Has P ac5]
end
section
variable {P:Pr} [HasC P "LETTERS" (.tp aF2)] [Has P ac8] [Has P qT] [Has P jv] [Has P jb]
end
def Mks.inG (B:m.Ok)(h:Mks m l fs):∀ f∈fs,InG m.R f:=by
 induction h with
 | nil=>simp_all
 | let_ c _ _ _ ih=>intro f z;rcases aZ.mp z with h|h;exact ih f h;rw[aO.mp h];exact λ i j _ _=>bz9 _ _ _ _ _
 | pair i j a b _ h1 h2 ih=>intro f z;rcases aZ.mp z with h|h;exact ih f h;rw[aO.mp h];exact ci0 B.R1 (ih _ (aE h1)) (ih _ (aE h2))
 | sharp i a _ h1 _ ih=>intro f z;rcases aZ.mp z with h|h;exact ih f h;rw[aO.mp h];exact ci2 B.R1 (ih _ (aE h1))
section
variable {P:Pr} [HasC P "FREE" (.int 0)] [HasC P "SOME" (.int 1)] [HasC P "UNBOUND" (.int 2)] [HasC P "NONE" (.int 3)] [HasC P "LETTERS" (.tp aF2)] [Has P ad5] [Has P ad3] [Has P ad6] [HasL P ac7] [Has P ad7] [Has P ae0] [Has P ac4] [Has P ac1] [Has P aa8] [HasL P aa6] [Has P ae2] [HasL P ac0] [Has P ac9] [HasL P ab2] [Has P ab4] [Has P ac6] [Has P aa7] [HasL P aa2] [Has P ab5] [Has P ac2] [Has P ac3] [HasL P ab1]
 [Has P ac8] [Has P qT] [Has P jv] [Has P jb]
variable [HasC P "MOST_STEPS" (.int 100)]
end
def aM2 (h:gd m f=gd m g):EqG m f g:=λ i j J hj=>by
 have h:=D.tp.inj h;have z:=congrArg (λ l:List D=>l[i]?) h;simp only[aL,bQ J,bS,kL,D.tp.injEq]at z;have B:=congrArg (λ l:List D=>l[j]?) z;simp only[jC hj,kL,D.int.injEq]at B;exact B
def ah3 (h:EqG m f f')(k:EqG m g g'):EqG m (pr m f g) (pr m f' g'):=λ i j B hj=>be4 cd8 cd8 λ x hx=>by
 rw[az1 hx,az1 hx];constructor
 .rintro⟨l,z,a,b⟩;exact⟨l,z,by rw[<-h i l B z];exact a,by rw[<-k l j z hj];exact b⟩
 .rintro⟨l,z,a,b⟩;exact⟨l,z,by rw[h i l B z];exact a,by rw[k l j z hj];exact b⟩
def bS3 :EqG m (pr m (pr m f g) h) (pr m f (pr m g h)):=λ i j B hj=>be4 cd8 cd8 λ x hx=>by
 rw[az1 hx,az1 hx];constructor
 .rintro⟨l,z,a,b⟩
  obtain⟨k,hk,c,d⟩:=(az1 hx).mp a;exact⟨k,hk,c,(az1 hx).mpr ⟨l,z,d,b⟩⟩
 .rintro⟨k,hk,c,a⟩
  obtain⟨l,z,d,b⟩:=(az1 hx).mp a;exact⟨l,z,(az1 hx).mpr ⟨k,hk,c,d⟩,b⟩
def ah9 (h:EqG m f g):gd m f=gd m g:=bo9 h
def aM1 (h:EqG m f g):EqG m (sh m f) (sh m g):=λ i j z hj=>by
 unfold sh;have:∀ k,k<=m->shN f i j k=shN g i j k:=λ k=>by
  induction k with
  | zero=>intro _;rfl
  | succ k ih =>
   intro hk;unfold shN;rw[ih (by lia),h i k z (by lia),h k k (by omega) (by omega),h k j (by omega) hj]
 exact this m (aj _)
def av6 (h:EqG m f g)(k:Stdy m f):Stdy m g:=λ i j z hj=>by
 rw[<-h i j z hj,<-k i j z hj];exact(ah3 h h i j z hj).symm
inductive ClG (m:Mc):D->Prop
 | let_ (c:Nat):97<=c->c<97+m.L->ClG m (gd m.R (sgM m c))
 | pair (f g:Nat->Nat->Int):ClG m (gd m.R f)->ClG m (gd m.R g)->ClG m (gd m.R (pr m.R f g))
 | sharp (f:Nat->Nat->Int):ClG m (gd m.R f)->Stdy m.R f->ClG m (gd m.R (sh m.R f))
def Mks.cl (h:Mks m l fs):∀ f∈fs,ClG m (gd m.R f):=by
 induction h with
 | nil=>simp_all
 | let_ c h h1 h2 ih =>
  intro f B;rcases aZ.mp B with z|z
  .simp_all
  .rw[aO.mp z];exact .let_ c h1 h2
 | pair i j f g h h1 h2 ih =>
  intro x B;rcases aZ.mp B with z|z
  .simp_all
  .rw[aO.mp z];exact .pair f g (ih f (aE h1)) (ih g (aE h2))
 | sharp i f h h1 h2 ih =>
  intro x B;rcases aZ.mp B with z|z
  .simp_all
  .rw[aO.mp z];exact .sharp f (ih f (aE h1)) h2
def ClG.in_ {T:D->Prop}(h0:∀ c,97<=c->c<97+m.L->T (gd m.R (sgM m c)))(z:∀ f g,T (gd m.R f)->T (gd m.R g)->T (gd m.R (pr m.R f g)))(B:∀ f,T (gd m.R f)->Stdy m.R f->T (gd m.R (sh m.R f)))(h:ClG m x):T x:=by
 induction h with
 | let_ c a b=>exact h0 c a b
 | pair f g _ _ a b=>exact z f g a b
 | sharp f _ k a=>exact B f a k
inductive GnG (R:Nat)(G:D->Prop):D->Prop
 | Y {g:Nat->Nat->Int}:G (gd R g)->GnG R G (gd R g)
 | more {f g:Nat->Nat->Int}:GnG R G (gd R f)->G (gd R g)->GnG R G (gd R (pr R f g))
def GnG.mono {R}(h:∀ x,G x->z x)(k:GnG R G x):GnG R z x:=by
 induction k with
 | Y g=>exact .Y (h _ g)
 | more _ g ih=>exact .more ih (h _ g)
def br5 {R}{T :D->Prop}(z:∀ a g,T (gd R a)->G (gd R g)->T (gd R (pr R a g)))(k:GnG R G b):∀ h,b=gd R h->∀ a,T (gd R a)->T (gd R (pr R a h)):=by
 induction k with
 | @Y g hg =>
  intro h e a ha;rw[ah9 (ah3 (λ _ _ _ _=>rfl) (aM2 e.symm))];exact z a g ha hg
 | @more f g _ hg ih =>
  intro h e a ha;rw[ah9 (ah3 (λ _ _ _ _=>rfl) (aM2 e.symm)),<-ah9 bS3];exact z _ g (ih f rfl a ha) hg
def bC3 {T :D->Prop}(h0:∀ c,97<=c->c<97+m.L->G (gd m.R (sgM m c)))(z:∀ x,G x->T x)(hT:∀ x,T x->GnG m.R G x)(B:∀ a g,T (gd m.R a)->G (gd m.R g)->T (gd m.R (pr m.R a g)))(hs:∀ a,T (gd m.R a)->Stdy m.R a->G (gd m.R (sh m.R a)))(h:ClG m x):T x :=
 h.in_ (λ c a b=>z _ (h0 c a b)) (λ f g a b=>br5 B (hT _ b) g rfl f a) λ f a k=>z _ (hs f a k)
def bq8 (h:1<=m)(z:m<=5):(D.tp (row m f)).keyS=true:=by
 obtain⟨k,rfl⟩:∃ k,m=k+1:=⟨m - 1,by lia⟩
 show(D.hdI (row (k+1) f)&&((row (k+1) f).all D.keyF&&decide ((row (k+1) f).length<=1000)))=bY;rw[ae,ae];refine⟨by unfold row;rw[cF];rfl,?_,by simp[];lia⟩;rw[aI];intro d hd;obtain⟨j,_,rfl⟩:=ao.mp hd;rfl
def bF4 (h:1<=m)(z:m<=5):(gd m f).keyT=true:=by
 obtain⟨k,rfl⟩:∃ k,m=k+1:=⟨m - 1,by omega⟩
 show(D.hdI ((am (k+1)).map λ i=>D.tp (row (k+1) (f i)))&&(((am (k+1)).map λ i=>D.tp (row (k+1) (f i))).all D.keyS&&decide (((am (k+1)).map λ i=>D.tp (row (k+1) (f i))).length<=1000)))=bY;rw[ae,ae];refine⟨by rw[cF];rfl,?_,by simp;omega⟩;rw[aI];intro d hd;obtain⟨i,_,rfl⟩:=ao.mp hd;exact bq8 h z
def bG3 (h:∀ d∈tb,∀ n,d.bnd n=bY) n :(O.dit (seeD tb)).bnd n=true:=by
 show(D.bndL n ((seeD tb).map (·.1))&&D.bndL n ((seeD tb).map (·.2)))=bY;unfold seeD;rw[cz,cz,ae];exact⟨zt (λ d hd n=>by simp_all) _,zt (λ d hd n=>by obtain⟨x,hx,rfl⟩:=ao.mp hd;rfl) _⟩
structure CI (m:Mc)(s:Sto)(o a b e:Nat)(L:List Stp)(T:List (Nat->Nat->Int)):Prop where
 cl:ClS s o a b e (L.map Stp.d) (T.map (gd m.R))
 ms:Mks m L T
 nd:(T.map (gd m.R)).Nodup
 nc:s.all O.ncl=bY
structure FrC (s s':Sto)(a b e:Nat):Prop where
 len:s'.length=s.length
 old:∀ i,i≠a->i≠b->i≠e->s'[i]?=s[i]?
def FrC.refl :FrC s s a b e:=⟨rfl,λ _ _ _ _=>rfl⟩
theorem FrC.trans (h:FrC s t a b e)(g:FrC t u a b e):FrC s u a b e:=⟨g.len.trans h.len,λ i x y z=>(g.old i x y z).trans (h.old i x y z)⟩
def CI.okOld (h:CI m s' o a b e L' z)(fr:FrC s s' a b e):ag1 s s'=true:=aE1 λ i B=>by
 by_cases h1:i=a
 .subst h1;exact .inr ⟨_,h.cl.stp,zt h.cl.bs _⟩
 .by_cases h2:i=b
  .subst h2;exact .inr ⟨_,h.cl.tab,zt h.cl.bt _⟩
  .by_cases h3:i=e
   .subst h3;refine .inr ⟨_,h.cl.see,?_⟩;exact bG3 h.cl.bt _
   .exact .inl (fr.old i h1 h2 h3)
def CI.canon (h:CI m s' o a b e L' z)(fr:FrC s s' a b e):ab7 s .N s'=.ok .N s':=aj4 (h.okOld fr) fr.len
def CI.at {L}(h:CI m s o a b e L T){k:Nat}(z:T[k]?=al f):ixM (.ref b) (.int (k)) s=.ok (gd m.R f) s:=au6 h.cl.tab (by simp_all)
def bO0 {s:Sto}(h:∀(i:Nat) (o:O),s[i]?=al o->o.ncl=bY):s.all O.ncl=true:=by
 rw[aI];intro o ho;obtain⟨i,e⟩:=fN ho;exact h i o e
def bI6 {s:Sto}(h:s.all O.ncl=bY){i:Nat}(e:s[i]?=al o):o.ncl=true:=by
 rw[aI]at h;exact h o (aE e)
def Stp.nclC (x:Stp):x.d.ncl=true:=by cases x<;>rfl
def bK9 (h:ClS s o a b e st tb)(hn:s.all O.ncl=bY){L:List Stp}{T:List (Nat->Nat->Int)}{R:Nat}:(clU s a b e (L.map Stp.d) (T.map (gd R))).all O.ncl=true:=bO0 λ i x hx=>by
 have z:a<s.length:=(ag.mp h.stp).1;have Uu:b<s.length:=(ag.mp h.tab).1;have le:e<s.length:=(ag.mp h.see).1;obtain⟨Y,n2,Z,J,B⟩:=h.ne;by_cases h3:i=e
 .subst h3;have:(clU s a b i (L.map Stp.d) (T.map (gd R)))[i]?=al (.dit (seeD (T.map (gd R)))):=by unfold clU;exact zX (by simp;exact le)
  rw[this]at hx;rw[<-av hx];show D.nclL ((seeD (T.map (gd R))).map (·.2))=bY;refine zx λ d hd=>?_;unfold seeD at hd;rw[cz]at hd;obtain⟨_,_,rfl⟩:=ao.mp hd;rfl
 .by_cases h2:i=b
  .subst h2;have:(clU s a i e (L.map Stp.d) (T.map (gd R)))[i]?=al (.J (T.map (gd R))):=by unfold clU;rw[aC (bH B)];exact zX (by simp;exact Uu)
   rw[this]at hx;rw[<-av hx];show D.nclL (T.map (gd R))=bY;exact zx λ d hd=>by obtain⟨f,_,rfl⟩:=ao.mp hd;exact an5
  .by_cases h1:i=a
   .subst h1;have:(clU s i b e (L.map Stp.d) (T.map (gd R)))[i]?=al (.J (L.map Stp.d)):=by unfold clU;rw[aC (bH J),aC (bH h.ab)];exact zX z
    rw[this]at hx;rw[<-av hx];show D.nclL (L.map Stp.d)=bY;exact zx λ d hd=>by obtain⟨f,_,rfl⟩:=ao.mp hd;exact f.nclC
   .rw[aN6 h1 h2 h3]at hx;exact bI6 hn hx
def FrC.clU :FrC s (clU s a b e st tb) a b e:=⟨aW5,λ i h z h3=>aN6 h z h3⟩
def cd6 :ex F .raise U s=.B:=rfl
def bl2 (m:Mc)(T:List (Nat->Nat->Int)):Prop:=(T.map (gd m.R)).Nodup/\T.length=80/\(∀ f∈T,ClG m (gd m.R f))/\∃ g,ClG m (gd m.R g)/\gd m.R g ∉ T.map (gd m.R)
section
variable {P:Pr} [HasM P "ClosedSet" "take" aa3] [HasC P "MOST_TABLES" (.int 80)] [HasMX P "ClosedSet" "take" ae9]
def bv1  n (h:ClS s o a b e st tb)(hy:y ∉ tb)(hk:y.keyT=bY)(z:tb.length=80):(aa0 P (n+1)).mcall "ClosedSet" "take" [.ref o,x,y] s=.B:=by
 have q:=jn h.see hk;rw[(qv).2 hy]at q;have e2:=jD h.stp;have hd:decide ((st.length:Int)=80)=true:=ij (by rw[h.len];omega);rw[qA aa3 rfl,ao9,show(bL al [D.ref o,x,y]++aA aa3.vs aT)=[al (.ref o),al x,al y]from rfl]
 simp only[za,zu,jy,zM,ev_cmp,ev_bi,qd,z5,R.bind_ok,zL,zU,zd,eq_int,qC,if_true,if_false,Bool.false_eq_true,zJ,jF h.ins,q,eN,ak1 h.ins,e2,qY (v:=.int 80),hd,cd6]
 rfl
def bq1  n (h:ClS s o a b e st tb)(hy:y∈tb)(hk:y.keyT=bY):(aa0 P (n+1)).xm "ClosedSet" "take" [.ref o,x,y] s=none:=by
 have q:=jn h.see hk;rw[(qv).1 hy]at q;rw[aE2 ae9 rfl,show(bL al [D.ref o,x,y]++aA ae9.vs aT)=[al (.ref o),al x,al y]from rfl];have z:ex (aa0 P n) (.ite (.Z .isin (.X 2) (.attr (.X 0) am4)) (.cons .retN .nil) .nil) [al (.ref o),al x,al y] s=.ok (.ret .N) s:=by
  simp only[za,zu,jy,zM,ev_cmp,R.bind_ok,zL,zU,qX,qC,if_true,zJ,jF h.ins,q,eN,aY4]
 show(match ex (aa0 P n) (.ite (.Z .isin (.X 2) (.attr (.X 0) am4)) (.cons .retN .nil) .nil) [al (.ref o),al x,al y] s with|.ok (.next U1) s1=>xB (aa0 P n) (.iteT (.Z .eq (.bi .len (.cons (.attr (.X 0) ah0) .nil)) (.gl "MOST_TABLES")) (.rais "TooMuch") .no) U1 s1|_=>aT)=_;rw[z]
def bb6  n (h:ClS s o a b e st tb)(hy:y ∉ tb)(hk:y.keyT=bY)(J:tb.length<80):(aa0 P (n+1)).xm "ClosedSet" "take" [.ref o,x,y] s=none:=by
 have q:=jn h.see hk;rw[(qv).2 hy]at q;have e2:=jD h.stp;have hd:decide ((st.length:Int)=80)=false:=iF (by rw[h.len];lia);rw[aE2 ae9 rfl,show(bL al [D.ref o,x,y]++aA ae9.vs aT)=[al (.ref o),al x,al y]from rfl];have z:ex (aa0 P n) (.ite (.Z .isin (.X 2) (.attr (.X 0) am4)) (.cons .retN .nil) .nil) [al (.ref o),al x,al y] s=.ok (.next [al (.ref o),al x,al y]) s:=by
  simp only[za,zu,jy,zM,ev_cmp,R.bind_ok,zL,zU,qC,if_false,Bool.false_eq_true,zJ,jF h.ins,q,eN]
 have B:ev (aa0 P n) (.Z .eq (.bi .len (.cons (.attr (.X 0) ah0) .nil)) (.gl "MOST_TABLES")) [al (.ref o),al x,al y] s=.ok (.T ce) s:=by
  simp only[zM,ev_cmp,ev_bi,qd,z5,R.bind_ok,zL,eq_int,zJ,ak1 h.ins,e2,qY (v:=.int 80),hd]
 show(match ex (aa0 P n) (.ite (.Z .isin (.X 2) (.attr (.X 0) am4)) (.cons .retN .nil) .nil) [al (.ref o),al x,al y] s with|.ok (.next U1) s1=>xB (aa0 P n) (.iteT (.Z .eq (.bi .len (.cons (.attr (.X 0) ah0) .nil)) (.gl "MOST_TABLES")) (.rais "TooMuch") .no) U1 s1|_=>aT)=_;rw[z];show(match ev (aa0 P n) (.Z .eq (.bi .len (.cons (.attr (.X 0) ah0) .nil)) (.gl "MOST_TABLES")) [al (.ref o),al x,al y] s with|.ok (.T b) s1=>if b then xB (aa0 P n) (.rais "TooMuch") [al (.ref o),al x,al y] s1 else xB (aa0 P n) .no [al (.ref o),al x,al y] s1|_=>aT)=_;rw[B];rfl
def take_any1 [hE:HasE P "TooMuch" ts] n (J:m.Ok){L}(h:CI m s o a b e L T)(hx:Mks m (L++[x]) (T++[f]))(Z:gd m.R g=gd m.R f) :
  (∃ s' L' Uu,(aa0 P (n+1)).mcall "ClosedSet" "take" [.ref o,x.d,gd m.R g] s=.ok .N s'/\(aa0 P (n+1)).xm "ClosedSet" "take" [.ref o,x.d,gd m.R g] s=aT/\CI m s' o a b e L' (T++Uu)/\gd m.R f∈(T++Uu).map (gd m.R)/\FrC s s' a b e/\Uu.length<=1) \/
  ((aa0 P (n+1)).mcall "ClosedSet" "take" [.ref o,x.d,gd m.R g] s=.B/\(aa0 P (n+1)).xm "ClosedSet" "take" [.ref o,x.d,gd m.R g] s=al ("TooMuch",s)/\bl2 m T):=by
 rw[Z];have hk:(gd m.R f).keyT=true:=bF4 J.R1 J.R5;have B:=h.cl.le;rw[aw]at B;by_cases hy:gd m.R f∈T.map (gd m.R)
 .exact .inl ⟨s,L,[],bK3 (P:=P) n h.cl hy hk,bq1 (P:=P) n h.cl hy hk,by simp_all,by rw[aY];exact hy,FrC.refl,by simp⟩
 .by_cases hl:T.length<80
  .obtain⟨e1,c1⟩:=bs1 (P:=P) n h.cl hy hk (x:=x.d) (x.bnd) (λ n=>ah5 n) (by simp_all);have Y:L.map Stp.d++[x.d]=(L++[x]).map Stp.d:=by rw[aS];rfl
   have eb:T.map (gd m.R)++[gd m.R f]=(T++[f]).map (gd m.R):=by rw[aS];rfl
   rw[Y,eb]at e1 c1;refine .inl ⟨_,L++[x],[f],e1,bb6 (P:=P) n h.cl hy hk (by rw[aw];exact hl),⟨c1,hx,?_,bK9 h.cl h.nc⟩,by rw[aS];exact aQ _ (aO.mpr rfl),FrC.clU,by simp⟩;rw[<-eb];exact aq4 h.nd hy
  .have h80:T.length=80:=by lia
   have z:(T.map (gd m.R)).length=80:=by simp_all
   have hc:=hx.cl;exact .inr ⟨bv1 (P:=P) n h.cl hy hk z,cc1 (P:=P) (ts:=ts) n h.cl hy hk z,h.nd,h80,λ k hk=>hc k (bj _ hk),f,hc f (aQ _ (aO.mpr rfl)),hy⟩
def take_any [hE:HasE P "TooMuch" ts] n (B:m.Ok){L}(h:CI m s o a b e L T)(hx:Mks m (L++[x]) (T++[f]))(z:gd m.R g=gd m.R f) :
  (∃ s' L' Uu,(aa0 P (n+1)).mcall "ClosedSet" "take" [.ref o,x.d,gd m.R g] s=.ok .N s'/\(aa0 P (n+1)).xm "ClosedSet" "take" [.ref o,x.d,gd m.R g] s=aT/\CI m s' o a b e L' (T++Uu)/\gd m.R f∈(T++Uu).map (gd m.R)/\FrC s s' a b e) \/
  ((aa0 P (n+1)).mcall "ClosedSet" "take" [.ref o,x.d,gd m.R g] s=.B/\(aa0 P (n+1)).xm "ClosedSet" "take" [.ref o,x.d,gd m.R g] s=al ("TooMuch",s)/\bl2 m T) :=
 (take_any1 (P:=P) (ts:=ts) n B h hx z).imp_left λ⟨s',L',Uu,a,b,c,d,e,_⟩=>⟨s',L',Uu,a,b,c,d,e⟩
end
theorem aV9 (Inv:Nat->Env->Sto->Prop)(z:String->Sto->Prop)(hok:∀ k U s,Inv k U s->ok s=bY) :
  ∀ l   k   U   s ,Inv k U s->(∀ j d U s,l[j]?=al d->Inv (k+j) U s->(∃ U' s',g d U s=.ok (.next U') s'/\Inv (k+j+1) U' s')\/(g d U s=.B/\∃ c s',gx d U s=al (c,s')/\z c s')) ->
  (∃ U' s',am0 ok g l U s=.ok (.next U') s'/\Inv (k+l.length) U' s')\/(am0 ok g l U s=.B/\∃ c s',ag7 ok g gx l U s=al (c,s')/\z c s')
 | [],k,U,s,h,_=>.inl ⟨U,s,by unfold am0;rw[ef (hok k U s h)],h⟩
 | d::l,k,U,s,h,step=>by
  have ho:=hok k U s h;rcases step 0 d U s rfl h with⟨U1,s1,e1,B⟩|⟨e1,c,s1,e2,hb⟩
  .have Y:=aV9 Inv z hok l (k+1) U1 s1 B λ j d U s hd Uu=>by
    have:=step (j+1) d U s hd (by rw[show k+(j+1)=k+1+j by omega];exact Uu);rw[show k+(j+1)+1=k+1+j+1 by omega]at this;exact this
   have Z:am0 ok g (d::l) U s=am0 ok g l U1 s1:=by
    show(if ok s=bY then _ else _)=_
    simp_all
   have J:ag7 ok g gx (d::l) U s=ag7 ok g gx l U1 s1:=by
    show(if ok s=bY then(match g d U s with
     | .ok (.next U1) s1=>ag7 ok g gx l U1 s1
     | .ok (.cont U1) s1=>ag7 ok g gx l U1 s1
     | .ok _ _=>aT
     | _=>gx d U s)else aT)=_
    rw[ef ho,e1]
   rw[Z,J,aP,show k+(l.length+1)=k+1+l.length by omega];exact Y
  .refine .inr ⟨?_,c,s1,?_,hb⟩
   .show(if ok s=bY then _ else _)=_
    simp_all
   .show(if ok s=bY then(match g d U s with
     | .ok (.next U1) s1=>ag7 ok g gx l U1 s1
     | .ok (.cont U1) s1=>ag7 ok g gx l U1 s1
     | .ok _ _=>aT
     | _=>gx d U s)else aT)=_
    rw[ef ho,e1];exact e2
def qZ  o  m  h :ev F (.mcall o m h) U s=(ev F o U s).bind λ x s=>(bk9 x s).bind λ c s=>(af3 F h U s).bind λ l s=>F.mcall c m (x::l) s:=rfl
def ax5 (z:ev F o U s=.ok x s1)(B:bk9 x s1=.ok c s2)(h3:af3 F h U s2=.ok l s3):xB F (.mcall o m h) U s=F.xm c m (x::l) s3:=by
 show(match(ev F o U s).bind λ x s=>(bk9 x s).bind λ c s=>(af3 F h U s).bind λ l s=>.ok (c,x::l) s with|.ok p s1=>F.xm p.1 m p.2 s1|_=>aT)=_
 simp_all
def aT7:aa5.body=zS:=rfl
def af0:Xf:=⟨2,0,.iteT shC (.mcall (.X 0) "take" shA) .no⟩
section
variable {P:Pr} [HasM P "ClosedSet" "take" aa3] [HasC P "MOST_TABLES" (.int 80)] [HasMX P "ClosedSet" "take" ae9] [Has P ad3] [Has P aa7] [HasL P aa2] [Has P ab5] [Has P ac2] [Has P ac3] [HasL P ab1] [HasC P "FREE" (.int 0)] [HasC P "UNBOUND" (.int 2)] [HasC P "NONE" (.int 3)]
 [HasM P "ClosedSet" "take_sharp" aa5] [HasMX P "ClosedSet" "take_sharp" af0]
def tsharp_any [hE:HasE P "TooMuch" ts] n (J:m.Ok){L}(h:CI m s o a b e L T){k:Nat}(hf:T[k]?=al f) :
  (∃ s' L' Uu,(aa0 P (n+6)).mcall "ClosedSet" "take_sharp" [.ref o,.int k] s=.ok .N s'/\(aa0 P (n+6)).xm "ClosedSet" "take_sharp" [.ref o,.int k] s=aT/\CI m s' o a b e L' (T++Uu)/\(Stdy m.R f->gd m.R (sh m.R f)∈(T++Uu).map (gd m.R))/\FrC s s' a b e) \/
  ((aa0 P (n+6)).mcall "ClosedSet" "take_sharp" [.ref o,.int k] s=.B/\∃ s',(aa0 P (n+6)).xm "ClosedSet" "take_sharp" [.ref o,.int k] s=al ("TooMuch",s')/\bl2 m T/\FrC s s' a b e):=by
 have Y:=h.ms.inG J f (aE hf);have a0:=h.at hf;obtain⟨bl,e1,hb⟩:=ak5 (P:=P) (n+1) J.R1 J.R5 Y h.nc;have hc:ev (aa0 P (n+5)) shC [al (.ref o),al (.int k)] s=.ok (.T bl) s:=by
  unfold shC
  simp only[zM,ev_ix,ev_call,qK,evas_ex,R.bind_ok,zL,zU,zJ,av8 h.cl.ins,a0,e1]
 have hd:=qA (P:=P) aa5 (c := "ClosedSet") (m := "take_sharp") (n:=n+5) (l:=[.ref o,.int k]) (s:=s) rfl;rw[aT7,show(bL al [D.ref o,D.int k]++aA aa5.vs aT)=[al (.ref o),al (.int k)]from rfl]at hd;have hx:=aE2 (P:=P) af0 (c := "ClosedSet") (m := "take_sharp") (n:=n+5) (l:=[.ref o,.int k]) (s:=s) rfl;rw[show(bL al [D.ref o,D.int k]++aA af0.vs aT)=[al (.ref o),al (.int k)]from rfl]at hx;have B:(aa0 P (n+6)).xm "ClosedSet" "take_sharp" [.ref o,.int k] s=(match ev (aa0 P (n+5)) shC [al (.ref o),al (.int k)] s with|.ok (.T b) s1=>if b then xB (aa0 P (n+5)) (.mcall (.X 0) "take" shA) [al (.ref o),al (.int k)] s1 else xB (aa0 P (n+5)) .no [al (.ref o),al (.int k)] s1|_=>aT):=hx;rw[hc]at B;by_cases hs:Stdy m.R f
 .have a2:=hb.mpr hs;subst a2;have e2:=aD8 (P:=P) n J.R1 J.R5 Y hs h.nc;have ha:af3 (aa0 P (n+5)) shA [al (.ref o),al (.int k)] s=.ok [(Stp.sharp k).d,gd m.R (sh m.R f)] s:=by
   unfold shA
   simp only[zM,ev_cst,ev_tup,ev_ix,ev_call,qd,z5,qK,evas_ex,Cn_str,R.bind_ok,zL,zU,zJ,av8 h.cl.ins,a0,e2]
   rfl
  have hv:ev (aa0 P (n+5)) (.X 0) [al (.ref o),al (.int k)] s=.ok (.ref o) s:=rfl;have xe:=ax5 (F:=aa0 P (n+5)) (m := "take") hv (ak7 h.cl.ins) ha;have Z:(aa0 P (n+6)).xm "ClosedSet" "take_sharp" [.ref o,.int k] s=xB (aa0 P (n+5)) (.mcall (.X 0) "take" shA) [al (.ref o),al (.int k)] s:=B;rcases take_any (P:=P) (ts:=ts) (n+4) J h (x:=.sharp k) (f:=sh m.R f) (g:=sh m.R f) (.sharp k f h.ms hf hs) rfl with⟨s',L',Uu,t1,tx,t2,t3,t4⟩|⟨t1,t2,t3⟩
  .refine .inl ⟨s',L',Uu,?_,by rw[Z,xe];exact tx,t2,λ _=>t3,t4⟩;rw[hd]
   simp only[za,zu,jy,ex_ex,zM,R.bind_ok,zL,zd,fin_next,qC,if_true,hc,qZ,ak7 h.cl.ins,ha,t1]
   exact t2.canon t4
  .refine .inr ⟨?_,s,by rw[Z,xe];exact t2,t3,FrC.refl⟩;rw[hd]
   simp only[za,zu,jy,ex_ex,zM,R.bind_ok,zL,qC,if_true,hc,qZ,ak7 h.cl.ins,ha,t1]
   rfl
 .have a1:bl=false:=by lia
  subst a1;refine .inl ⟨s,L,[],?_,B,by simp_all,λ z=>iS z hs,FrC.refl⟩
  simp_all
end
def prG (i j:Nat):E:=.call "sign_product" (.ex (.ix (.attr (.X 0) as3) (.X i)) (.ex (.ix (.attr (.X 0) as3) (.X j)) .nil))
def prA (i j:Nat):As:=.ex (.tp (.cons (.K (.str [112,97,105,114])) (.cons (.X i) (.cons (.X j) .nil)))) (.ex (prG i j) .nil)
def prB:Ss:=.cons (.ex (.mcall (.X 0) "take" (prA 1 2))) (.cons (.ex (.mcall (.X 0) "take" (prA 2 1))) .nil)
def prX:XB:=.alt (.mcall (.X 0) "take" (prA 1 2)) (.seq (.ex (.mcall (.X 0) "take" (prA 1 2))) (.mcall (.X 0) "take" (prA 2 1)))
def aS6:aa4.body=.cons (.fo (.Y 2) (.rg (.G .add (.X 1) (.K (.int 1)))) prB) .nil:=rfl
def ae7:Xf:=⟨2,1,.forX (.Y 2) (.rg (.G .add (.X 1) (.K (.int 1)))) prB prX⟩
def aW1 (h:xB F a U s=al r):xB F (.alt a b) U s=al r:=by
 show(match xB F a U s with|some r=>al r|none=>xB F b U s)=_;rw[h]
def bf5 (h:xB F a U s=aT):xB F (.alt a b) U s=xB F b U s:=by
 show(match xB F a U s with|some r=>al r|none=>xB F b U s)=_;rw[h]
def aC1 (h:ex F st U s=.ok (.next U1) s1):xB F (.seq st b) U s=xB F b U1 s1:=by
 show(match ex F st U s with|.ok (.next U1) s1=>xB F b U1 s1|_=>aT)=_;rw[h]
def ce5 (h:evI F it U s=.ok q s0):xB F (.forX tg it b x) U s=ag7 (λ s=>chk s0 s q.src) (turn F tg b) (λ d U s=>match jd U tg d with
  | some U=>xB F x U s
  | none=>aT) q.its U s0:=by
 show(match evI F it U s with
  | .ok q s0=>ag7 (λ s=>chk s0 s q.src) (λ d U s=>match jd U tg d with
   | some U=>exs F b U s
   | none=>.B) (λ d U s=>match jd U tg d with
   | some U=>xB F x U s
   | none=>aT) q.its U s0
  | _=>aT)=_
 rw[h];rfl
section
variable {P:Pr} [HasM P "ClosedSet" "take" aa3] [HasC P "MOST_TABLES" (.int 80)] [HasMX P "ClosedSet" "take" ae9] [Has P ad3] [Has P aa7] [HasL P aa2]
def pr_take [hE:HasE P "TooMuch" ts] n (z:m.Ok){L:List Stp}(h:CI m s o a b e L T){  u v:Nat}(Z:T[u]?=al f)(Y:T[v]?=al g)(r0:U[0]?=al (al (.ref o)))(ri:U[i]?=al (al (.int (u:Int))))(rj:U[j]?=al (al (.int (v:Int)))) :
  (∃ s' L' Uu,ex (aa0 P (n+5)) (.ex (.mcall (.X 0) "take" (prA i j))) U s=.ok (.next U) s'/\xB (aa0 P (n+5)) (.mcall (.X 0) "take" (prA i j)) U s=aT/\CI m s' o a b e L' (T++Uu)/\gd m.R (pr m.R f g)∈(T++Uu).map (gd m.R)/\FrC s s' a b e) \/
  (ex (aa0 P (n+5)) (.ex (.mcall (.X 0) "take" (prA i j))) U s=.B/\xB (aa0 P (n+5)) (.mcall (.X 0) "take" (prA i j)) U s=al ("TooMuch",s)/\bl2 m T):=by
 have J:InG m.R f:=h.ms.inG z f (aE Z);have B:InG m.R g:=h.ms.inG z g (aE Y);have gv:∀ {i:Nat} {d:D},U[i]?=al (al d)->ev (aa0 P (n+5)) (.X i) U s=.ok d s:=λ {i d} q=>by
  show aH4 U i s=_;unfold aH4;rw[q]
 have v0:=gv r0;have vi:=gv ri;have vj:=gv rj;have e1:=jk (P:=P) (n+2) z.R1 z.R5 J B h.nc;have ha:af3 (aa0 P (n+5)) (prA i j) U s=.ok [(Stp.pair u v).d,gd m.R (pr m.R f g)] s:=by
  unfold prA prG;simp only[evas_ex,qK,ev_tup,z5,qd,ev_cst,Cn_str,R.bind_ok,vi,vj,ev_call,ev_ix,zJ,v0,av8 h.cl.ins,h.at Z,h.at Y,e1];rfl
 have xe:=ax5 (F:=aa0 P (n+5)) (m := "take") v0 (ak7 h.cl.ins) ha;have ee:ex (aa0 P (n+5)) (.ex (.mcall (.X 0) "take" (prA i j))) U s=((aa0 P (n+5)).mcall "ClosedSet" "take" [.ref o,(Stp.pair u v).d,gd m.R (pr m.R f g)] s).bind λ _ s=>.ok (.next U) s:=by
  show(ev (aa0 P (n+5)) (.mcall (.X 0) "take" (prA i j)) U s).bind _=_;rw[qZ,v0,R.bind_ok,ak7 h.cl.ins,R.bind_ok,ha,R.bind_ok]
 rcases take_any (P:=P) (ts:=ts) (n+4) z h (x:=.pair u v) (f:=pr m.R f g) (g:=pr m.R f g) (.pair u v f g h.ms Z Y) rfl with⟨s',L',Uu,t1,tx,t2,t3,t4⟩|⟨t1,t2,t3⟩
 .exact .inl ⟨s',L',Uu,by rw[ee,t1];rfl,by rw[xe];exact tx,t2,t3,t4⟩
 .exact .inr ⟨by rw[ee,t1];rfl,by rw[xe];exact t2,t3⟩
variable [HasM P "ClosedSet" "take_pairs" aa4] [HasMX P "ClosedSet" "take_pairs" ae7]
def tpairs_any [hE:HasE P "TooMuch" ts] n (hm:m.Ok){L}(h:CI m s o a b e L T){k:Nat}(hf:T[k]?=al f) :
  (∃ s' L' Uu,(aa0 P (n+6)).mcall "ClosedSet" "take_pairs" [.ref o,.int k] s=.ok .N s'/\CI m s' o a b e L' (T++Uu)/\(∀ i,i<k+1->∀ g,T[i]?=al g->gd m.R (pr m.R f g)∈(T++Uu).map (gd m.R)/\gd m.R (pr m.R g f)∈(T++Uu).map (gd m.R))/\FrC s s' a b e) \/
  ((aa0 P (n+6)).mcall "ClosedSet" "take_pairs" [.ref o,.int k] s=.B/\∃ s',(aa0 P (n+6)).xm "ClosedSet" "take_pairs" [.ref o,.int k] s=al ("TooMuch",s')/\(∃ T',bl2 m T')/\FrC s s' a b e):=by
 have b0:=(ag.mp hf).1;have a8:=h.cl.le;rw[aw]at a8;have hI:evI (aa0 P (n+5)) (.rg (.G .add (.X 1) (.K (.int 1)))) [al (.ref o),al (.int (k:Int)),aT] s=.ok ⟨ag2 0 ((k+1:Nat):Int),[]⟩ s:=by
  simp -implicitDefEqProofs only[zM,ev_cst,ev_bin,qI,Cn_int,R.bind_ok,zL,zU,add_int]
  rw[show(k:Int)+1=((k+1:Nat):Int)by lia,zC (by unfold Ww62;lia) (by unfold Ww62;lia)]
 have hd:=qA (P:=P) aa4 (c := "ClosedSet") (m := "take_pairs") (n:=n+5) (l:=[.ref o,.int k]) (s:=s) rfl;rw[aS6,show(bL al [D.ref o,D.int k]++aA aa4.vs aT)=[al (.ref o),al (.int (k:Int)),aT]from rfl]at hd;have hx:=aE2 (P:=P) ae7 (c := "ClosedSet") (m := "take_pairs") (n:=n+5) (l:=[.ref o,.int k]) (s:=s) rfl;rw[show(bL al [D.ref o,D.int k]++aA ae7.vs aT)=[al (.ref o),al (.int (k:Int)),aT]from rfl,show ae7.body=.forX (.Y 2) (.rg (.G .add (.X 1) (.K (.int 1)))) prB prX from rfl,ce5 hI]at hx;have key:=aV9 (ok:=λ u=>chk s u []) (g:=turn (aa0 P (n+5)) (.Y 2) prB) (gx:=λ d U s=>match jd U (.Y 2) d with
  | some U=>xB (aa0 P (n+5)) prX U s
  | none=>aT) (λ j U t=>∃(L':List Stp) (Uu:List (Nat->Nat->Int)) (x:Option D),U=[al (.ref o),al (.int (k)),x]/\CI m t o a b e L' (T++Uu)/\FrC s t a b e/\∀ i,i<j->∀ g,T[i]?=al g->gd m.R (pr m.R f g)∈(T++Uu).map (gd m.R)/\gd m.R (pr m.R g f)∈(T++Uu).map (gd m.R))
  (λ c u=>c = "TooMuch"/\(∃ T',bl2 m T')/\FrC s u a b e) (λ _ _ _ _=>rfl) (ag2 0 ((k+1:Nat):Int)) 0 [al (.ref o),al (.int (k:Int)),aT] s ⟨L,[],aT,rfl,by rw[aY];exact h,FrC.refl,λ i hi=>iS hi (cH _)⟩ (by
  rintro j d U t hj ⟨L',Uu,x,rfl,hc,fr,hall⟩
  rw[bN]at hall ⊢;obtain⟨c0,rfl⟩:=qO hj;rw[fy];have b6:j<k+1:=by lia
  have z:j<T.length:=by lia
  have a6:(T++Uu)[j]?=al T[j]:=by rw[aD z,au z]
  have Z:(T++Uu)[k]?=al f:=by rw[aD b0];exact hf
  rcases pr_take (P:=P) (ts:=ts) n hm hc (i:=1) (j:=2) Z a6 (U:=[al (.ref o),al (.int (k:Int)),al (.int (j:Int))]) rfl rfl rfl with⟨s1,L1,Uu1,a1,a2,a3,a4,a5⟩|⟨a1,a2,a3⟩
  .have a0:(T++Uu++Uu1)[j]?=al T[j]:=by rw[aD (by rw[aM];omega)];exact a6
   have J:(T++Uu++Uu1)[k]?=al f:=by rw[aD (by rw[aM];lia)];exact Z
   rcases pr_take (P:=P) (ts:=ts) n hm a3 (i:=2) (j:=1) a0 J (U:=[al (.ref o),al (.int (k:Int)),al (.int (j:Int))]) rfl rfl rfl with⟨s2,L2,Uu2,b1,b2,b3,b4,b5⟩|⟨b1,b2,b3⟩
   .refine .inl ⟨[al (.ref o),al (.int (k:Int)),al (.int (j:Int))],s2,?_,L2,Uu++Uu1++Uu2,_,rfl,by rw[<-bo,<-bo];exact b3,(fr.trans a5).trans b5,λ i hi g hg=>?_⟩
    .show exs (aa0 P (n+5)) prB [al (.ref o),al (.int (k:Int)),al (.int (j:Int))] t=_;unfold prB;rw[za,a1,R.bind_ok,zd,za,b1,R.bind_ok,zd,zu]
    .have up:∀ {x:D} {A B:List (Nat->Nat->Int)},x∈A.map (gd m.R)->x∈(A++B).map (gd m.R):=λ hx=>by rw[aS];exact bj _ hx
     rw[<-bo,<-bo];by_cases hij:i=j
     .subst hij;have:g=T[i]:=by rw[au z]at hg;exact(av hg).symm
      subst this;exact⟨up a4,b4⟩
     .have:=hall i (by lia) g hg;exact⟨up (up this.1),up (up this.2)⟩
   .refine .inr ⟨?_, "TooMuch",s1,?_,rfl,⟨_,b3⟩,fr.trans a5⟩
    .show exs (aa0 P (n+5)) prB [al (.ref o),al (.int (k:Int)),al (.int (j:Int))] t=_;unfold prB;rw[za,a1,R.bind_ok,zd,za,b1];rfl
    .show xB (aa0 P (n+5)) prX [al (.ref o),al (.int (k:Int)),al (.int (j:Int))] t=_;unfold prX;rw[bf5 a2,aC1 a1];exact b2
  .refine .inr ⟨?_, "TooMuch",t,?_,rfl,⟨_,a3⟩,fr⟩
   .show exs (aa0 P (n+5)) prB [al (.ref o),al (.int (k:Int)),al (.int (j:Int))] t=_;unfold prB;rw[za,a1];rfl
   .show xB (aa0 P (n+5)) prX [al (.ref o),al (.int (k:Int)),al (.int (j:Int))] t=_;unfold prX;exact aW1 a2)
 have Y:(ag2 0 ((k+1:Nat):Int)).length=k+1:=zy (k+1);rw[bN,Y]at key;rcases key with⟨U',s',e1,L',Uu,x,rfl,hc,fr,hall⟩|⟨e1,c,s',e2,rfl,hO⟩
 .refine .inl ⟨s',L',Uu,?_,hc,hall,fr⟩;rw[hd,za,ex_for,hI,R.bind_ok,e1,R.bind_ok,zd,zu,R.bind_ok];exact hc.canon fr
 .refine .inr ⟨?_,s',?_,hO⟩
  .rw[hd,za,ex_for,hI,R.bind_ok,e1];rfl
  .rw[hx];exact e2
end
def Cc0 (s:Sto):Sto:=s++[.ins "ClosedSet" (fldC (s.length+1) (s.length+2) (s.length+3)),.J [],.J [],.dit []]
def bm7 {s X:Sto}:(s++a::X).set s.length b=s++b::X:=by simp_all
def aG3 (hk:ok "ClosedSet"=bY){ X:Sto}(h:fs.length<1000):aG7 ok f (.ref s.length) v (s++.ins "ClosedSet" fs::X)=.ok () (s++.ins "ClosedSet" (at0 (.str f) v fs)::X):=by
 unfold aG7
 simp_all
def aV3  i (B:i<s.length)(h:t[i]?=al x)(J:s[i]?≠al x)(h3:x.bnd s.length=ce):ab7 s d t=.ok d t:=by
 have:ag1 s t=false:=by
  rw[<-Bool.not_eq_true];intro z;unfold pi at z;have:=aI.mp z i (bE.mpr B);rw[h]at this;simp only[h3,lW,li]at this;exact J this.symm
 unfold ab7;rw[this];rfl
def bn0 (h:n<=a):(O.ins "ClosedSet" (fldC a b e)).bnd n=false:=by
 unfold O.bnd fldC;simp only[aR,D.bndL,D.bnd];lia
def bq9  o  f  e :ex F (.setA o f e) U s=(ev F e U s).bind λ d s=>(ev F o U s).bind λ x s=>(aG7 (λ c=>F.att c f) f x d s).bind λ _ s=>.ok (.next U) s:=rfl
def bo8 :ev F .dicT U s=.ok (.ref s.length) (s++[.dit []]):=rfl
def bE5  c  h :ev F (.new c h) U s=(af3 F h U s).bind λ l s=>(F.new c (.ref s.length::l) (s++[.ins c []])).bind λ d s'=>if d=.N then .ok (.ref s.length) s' else .B:=rfl
def bm3 :(aa0 P (k+2)).new c l s=(aa0 P (k+1)).mcall c "__init__" l s:=rfl
section
variable {P:Pr} [HasM P "ClosedSet" "__init__" aa9] [HasA P "ClosedSet" ah0] [HasA P "ClosedSet" as3] [HasA P "ClosedSet" am4]
def aR5:aa9.body=zV:=rfl
def br1  n  s :(aa0 P (n+1)).mcall "ClosedSet" "__init__" [.ref s.length] (s++[.ins "ClosedSet" []])=.ok .N (Cc0 s):=by
 have k1:(λ c=>(aa0 P n).att c ah0) "ClosedSet"=true:=aI7;have k2:(λ c=>(aa0 P n).att c as3) "ClosedSet"=true:=aI7;have k3:(λ c=>(aa0 P n).att c am4) "ClosedSet"=true:=aI7;have e1:=aG3 (ok:=λ c=>(aa0 P n).att c ah0) k1 (s:=s) (X:=[.J []]) (fs:=[]) (by decide) (f:=ah0) (v:=.ref (s.length+1));have e2:=aG3 (ok:=λ c=>(aa0 P n).att c as3) k2 (s:=s) (X:=[.J [],.J []]) (fs:=at0 (.str ah0) (.ref (s.length+1)) []) (by simp[at0]) (f:=as3) (v:=.ref (s.length+2));have h:=aG3 (ok:=λ c=>(aa0 P n).att c am4) k3 (s:=s) (X:=[.J [],.J [],.dit []]) (fs:=at0 (.str as3) (.ref (s.length+2)) (at0 (.str ah0) (.ref (s.length+1)) [])) (by simp[at0,ah0,as3]) (f:=am4) (v:=.ref (s.length+3));have B:at0 (.str am4) (.ref (s.length+3)) (at0 (.str as3) (.ref (s.length+2)) (at0 (.str ah0) (.ref (s.length+1)) []))=fldC (s.length+1) (s.length+2) (s.length+3):=by simp[at0,fldC,ah0,as3,am4]
 rw[B]at h;rw[qA aa9 rfl,aR5,show(bL al [D.ref s.length]++aA aa9.vs aT)=[al (.ref s.length)]from rfl];have l1:(s++[O.ins "ClosedSet" []]).length=s.length+1:=by simp
 have J:∀ x y:O,(s++[x,y]).length=s.length+2:=λ _ _=>by simp
 have Uu:∀ x y z:O,(s++[x,y,z]).length=s.length+3:=λ _ _ _=>by simp
 simp only[za,zu,zM,ev_lst,qd,R.bind_ok,zL,zd,fin_next,alloc_eq,bq9,bo8,bo,dq,ir,l1,J,Uu,e1,e2,h]
 refine aV3 s.length (by simp) (x:=.ins "ClosedSet" (fldC (s.length+1) (s.length+2) (s.length+3))) ?_ ?_ ?_
 .rw[ay (aj _)];simp
 .rw[bx8];intro z;injection z with z;injection z with _ z;cases z
 .rw[l1];exact bn0 (aj _)
def cd2 (hs:s.all O.ncl=bY):CI m (Cc0 s) s.length (s.length+1) (s.length+2) (s.length+3) [] []:=by
 have g:∀ i,s.length<=i->(Cc0 s)[i]?=([.ins "ClosedSet" (fldC (s.length+1) (s.length+2) (s.length+3)),.J [],.J [],.dit []])[i - s.length]?:=λ i h=>ay h;refine⟨⟨?_,?_,?_,?_,by lia,rfl,by simp,λ d hd=>(by grind),λ d hd=>(by grind)⟩,.nil,gm,?_⟩
 .simp_all
 .simp_all
 .simp_all
 .rw[g _ (by lia),bO];rfl
 .unfold Cc0;rw[ly,hs];rfl
def bL3  n :ev (aa0 P (n+2)) (.new "ClosedSet" .nil) U s=.ok (.ref s.length) (Cc0 s):=by
 rw[bE5,qK,R.bind_ok,bm3,br1,R.bind_ok,ef rfl]
end
section
variable {c:Env->Sto->R D} {g:Env->Sto->R Ct} {gx:Env->Sto->Option (String×Sto)}
def aQ9 (h:c U s=.ok (.T ce) s1):∀ N,qb c g gx N U s=aT
 | 0=>rfl
 | N+1=>by unfold qb;rw[h]
def aq6 (h:c U s=.ok (.T bY) s1)(z:g U s1=.ok (.next U1) s2) N :qb c g gx (N+1) U s=qb c g gx N U1 s2:=by
 show(match c U s with
  | .ok (.T bY) s1=>match g U s1 with
   | .ok (.next U1) s2=>qb c g gx N U1 s2
   | .ok (.cont U1) s2=>qb c g gx N U1 s2
   | .ok _ _=>aT
   | _=>gx U s1
  | _=>aT)=_
 rw[h];show(match g U s1 with
   | .ok (.next U1) s2=>qb c g gx N U1 s2
   | .ok (.cont U1) s2=>qb c g gx N U1 s2
   | .ok _ _=>aT
   | _=>gx U s1)=_
 rw[z]
def aO1 (h:c U s=.ok (.T bY) s1)(z:g U s1=.B) N :qb c g gx (N+1) U s=gx U s1:=by
 show(match c U s with
  | .ok (.T bY) s1=>match g U s1 with
   | .ok (.next U1) s2=>qb c g gx N U1 s2
   | .ok (.cont U1) s2=>qb c g gx N U1 s2
   | .ok _ _=>aT
   | _=>gx U s1
  | _=>aT)=_
 rw[h];show(match g U s1 with
   | .ok (.next U1) s2=>qb c g gx N U1 s2
   | .ok (.cont U1) s2=>qb c g gx N U1 s2
   | .ok _ _=>aT
   | _=>gx U s1)=_
 rw[z]
set_option tactic.hygienic true in
theorem qQ:∀ {N} {U} {s} {r},qb c g gx N U s=al r->∀ K,qb c g gx (N+K) U s=al r
 | 0,U,s,r,h,K=>by cases h
 | N+1,U,s,r,h,K=>by
  rw[show N+1+K=(N+K)+1 by lia];unfold qb at h ⊢;split at h
  .rename_i s1 e1;split at h
   .exact qQ h K
   .exact qQ h K
   .cases h
   .exact h
  .cases h
def aV0 (h:qb c g gx N U s=al r):whlX c g gx U s=al r:=by
 unfold whlX;have ex:∃ n,(qb c g gx n U s).isSome=true:=⟨N,by rw[h];rfl⟩
 rw[dif_pos ex];have hs:=ex.choose_spec;generalize ex.choose=K at hs ⊢;cases hK:qb c g gx K U s with
 | none=>simp_all
 | some r' =>
  have a:=qQ h K;have b:=qQ hK N;rw[kJ]at b;rw[a]at b;exact b.symm
def aQ4 (h:∀ N,qb c g gx N U s=aT):whlX c g gx U s=none:=by
 unfold whlX
 simp_all
end
def bn4 (h:aH4 U i s=.ok (.int a) s)(z:ev F e U s=.ok (.int b) s)(h3:as6 U i (.int (a+b))=al U'):ex F (.aug i e) U s=.ok (.next U') s:=by
 show(aH4 U i s).bind (λ x s=>(ev F e U s).bind λ y s=>match x,y with
  | .int a,.int b=>match as6 U i (.int (a+b))with|some U=>R.ok (Ct.next U) s|none=>.B
  | _,_=>.B)=_
 simp_all
def clX:XB:=.alt (.mcall (.X 1) "take_sharp" (.ex (.X 3) .nil)) (.seq (.ex clS) (.mcall (.X 1) "take_pairs" (.ex (.X 3) .nil)))
def ae6:Xf:=⟨1,3,.seq (.A (.Y 1) (.new "ClosedSet" .nil)) (.seq clF (.seq (.A (.Y 3) (.K (.int 0))) (.whlX clC clB clX)))⟩
def aG9:af1.body=au9:=rfl
def cg8 (m:Mc)(k:Nat)(T:List (Nat->Nat->Int)):Prop:=∀ i f,i<k->T[i]?=al f->(Stdy m.R f->gd m.R (sh m.R f)∈T.map (gd m.R))/\∀ j g,j<i+1->T[j]?=al g->gd m.R (pr m.R f g)∈T.map (gd m.R)/\gd m.R (pr m.R g f)∈T.map (gd m.R)
section
variable {P:Pr} [HasM P "ClosedSet" "take" aa3] [HasC P "MOST_TABLES" (.int 80)] [HasMX P "ClosedSet" "take" ae9] [Has P ad3] [Has P aa7] [HasL P aa2] [Has P ab5] [Has P ac2] [Has P ac3] [HasL P ab1] [HasC P "FREE" (.int 0)] [HasC P "UNBOUND" (.int 2)] [HasC P "NONE" (.int 3)]
 [HasM P "ClosedSet" "take_sharp" aa5] [HasMX P "ClosedSet" "take_sharp" af0] [HasM P "ClosedSet" "take_pairs" aa4] [HasMX P "ClosedSet" "take_pairs" ae7]
theorem clw [hE:HasE P "TooMuch" ts] n (hm:m.Ok):∀ z k   L   T   t ,81<=z+k->CI m t o a b e L T->k<=T.length->cg8 m k T ->
  (∃ L' Uu t' k',whl (ev (aa0 P (n+6)) clC) (exs (aa0 P (n+6)) clB) [x0,al (.ref o),x2,al (.int (k))] t=.ok (.next [x0,al (.ref o),x2,al (.int (k':Nat))]) t'/\(∀ N,qb (ev (aa0 P (n+6)) clC) (exs (aa0 P (n+6)) clB) (xB (aa0 P (n+6)) clX) N [x0,al (.ref o),x2,al (.int (k))] t=aT)/\CI m t' o a b e L' (T++Uu)/\FrC t t' a b e/\cg8 m (T++Uu).length (T++Uu)) \/
  (∃ N t',qb (ev (aa0 P (n+6)) clC) (exs (aa0 P (n+6)) clB) (xB (aa0 P (n+6)) clX) N [x0,al (.ref o),x2,al (.int (k))] t=al ("TooMuch",t')/\(∃ T',bl2 m T')/\FrC t t' a b e)
 | 0,k,L,T,t,hf,h,hk,_=>by
  have Y:=h.cl.le;rw[aw]at Y;omega
 | z+1,k,L,T,t,hf,h,hk,hu=>by
  have Y:=h.cl.le;rw[aw]at Y;have a6:(L.map Stp.d).length=T.length:=by rw[h.cl.len,aw]
  have el:bi .len [.ref a] t=.ok (.int T.length) t:=by rw[jD h.cl.stp,a6]
  have hc:ev (aa0 P (n+6)) clC [x0,al (.ref o),x2,al (.int (k:Int))] t=.ok (.T (decide ((k:Int)<(T.length:Int)))) t:=by
   unfold clC
   simp only[zM,ev_cmp,ev_bi,qd,z5,R.bind_ok,zL,zU,lt_int,zJ,ak1 h.cl.ins,el]
  by_cases hlt:k<T.length
  .rw[ij (by lia)]at hc;obtain⟨f,J⟩:∃ f,T[k]?=al f:=⟨_,au hlt⟩
   have ms:∀ {u:Sto} {L:List Stp} {T:List (Nat->Nat->Int)} (_:CI m u o a b e L T) (q:String),ex (aa0 P (n+6)) (.ex (.mcall (.X 1) q (.ex (.X 3) .nil))) [x0,al (.ref o),x2,al (.int (k:Int))] u=((aa0 P (n+6)).mcall "ClosedSet" q [.ref o,.int k] u).bind λ _ s=>.ok (.next [x0,al (.ref o),x2,al (.int (k:Int))]) s:=λ {u L T} hu q=>by
    show(ev (aa0 P (n+6)) (.mcall (.X 1) q (.ex (.X 3) .nil)) [x0,al (.ref o),x2,al (.int (k:Int))] u).bind _=_;rw[qZ]
    simp only[zM,qK,evas_ex,R.bind_ok,zL,zU,ak7 hu.cl.ins]
   have mx:∀ {u:Sto} {L:List Stp} {T:List (Nat->Nat->Int)} (_:CI m u o a b e L T) (q:String),xB (aa0 P (n+6)) (.mcall (.X 1) q (.ex (.X 3) .nil)) [x0,al (.ref o),x2,al (.int (k:Int))] u=(aa0 P (n+6)).xm "ClosedSet" q [.ref o,.int k] u:=λ {u L T} hu q=>ax5 rfl (ak7 hu.cl.ins) (by simp_all);rcases tsharp_any (P:=P) (ts:=ts) n hm h J with⟨s1,L1,Uu1,a1,ax,a2,a3,a4⟩|⟨a1,s1,a2,a3,a4⟩
   .have Z:(T++Uu1)[k]?=al f:=by rw[aD hlt];exact J
    rcases tpairs_any (P:=P) (ts:=ts) n hm a2 Z with⟨s2,L2,Uu2,b1,b2,b3,b4⟩|⟨b1,s2,b2,b3,b4⟩
    .have hb:exs (aa0 P (n+6)) clB [x0,al (.ref o),x2,al (.int (k:Int))] t=.ok (.next [x0,al (.ref o),x2,al (.int ((k+1:Nat):Int))]) s2:=by
      have ea:ex (aa0 P (n+6)) (.aug 3 (.K (.int 1))) [x0,al (.ref o),x2,al (.int (k:Int))] s2=.ok (.next [x0,al (.ref o),x2,al (.int ((k+1:Nat):Int))]) s2:=bn4 (b:=1) rfl rfl rfl;unfold clB clS clP;rw[za,ms h,a1,R.bind_ok,R.bind_ok,zd,za,ms a2,b1,R.bind_ok,R.bind_ok,zd,za,ea,R.bind_ok,zd,zu]
     have up:∀ {x:D} {A B:List (Nat->Nat->Int)},x∈A.map (gd m.R)->x∈(A++B).map (gd m.R):=λ hx=>by rw[aS];exact bj _ hx
     have b5:cg8 m (k+1) (T++Uu1++Uu2):=λ i f' hi a5=>by
      have b6:i<T.length:=by lia
      have a0:T[i]?=al f':=by rw[bo,aD b6]at a5;exact a5
      by_cases hik:i=k
      .subst hik;have:f'=f:=by rw[a0]at J;exact av J
       subst this;refine⟨λ hs=>up (a3 hs),λ j g hj hg=>b3 j hj g ?_⟩;rw[aD (by rw[aM];lia)]at hg;exact hg
      .have hq:=hu i f' (by lia) a0;refine⟨λ hs=>up (up (hq.1 hs)),λ j g hj hg=>?_⟩;have a8:T[j]?=al g:=by rw[bo,aD (by lia)]at hg;exact hg
       have:=hq.2 j g hj a8;exact⟨up (up this.1),up (up this.2)⟩
     rcases clw (ts:=ts) n hm z (k+1) L2 (T++Uu1++Uu2) s2 (by lia) b2 (by grind) b5 with⟨L',Uu,t',k',c1,c2,c3,c4,c5⟩|⟨N,t',c1,c2,c3⟩
     .refine .inl ⟨L',Uu1++Uu2++Uu,t',k',?_,λ N=>?_,by rw[<-bo,<-bo];exact c3,(a4.trans b4).trans c4,by rw[<-bo,<-bo];exact c5⟩
      .rw[aQ1 hc hb];exact c1
      .cases N with
       | zero=>rfl
       | succ N=>rw[aq6 hc hb];exact c2 N
     .exact .inr ⟨N+1,t',by rw[aq6 hc hb];exact c1,c2,(a4.trans b4).trans c3⟩
    .refine .inr ⟨1,s2,?_,b3,a4.trans b4⟩;have hb:exs (aa0 P (n+6)) clB [x0,al (.ref o),x2,al (.int (k:Int))] t=.B:=by
      unfold clB clS clP;rw[za,ms h,a1,R.bind_ok,R.bind_ok,zd,za,ms a2,b1];rfl
     rw[aO1 hc hb];unfold clX;rw[bf5 (by rw[mx h];exact ax),aC1 (U1:=[x0,al (.ref o),x2,al (.int (k:Int))]) (s1:=s1) (by unfold clS;rw[ms h,a1];rfl),mx a2];exact b2
   .refine .inr ⟨1,s1,?_,⟨_,a3⟩,a4⟩;have hb:exs (aa0 P (n+6)) clB [x0,al (.ref o),x2,al (.int (k:Int))] t=.B:=by
     unfold clB clS;rw[za,ms h,a1];rfl
    rw[aO1 hc hb];unfold clX;exact aW1 (by rw[mx h];exact a2)
  .rw[iF (by lia)]at hc;have b0:k=T.length:=by lia
   refine .inl ⟨L,[],t,k,bh4 hc,aQ9 hc,by simp_all,FrC.refl,?_⟩
   simp_all
end
def abc_at {L }(h:(aF2.take L)[j]?=al d):j<3/\j<L/\d=.str [97+j]:=by
 have hj:j<L:=by
  have:=(ag.mp h).1;rw[bR]at this;lia
 rw[db hj]at h
 match j,h with
 | 0,h=>exact⟨by lia,hj,(av h).symm⟩
 | 1,h=>exact⟨by lia,hj,(av h).symm⟩
 | 2,h=>exact⟨by lia,hj,(av h).symm⟩
 | j+3,h=>simp[]at h
def bh9  q  s :mk .tuple q s=.ok (.tp q) s:=rfl
def aP0 (h:s[r]?=al (.J l)):aY3 (.ref r) s=.ok l s:=by unfold aY3;simp only[h]
def bg6 { t:Sto}(z:s.length<=t.length)(h:∀ i,i<s.length->t[i]?=s[i]?):∃ G,t=s++G:=by
 refine⟨t.drop s.length,?_⟩;have:t.take s.length=s:=by
  apply gJ
  grind
 conv=>lhs;rw[<-iH s.length t,this]
def av3 {R}{T:List (Nat->Nat->Int)}(h:gd R f∈T.map (gd R)):∃(i:Nat) (g:Nat->Nat->Int),T[i]?=al g/\EqG R f g:=by
 obtain⟨g,B,e⟩:=ao.mp h;obtain⟨i,z⟩:=fN B;exact⟨i,g,z,aM2 e.symm⟩
def bG5 (h:cg8 m T.length T)(h0:∀ c,97<=c->c<97+m.L->gd m.R (sgM m c)∈T.map (gd m.R))(k:ClG m x):x∈T.map (gd m.R):=by
 refine k.in_ h0 (λ f g J Y=>?_) λ f J hs=>?_
 .obtain⟨i,f',z,B⟩:=av3 J;obtain⟨j,g',hj,eg⟩:=av3 Y;have Uu:=(ag.mp z).1;have Z:=(ag.mp hj).1
  skip
  rw[ah9 (ah3 B eg)];by_cases hij:j<i+1
  .exact((h i f' Uu z).2 j g' hij hj).1
  .exact((h j g' Z hj).2 i f' (by lia) z).2
 .obtain⟨i,f',z,B⟩:=av3 J;have Uu:=(ag.mp z).1
  skip
  rw[ah9 (aM1 B)];exact(h i f' Uu z).1 (av6 B hs)
def Mks.in_cl {L}(h:Mks m L T)(hx:x∈T.map (gd m.R)):ClG m x:=by
 obtain⟨f,z,rfl⟩:=ao.mp hx;exact h.cl f z
section
variable {P:Pr} [HasM P "ClosedSet" "take" aa3] [HasC P "MOST_TABLES" (.int 80)] [HasMX P "ClosedSet" "take" ae9] [Has P ad3] [Has P aa7] [HasL P aa2] [Has P ab5] [Has P ac2] [Has P ac3] [HasL P ab1] [HasC P "FREE" (.int 0)] [HasC P "UNBOUND" (.int 2)] [HasC P "NONE" (.int 3)]
 [HasM P "ClosedSet" "take_sharp" aa5] [HasMX P "ClosedSet" "take_sharp" af0] [HasM P "ClosedSet" "take_pairs" aa4] [HasMX P "ClosedSet" "take_pairs" ae7]
 [HasM P "ClosedSet" "__init__" aa9] [HasA P "ClosedSet" ah0] [HasA P "ClosedSet" as3] [HasA P "ClosedSet" am4]
 [HasC P "SOME" (.int 1)] [Has P ad5] [Has P ad6] [HasL P ac7] [Has P ad7] [Has P ae0] [Has P ac4] [Has P ac1] [Has P aa8] [HasL P aa6] [Has P ae2] [HasL P ac0] [Has P ac9] [HasL P ab2] [Has P ab4] [Has P ac6]
 [Has P ac8] [HasC P "LETTERS" (.tp aF2)]
def bE7 [hE:HasE P "TooMuch" ts] n (z:m.Ok)(hs:s.all O.ncl=bY) :
  ∃(L:List Stp) (T:List (Nat->Nat->Int)) (t:Sto) (x:Option D),ex (aa0 P (n+6)) clF [al m.d,al (.ref s.length),aT,aT] (Cc0 s)=.ok (.next [al m.d,al (.ref s.length),x,aT]) t/\CI m t s.length (s.length+1) (s.length+2) (s.length+3) L T/\FrC (Cc0 s) t (s.length+1) (s.length+2) (s.length+3)/\∀ c,97<=c->c<97+m.L->gd m.R (sgM m c)∈T.map (gd m.R):=by
 have Z:=z.L3;have hlt:=aU3 (P:=P) (n+5) z.L3;have hl:∀ u,(aa0 P (n+6)).call "letters_of" [m.d] u=.ok (.tp (aF2.take m.L)) u:=λ u=>hlt _ u;refine wl λ _ ua=>?_;obtain⟨U',t,e1,h⟩:=jj (g:=turn (aa0 P (n+6)) (.Y 2) cg5) (λ j U t=>∃(L:List Stp) (T:List (Nat->Nat->Int)) (x:Option D),U=[al m.d,al (.ref s.length),x,aT]/\CI m t s.length (s.length+1) (s.length+2) (s.length+3) L T/\FrC (Cc0 s) t (s.length+1) (s.length+2) (s.length+3)/\T.length<=j/\∀ i,i<j->gd m.R (sgM m (97+i))∈T.map (gd m.R))
  (aF2.take m.L) 0 [al m.d,al (.ref s.length),aT,aT] (Cc0 s) ⟨[],[],aT,rfl,cd2 hs,FrC.refl,aj _,λ i J=>iS J (cH _)⟩ (λ _ _ _ _ _=>rfl) (by
  rintro j d U t hj ⟨L,T,x,rfl,hc,fr,hT,hall⟩
  rw[bN]at hT hall ⊢;obtain⟨h3,Y,rfl⟩:=abc_at hj;obtain⟨g,hg,eg⟩:=aw9 (P:=P) n z [97+j] (by simp) hc.nc;have B:=ah9 (hg.eqG (SgW.letter m _));have ha:af3 (aa0 P (n+6)) clA [al m.d,al (.ref s.length),al (.str [97+j]),aT] t=.ok [(Stp.let_ (97+j)).d,gd m.R g] t:=by
   unfold clA
   simp only[zM,ev_cst,ev_tup,ev_call,qd,z5,qK,evas_ex,Cn_str,R.bind_ok,zL,zU,eg]
   rfl
  have ee:ex (aa0 P (n+6)) (.ex (.mcall (.X 1) "take" clA)) [al m.d,al (.ref s.length),al (.str [97+j]),aT] t=((aa0 P (n+6)).mcall "ClosedSet" "take" [.ref s.length,(Stp.let_ (97+j)).d,gd m.R g] t).bind λ _ u=>.ok (.next [al m.d,al (.ref s.length),al (.str [97+j]),aT]) u:=by
   show(ev (aa0 P (n+6)) (.mcall (.X 1) "take" clA) [al m.d,al (.ref s.length),al (.str [97+j]),aT] t).bind _=_;rw[qZ]
   simp only[zM,R.bind_ok,zL,zU,ak7 hc.cl.ins,ha]
  rcases take_any1 (P:=P) (ts:=ts) (n+5) z hc (.let_ (97+j) hc.ms (by lia) (by lia)) B with⟨s',L',Uu,t1,tx,t2,t3,t4,t5⟩|⟨_,_,_,h80,_⟩
  .refine⟨[al m.d,al (.ref s.length),al (.str [97+j]),aT],s',.inl ?_,L',T++Uu,_,rfl,t2,fr.trans t4,?_,λ i J=>?_⟩
   .show exs (aa0 P (n+6)) cg5 [al m.d,al (.ref s.length),al (.str [97+j]),aT] t=_;unfold cg5;rw[za,ee,t1,R.bind_ok,R.bind_ok,zd,zu]
   .rw[aM];lia
   .by_cases hij:i=j
    .rw[hij];exact t3
    .rw[aS];exact bj _ (hall i (by lia))
  .omega)
 obtain⟨L,T,x,rfl,hc,fr,_,hall⟩:=h;refine ua ⟨L,T,t,x,?_,hc,fr,λ c h1 h2=>?_⟩
 .unfold clF;rw[ex_for]
  simp only[zM,ev_call,qK,evas_ex,evI_seq,R.bind_ok,zL,hl]
  rw[show aA0 (D.tp (aF2.take m.L)) (Cc0 s)=.ok ⟨aF2.take m.L,[]⟩ (Cc0 s)from rfl,R.bind_ok];exact e1
 .have:=hall (c - 97) (by rw[bN,bR];show c - 97<min m.L 3;lia)
  rwa [show 97+(c - 97)=c by omega]at this
def closed_any [Has P af1][HasX P "closed" ae6]{ts}[hE:HasE P "TooMuch" ts] n {m}(J:m.Ok){s}(hs:s.all O.ncl=bY) :
  (∃ L   T ,(aa0 P (n+7)).call "closed" [m.d] s=.ok (.tp (L.map Stp.d)) s/\(aa0 P (n+7)).xcall "closed" [m.d] s=aT/\Mks m L T/\(T.map (gd m.R)).Nodup/\T.length<=80/\∀ x,ClG m x↔x∈T.map (gd m.R)) \/
  (∃ s',(aa0 P (n+7)).xcall "closed" [m.d] s=al ("TooMuch",s')/\(∃ T,bl2 m T)/\∃ G,s'=s++G):=by
 have Y:(aa0 P (n+7)).call "closed" [m.d] s=_:=zl af1 rfl;have x0:(aa0 P (n+7)).xcall "closed" [m.d] s=_:=bk4 ae6 rfl;rw[aG9,show(bL al [m.d]++aA af1.vs aT)=[al m.d,aT,aT,aT]from rfl]at Y;rw[show(bL al [m.d]++aA ae6.vs aT)=[al m.d,aT,aT,aT]from rfl]at x0;have a1:ex (aa0 P (n+6)) (.A (.Y 1) (.new "ClosedSet" .nil)) [al m.d,aT,aT,aT] s=.ok (.next [al m.d,al (.ref s.length),aT,aT]) (Cc0 s):=by
  rw[ex_asg,bL3 (n+4),R.bind_ok];rfl
 refine wl λ _ ua=>?_;obtain⟨L,T,t,x,a2,hc,fr,hl⟩:=bE7 (P:=P) (ts:=ts) n J hs;have a3:ex (aa0 P (n+6)) (.A (.Y 3) (.K (.int 0))) [al m.d,al (.ref s.length),x,aT] t=.ok (.next [al m.d,al (.ref s.length),x,al (.int ((0:Nat):Int))]) t:=by simp_all
 have hx:xB (aa0 P (n+6)) ae6.body [al m.d,aT,aT,aT] s=whlX (ev (aa0 P (n+6)) clC) (exs (aa0 P (n+6)) clB) (xB (aa0 P (n+6)) clX) [al m.d,al (.ref s.length),x,al (.int ((0:Nat):Int))] t:=by
  show xB (aa0 P (n+6)) (.seq (.A (.Y 1) (.new "ClosedSet" .nil)) (.seq clF (.seq (.A (.Y 3) (.K (.int 0))) (.whlX clC clB clX)))) _ _=_;rw[aC1 a1,aC1 a2,aC1 a3];rfl
 rw[hx]at x0;refine ua ?_;rcases clw (P:=P) (ts:=ts) n J 81 0 L T t (by lia) hc (cq _) (λ i f B=>iS B (cH _))with⟨L',Uu,t',k',c1,c2,c3,c4,c5⟩|⟨N,t',c1,c2,c4⟩
 .refine .inl ⟨L',T++Uu,?_,by rw[x0];exact aQ4 c2,c3.ms,c3.nd,by have:=c3.cl.le;rwa [aw]at this,λ y=>⟨λ h=>bG5 c5 (λ c Z h2=>by rw[aS];exact bj _ (hl c Z h2)) h,c3.ms.in_cl⟩⟩;have z:(Cc0 s).length=s.length+4:=by unfold Cc0;simp
  obtain⟨G,hG⟩:=bg6 (s:=s) (t:=t') (by rw[c4.len,fr.len,z];lia) λ i B=>by
   rw[c4.old i (by lia) (by lia) (by lia),fr.old i (by omega) (by omega) (by omega)];unfold Cc0;rw[aD B]
  rw[Y,za,a1,R.bind_ok,zd,za,a2,R.bind_ok,zd,za,a3,R.bind_ok,zd,za,ex_whl,c1,R.bind_ok,zd]
  simp only[za,ex_ret,zM,ev_mk,evL_seq,R.bind_ok,zL,zU,qX,je,zJ,ak1 c3.cl.ins,aP0 c3.cl.stp,bh9]
  rw[hG];exact zG (λ n=>bn2 n) (by nofun)
 .have z:(Cc0 s).length=s.length+4:=by unfold Cc0;simp
  exact .inr ⟨t',by rw[x0];exact aV0 c1,c2,bg6 (s:=s) (t:=t') (by rw[c4.len,fr.len,z];omega) λ i B=>by
   rw[c4.old i (by omega) (by omega) (by omega),fr.old i (by omega) (by omega) (by omega)];unfold Cc0;rw[aD B]⟩
end
theorem bk1 {R}:∀ F:List (Nat->Nat->Int),inL s (gd R f) (F.map (gd R))=al (decide (gd R f∈F.map (gd R)))
 | []=>rfl
 | g::F=>by
  obtain⟨b,e,h⟩:=bx4 ;show(match eqv s DEEP (gd R g) (gd R f),inL s (gd R f) (F.map (gd R))with
   | some a,al b=>al (a||b)
   | _,_=>aT)=_
  rw[e,bk1 F];show al (b||decide (gd R f∈F.map (gd R)))=_
  congr 1
  rw[fU,b7,li,li,aR,aB,h];exact⟨λ z=>z.imp (λ z=>(ah9 z).symm) id,λ z=>z.imp (λ z=>aM2 z.symm) id⟩
def aw6 {R }{F:List (Nat->Nat->Int)}(h:s[p]?=al (.J (F.map (gd R)))) f :js .notin (gd R f) (.ref p) s=.ok (.T (!decide (gd R f∈F.map (gd R)))) s:=by
 show(inM (gd R f) (.ref p) s).bind _=_;have e:inM (gd R f) (.ref p) s=.ok (decide (gd R f∈F.map (gd R))) s:=by
  unfold inM;simp only[h,bk1]
 rw[e];rfl
def bA1 (R:Nat)(F:List (Nat->Nat->Int)):List (Nat->Nat->Int)->List (Nat->Nat->Int)
 | []=>F
 | x::X=>bA1 R (if gd R x∈F.map (gd R)then F else F++[x]) X
theorem ao0 {R}:∀ X F ,(F.map (gd R)).Nodup->∃ Uu,bA1 R F X=F++Uu/\((F++Uu).map (gd R)).Nodup/\(∀ f∈Uu,f∈X)/\(∀ x∈X,gd R x∈(F++Uu).map (gd R))/\Uu.length<=X.length
 | [],F,h=>⟨[],by rw[aY];rfl,by simp_all,λ f B=>(nomatch B),λ x hx=>(nomatch hx),aj _⟩
 | x::X,F,h=>by
  by_cases hx:gd R x∈F.map (gd R)
  .obtain⟨Uu,e,J,Y,h3,Z⟩:=ao0 X F h;refine⟨Uu,by unfold bA1;rw[ef hx];exact e,J,λ f B=>ah _ (Y f B),λ y hy=>?_,by grind⟩;rcases aB.mp hy with rfl|hy
   .rw[aS];exact bj _ hx
   .exact h3 y hy
  .have hn:((F++[x]).map (gd R)).Nodup:=by rw[aS];exact aq4 h hx
   obtain⟨Uu,e,J,Y,h3,Z⟩:=ao0 X (F++[x]) hn;rw[bo]at e J h3;refine⟨[x]++Uu,by unfold bA1;rw[gc hx];exact e,J,λ f B=>?_,λ y hy=>?_,by simp;omega⟩
   .rcases aZ.mp B with z|z
    .rw[aO.mp z];exact ar ..
    .exact ah _ (Y f z)
   .rcases aB.mp hy with rfl|hy
    .rw[aS,aS];exact aQ _ (bj _ (aO.mpr rfl))
    .exact h3 y hy
structure LawI (m:Mc)(k:Nat)(F H:List (Nat->Nat->Int)):Prop where
 nd:(F.map (gd m.R)).Nodup
 hd:(H.map (gd m.R)).Nodup
 lt:∀ c,97<=c->c<97+m.L->gd m.R (sgM m c)∈H.map (gd m.R)
 sub:∀ x∈H.map (gd m.R),x∈F.map (gd m.R)
 gen:∀ x∈F.map (gd m.R),GnG m.R (λ y=>y∈H.map (gd m.R)) x
 clo:∀ i f h,i<k->F[i]?=al f->h∈H->gd m.R (pr m.R f h)∈F.map (gd m.R)
 shp:∀ i f,i<k->F[i]?=al f->Stdy m.R f->gd m.R (sh m.R f)∈H.map (gd m.R)
 cl:∀ f∈F,ClG m (gd m.R f)
def LawI.all (h:LawI m k F H)(hk:F.length<=k) x :ClG m x↔x∈F.map (gd m.R):=by
 constructor
 .intro hx;refine bC3 h.lt h.sub h.gen (λ a g ha J=>?_) (λ a ha hs=>?_) hx
  .obtain⟨i,f,z,B⟩:=av3 ha;obtain⟨j,g',hj,eg⟩:=av3 J
   skip
   rw[ah9 (ah3 B eg)];exact h.clo i f g' (by grind) z (aE hj)
  .obtain⟨i,f,z,B⟩:=av3 ha
   skip
   rw[ah9 (aM1 B)];exact h.shp i f (by grind) z (av6 B hs)
 .intro hx;obtain⟨f,Uu,rfl⟩:=ao.mp hx;exact h.cl f Uu
set_option tactic.hygienic true in
def LawI.turn (h:LawI m k F H){f:Nat->Nat->Int}(hf:F[k]?=al f)(N:Bool)(hN:N=bY↔Stdy m.R f/\gd m.R (sh m.R f) ∉ H.map (gd m.R))
  (nd:((F++Uu).map (gd m.R)).Nodup) (hU:∀ g∈Uu,g∈H.map (pr m.R f)\/(N=bY/\(g=sh m.R f\/∃ o,o∈F/\g=pr m.R o (sh m.R f))))
  (hX:∀ x∈H.map (pr m.R f),gd m.R x∈(F++Uu).map (gd m.R)) (hS:N=bY->gd m.R (sh m.R f)∈(F++Uu).map (gd m.R)/\∀ i o,i<k+1->F[i]?=al o->gd m.R (pr m.R o (sh m.R f))∈(F++Uu).map (gd m.R)) :
  LawI m (k+1) (F++Uu) (if N=bY then H++[sh m.R f]else H):=by
 have hk:k<F.length:=(ag.mp hf).1;have Z:f∈F:=aE hf;have up:∀ {x:D},x∈F.map (gd m.R)->x∈(F++Uu).map (gd m.R):=λ hx=>by rw[aS];exact bj _ hx
 have Y:∀ {x:D},x∈H.map (gd m.R)->x∈(if N=bY then H++[sh m.R f]else H).map (gd m.R):=λ hx=>by
  split
  .rw[aS];exact bj _ hx
  .exact hx
 have a1:∀ g,g∈(if N=bY then H++[sh m.R f]else H)->g∈H\/(N=bY/\g=sh m.R f):=λ g J=>by
  split at J
  .rename_i hn;rcases aZ.mp J with z|z
   .exact .inl z
   .exact .inr ⟨hn,aO.mp z⟩
  .exact .inl J
 have a0:∀ i g,i<k+1->(F++Uu)[i]?=al g->F[i]?=al g:=λ i g hi J=>by rwa [aD (by lia)]at J
 have a3:∀ g∈H,ClG m (gd m.R g):=λ g J=>by
  obtain⟨g',a2,e⟩:=ao.mp (h.sub _ (ao.mpr ⟨g,J,rfl⟩));rw[<-e];exact h.cl g' a2
 have clS:N=bY->ClG m (gd m.R (sh m.R f)):=λ n=>.sharp f (h.cl f Z) (hN.mp n).1;refine⟨nd,?_,λ c a b=>Y (h.lt c a b),λ x hx=>?_,λ x hx=>?_,λ i g q hi J hq=>?_,λ i g hi J hs=>?_,λ g J=>?_⟩
 .split
  .rename_i hn;rw[aS];exact aq4 h.hd (hN.mp hn).2
  .exact h.hd
 .obtain⟨g,J,rfl⟩:=ao.mp hx;rcases a1 g J with z|⟨n,rfl⟩
  .exact up (h.sub _ (ao.mpr ⟨g,z,rfl⟩))
  .exact(hS n).1
 .obtain⟨g,J,rfl⟩:=ao.mp hx;have gF:∀ o,o∈F->GnG m.R (λ y=>y∈(if N=bY then H++[sh m.R f]else H).map (gd m.R)) (gd m.R o):=λ o ho=>(h.gen _ (ao.mpr ⟨o,ho,rfl⟩)).mono λ _=>Y;rcases aZ.mp J with z|z
  .exact gF g z
  .rcases hU g z with w|⟨n,w⟩
   .obtain⟨q,hq,rfl⟩:=ao.mp w;exact .more (gF f Z) (Y (ao.mpr ⟨q,hq,rfl⟩))
   .have hs:gd m.R (sh m.R f)∈(if N=bY then H++[sh m.R f]else H).map (gd m.R):=by rw[ef n,aS];exact aQ _ (aO.mpr rfl)
    rcases w with rfl|⟨o,ho,rfl⟩
    .exact .Y hs
    .exact .more (gF o ho) hs
 .have B:=a0 i g (by omega) J;rcases a1 q hq with z|⟨n,rfl⟩
  .by_cases hik:i=k
   .simp_all
   .exact up (h.clo i g q (by lia) B z)
  .exact(hS n).2 i g (by omega) B
 .have B:=a0 i g (by omega) J;by_cases hik:i=k
  .grind
  .exact Y (h.shp i g (by omega) B hs)
 .rcases aZ.mp J with z|z
  .exact h.cl g z
  .rcases hU g z with w|⟨n,rfl|⟨o,ho,rfl⟩⟩
   .obtain⟨q,hq,rfl⟩:=ao.mp w;exact .pair f q (h.cl f Z) (a3 q hq)
   .exact clS n
   .exact .pair o _ (h.cl o ho) (clS n)
theorem aw1 {α:Type}(hok:ok u=bY)(E:Env->Prop) a b :∀(l:List α)  U ,E U->(∀ d∈l,∀ U,E U->∃ U',g (a d) U u=.ok (al (b d),U') u/\E U')->qy ok g (l.map a) U u=.ok (l.map b) u
 | [],U,_,_=>by show(if ok u=bY then _ else _)=_;simp_all
 | d::l,U,hE,h=>by
  obtain⟨U',e1,z⟩:=h d (ar ..) U hE;have B:=aw1 hok E a b l U' z λ x hx=>h x (ah _ hx);rw[aR,aR];show(if ok u=bY then _ else _)=_
  simp_all
def bI2:ae3.body=al4:=rfl
structure LcS (s u:Sto)(Ww:Nat)(F H:List (Nat->Nat->Int)):Prop where
 len:s.length+2<=u.length
 p:u[s.length]?=al (.J (F.map (gd Ww)))
 q:u[s.length+1]?=al (.J (H.map (gd Ww)))
 old:∀ i,i<s.length->u[i]?=s[i]?
def LcS.app (h:LcS s u Ww F H) T :LcS s (u++T) Ww F H :=
 ⟨by rw[aM];have:=h.len;lia,ji h.p,ji h.q,λ i z=>by rw[aD (by have:=h.len;lia)];exact h.old i z⟩
def LcS.setp (h:LcS s u Ww F H):LcS s (u.set s.length (.J (F'.map (gd Ww)))) Ww F' H :=
 ⟨by rw[bw];exact h.len,zX (by have:=h.len;lia),by rw[aC (by lia)];exact h.q,λ i z=>by rw[aC (by lia)];exact h.old i z⟩
def LcS.setq (h:LcS s u Ww F H):LcS s (u.set (s.length+1) (.J (H'.map (gd Ww)))) Ww F H' :=
 ⟨by rw[bw];exact h.len,by rw[aC (by lia)];exact h.p,zX (by have:=h.len;lia),λ i z=>by rw[aC (by lia)];exact h.old i z⟩
section
variable {F':Fns}
def ca7 (h:LcS s u Ww F H)(h8:s.length+2<=B)(hX:u[B]?=al (.J (X.map (gd Ww))))(hl:F.length+X.length<=1000) x0 x1 Y x4 x5 x6 x7 Z z  :
  ∃ u' y,ex F' lcF [x0,x1,al (.ref s.length),Y,x4,x5,x6,x7,al (.ref B),Z,z] u=.ok (.next [x0,x1,al (.ref s.length),Y,x4,x5,x6,x7,al (.ref B),Z,y]) u'/\LcS s u' Ww (bA1 Ww F X) H:=by
 have key:∀(X':List (Nat->Nat->Int)) (J:List (Nat->Nat->Int)) (v:Sto) (z:Option D),LcS s v Ww J H->v[B]?=al (.J (X.map (gd Ww)))->J.length+X'.length<=1000->∃ v' y,am0 (λ w=>chk u w [B]) (turn F' (.Y 10) bB1) (X'.map (gd Ww)) [x0,x1,al (.ref s.length),Y,x4,x5,x6,x7,al (.ref B),Z,z] v=.ok (.next [x0,x1,al (.ref s.length),Y,x4,x5,x6,x7,al (.ref B),Z,y]) v'/\LcS s v' Ww (bA1 Ww J X') H:=by
  intro X'
  induction X' with
  | nil =>
   intro J v z hv Uu _;refine⟨v,z,?_,hv⟩;show(if chk u v [B]=bY then _ else _)=_;rw[ef (by unfold chk;simp_all)]
  | cons x X' ih =>
   intro J v z hv Uu a0;rw[aP]at a0;have hok:chk u v [B]=true:=by unfold chk;simp_all
   have hn:=aw6 hv.p x;by_cases hx:gd Ww x∈J.map (gd Ww)
   .rw[ij hx]at hn;refine wl λ _ ua=>?_;obtain⟨v',y,e1,h1⟩:=ih J v (al (gd Ww x)) hv Uu (by lia);refine ua ⟨v',y,?_,by unfold bA1;simp_all⟩;rw[aR];show(if chk u v [B]=bY then(turn F' (.Y 10) bB1 (gd Ww x) _ v).bind _ else _)=_;rw[ef hok];have:turn F' (.Y 10) bB1 (gd Ww x) [x0,x1,al (.ref s.length),Y,x4,x5,x6,x7,al (.ref B),Z,z] v=.ok (.next [x0,x1,al (.ref s.length),Y,x4,x5,x6,x7,al (.ref B),Z,al (gd Ww x)]) v:=by
     unfold turn bB1
     simp_all
    simp_all
   .rw[iF hx]at hn;have ea:=zI (v:=gd Ww x) hv.p (by rw[aw];unfold LIM;lia);have em:J.map (gd Ww)++[gd Ww x]=(J++[x]).map (gd Ww):=by simp_all
    rw[em]at ea;obtain⟨v',y,e1,h1⟩:=ih (J++[x]) (v.set s.length (.J ((J++[x]).map (gd Ww)))) (al (gd Ww x)) hv.setp (by grind) (by grind);refine⟨v',y,?_,by unfold bA1;grind⟩;rw[aR];show(if chk u v [B]=bY then(turn F' (.Y 10) bB1 (gd Ww x) _ v).bind _ else _)=_;rw[ef hok];have:turn F' (.Y 10) bB1 (gd Ww x) [x0,x1,al (.ref s.length),Y,x4,x5,x6,x7,al (.ref B),Z,z] v=.ok (.next [x0,x1,al (.ref s.length),Y,x4,x5,x6,x7,al (.ref B),Z,al (gd Ww x)]) (v.set s.length (.J ((J++[x]).map (gd Ww)))):=by
     unfold turn bB1
     simp only[qu,za,zu,jy,ex_ex,zM,ev_cmp,ev_meth,qd,z5,R.bind_ok,zF,setV_s,qF,zL,zU,Option.map_some,zd,qC,if_true,Bool.not_false,hn,qu,ea]
    rw[this];exact e1
 obtain⟨u',y,e1,h1⟩:=key X F u z h hX hl;refine⟨u',y,?_,h1⟩;unfold lcF;rw[ex_for];have sq:aA0 (.ref B) u=.ok ⟨X.map (gd Ww),[B]⟩ u:=by simp only[aA0,hX]
 simp_all
end
def ci1 {l:List D}{k:Nat}:az8 l aT (al (k))=l.take (min k l.length):=by
 unfold az8;simp only[loB,hiB,sbd,ki,if_true,dZ,d7,kK]
def bc8  a h :ev F (.slU a h) U s=(ev F a U s).bind λ x s=>(ev F h U s).bind λ y s=>match y with|.int i=>slM x aT (al i) s|_=>.B:=rfl
section
variable {P:Pr} [Has P ab6] [Has P ad8]
def cd5  n (J:m<=5){H:List (Nat->Nat->Int)}(hq:u[b]?=al (.J (H.map (gd m))))(hl:H.length<=1000) x0 x1 x2 Y Z x6 x8 Uu z  :
  ev (aa0 P (n+1)) (.mk .list lcL) [x0,x1,x2,al (.ref b),Y,Z,x6,al (gd m f),x8,Uu,z] u=.ok (.ref u.length) (u++[.J ((H.map (pr m f)).map (gd m))]):=by
 have sq:aA0 (.ref b) u=.ok ⟨H.map (gd m),[b]⟩ u:=by simp only[aA0,hq]
 have cm:qy (λ B=>chk u B [b]) (qc (aa0 P (n+1)) (.Y 0) (.call "_law_product" (.ex (.X 1) (.ex (.X 0) .nil)))) (H.map (gd m)) [aT,al (gd m f)] u=.ok (H.map λ h=>gd m (pr m f h)) u :=
  aw1 (by unfold chk;simp) (λ U=>∃ x,U=[x,al (gd m f)]) (gd m) (λ h=>gd m (pr m f h)) H _ ⟨aT,rfl⟩ (by
   rintro h _ U ⟨x,rfl⟩
   refine⟨[al (gd m h),al (gd m f)],?_,_,rfl⟩;unfold qc
   simp only[zM,ev_call,qK,evas_ex,R.bind_ok,zF,qF,zL,zU,aj7 (P:=P) n J f h u])
 unfold lcL
 simp only[zM,ev_mk,evI_seq,R.bind_ok,zL,zU,qR,sq]
 rw[ef (by rw[aw];unfold LIM;lia),show zN [x0,x1,x2,al (.ref b),Y,Z,x6,al (gd m f),x8,Uu,z] [aT,al 7]=[aT,al (gd m f)]from rfl,cm];rw[cz];rfl
def bZ5  n (Uu:m<=5){ k:Nat}{F:List (Nat->Nat->Int)}(hp:u[p]?=al (.J (F.map (gd m))))(hl:F.length<=1000) x0 x1 Y Z x5 x7 x8 B  :
  ev (aa0 P (n+1)) (.mk .list lcM) [x0,x1,al (.ref p),Y,Z,x5,al (.int (k:Int)),x7,x8,al (gd m f),B] u=.ok (.ref (u.length+1)) (u++[.J ((F.take (k+1)).map (gd m)),.J (((F.take (k+1)).map λ o=>pr m o f).map (gd m))]):=by
 have sl:slM (.ref p) aT (al ((k+1:Nat):Int)) u=.ok (.ref u.length) (u++[.J ((F.take (k+1)).map (gd m))]):=by
  unfold slM;simp only[hp];rw[ci1,l7,show ∀ l:List D,l.take (min (k+1) l.length)=l.take (k+1)from λ l=>by simp_all];rfl
 have sq:aA0 (.ref u.length) (u++[.J ((F.take (k+1)).map (gd m))])=.ok ⟨(F.take (k+1)).map (gd m),[u.length]⟩ (u++[.J ((F.take (k+1)).map (gd m))]):=by simp only[aA0,bx8]
 have cm:qy (λ J=>chk (u++[.J ((F.take (k+1)).map (gd m))]) J [u.length]) (qc (aa0 P (n+1)) (.Y 0) (.call "_law_product" (.ex (.X 0) (.ex (.X 1) .nil)))) ((F.take (k+1)).map (gd m)) [aT,al (gd m f)] (u++[.J ((F.take (k+1)).map (gd m))])=.ok ((F.take (k+1)).map λ h=>gd m (pr m h f)) (u++[.J ((F.take (k+1)).map (gd m))]) :=
  aw1 (by unfold chk;simp) (λ U=>∃ x,U=[x,al (gd m f)]) (gd m) (λ h=>gd m (pr m h f)) (F.take (k+1)) _ ⟨aT,rfl⟩ (by
   rintro h _ U ⟨x,rfl⟩
   refine⟨[al (gd m h),al (gd m f)],?_,_,rfl⟩;unfold qc
   simp only[zM,ev_call,qK,evas_ex,R.bind_ok,zF,qF,zL,zU,aj7 (P:=P) n Uu h f (u++[.J ((F.take (k+1)).map (gd m))])])
 unfold lcM
 simp only[zM,ev_cst,ev_bin,ev_mk,evI_seq,Cn_int,R.bind_ok,zL,zU,add_int,qR,bc8]
 rw[show(k:Int)+1=((k+1:Nat):Int)by lia,sl]
 simp only[R.bind_ok,sq]
 rw[ef (by rw[aw,bR];unfold LIM;lia),show zN [x0,x1,al (.ref p),Y,Z,x5,al (.int (k:Int)),x7,x8,al (gd m f),B] [aT,al 9]=[aT,al (gd m f)]from rfl,cm];rw[cz];show R.ok _ _=_;rw[aM,bo];rfl
end
def aZ9 (Ww k:Nat)(F H:List (Nat->Nat->Int))(f:Nat->Nat->Int)(N:Bool):List (Nat->Nat->Int):=H.map (pr Ww f)++(if N=bY then sh Ww f::(F.take (k+1)).map (λ o=>pr Ww o (sh Ww f))else[])
section
variable {P:Pr} [Has P ab6] [Has P ad8]
def bN9  n (a0:Ww<=5)(h:LcS s u Ww F H)(hf:F[k]?=al f)(hl:F.length<=80)(c0:H.length<=80) x0 x1 Y Uu x7 x8 Z J  nx  :
  ∃(N:Bool) (u':Sto) (a8:Nat) (y9:Option D),(N=bY↔Stdy Ww f/\gd Ww (sh Ww f) ∉ H.map (gd Ww))/\s.length+2<=a8/\u'[a8]?=al (.J ((aZ9 Ww k F H f N).map (gd Ww)))/\LcS s u' Ww F (if N=bY then H++[sh Ww f]else H) /\
  exs (aa0 P (n+1)) (.cons (.A (.Y 7) (.ix (.X 2) (.X 6))) (.cons (.A (.Y 8) (.mk .list lcL)) (.cons (.ite lcT lcS .nil) nx))) [x0,x1,al (.ref s.length),al (.ref (s.length+1)),Y,Uu,al (.int (k:Int)),x7,x8,Z,J] u=exs (aa0 P (n+1)) nx [x0,x1,al (.ref s.length),al (.ref (s.length+1)),Y,Uu,al (.int (k:Int)),al (gd Ww f),al (.ref a8),y9,J] u':=by
 have b4:ixM (.ref s.length) (.int (k:Int)) u=.ok (gd Ww f) u:=au6 h.p (by simp_all);have e2:=cd5 (P:=P) n a0 (f:=f) h.q (by lia) x0 x1 (al (.ref s.length)) Y Uu (al (.int (k:Int))) x8 Z J;generalize hA:(H.map (pr Ww f)).map (gd Ww)=A at e2;have h1:=h.app [.J A];have c3:u.length=(u++[O.J A]).length - 1:=by simp
 have g8:(u++[O.J A])[u.length]?=al (.J A):=bx8;have a2:s.length+2<=u.length:=h.len;have b0:exs (aa0 P (n+1)) (.cons (.A (.Y 7) (.ix (.X 2) (.X 6))) (.cons (.A (.Y 8) (.mk .list lcL)) (.cons (.ite lcT lcS .nil) nx))) [x0,x1,al (.ref s.length),al (.ref (s.length+1)),Y,Uu,al (.int (k:Int)),x7,x8,Z,J] u=exs (aa0 P (n+1)) (.cons (.ite lcT lcS .nil) nx) [x0,x1,al (.ref s.length),al (.ref (s.length+1)),Y,Uu,al (.int (k:Int)),al (gd Ww f),al (.ref u.length),Z,J] (u++[.J A]):=by
  have s7:ex (aa0 P (n+1)) (.A (.Y 7) (.ix (.X 2) (.X 6))) [x0,x1,al (.ref s.length),al (.ref (s.length+1)),Y,Uu,al (.int (k:Int)),x7,x8,Z,J] u=.ok (.next [x0,x1,al (.ref s.length),al (.ref (s.length+1)),Y,Uu,al (.int (k:Int)),al (gd Ww f),x8,Z,J]) u:=by simp only[ex_asg,zM,ev_ix,R.bind_ok,zF,setV_s,qF,zL,zU,Option.map_some,qB,b4]
  have s8:ex (aa0 P (n+1)) (.A (.Y 8) (.mk .list lcL)) [x0,x1,al (.ref s.length),al (.ref (s.length+1)),Y,Uu,al (.int (k:Int)),al (gd Ww f),x8,Z,J] u=.ok (.next [x0,x1,al (.ref s.length),al (.ref (s.length+1)),Y,Uu,al (.int (k:Int)),al (gd Ww f),al (.ref u.length),Z,J]) (u++[.J A]):=by rw[ex_asg,e2,R.bind_ok];rfl
  rw[za,s7,R.bind_ok,zd,za,s8,R.bind_ok,zd]
 rw[b0];generalize b1:u++[O.J A]=u1 at h1 g8;have b5:u1.length=u.length+1:=by rw[<-b1];simp
 obtain⟨b,eb,hb⟩:=cb9 (s:=u1) (m:=Ww) (f:=pr Ww f f) (g:=f);have hT:ev (aa0 P (n+1)) lcT [x0,x1,al (.ref s.length),al (.ref (s.length+1)),Y,Uu,al (.int (k:Int)),al (gd Ww f),al (.ref u.length),Z,J] u1=.ok (.T b) u1:=by
  unfold lcT
  simp only[zM,ev_cmp,ev_call,qK,evas_ex,R.bind_ok,zL,zU,aj7 (P:=P) n a0 f f u1,eb]
 by_cases hs:Stdy Ww f
 .have b3:b=true:=hb.mpr hs;subst b3;have e9:=bp5 (P:=P) n a0 f u1;have hn:=aw6 h1.q (sh Ww f);by_cases hq:gd Ww (sh Ww f)∈H.map (gd Ww)
  .rw[ij hq]at hn;refine⟨ce,u1,u.length,al (gd Ww (sh Ww f)),⟨λ z=>(by cases z),λ z=>iS hq z.2⟩,a2,?_,h1,?_⟩
   .rw[g8,<-hA];unfold aZ9;simp
   .rw[za,jy,hT,qC];unfold lcS
    simp only[qu,za,zu,ex_asg,jy,ex_ex,zM,ev_cmp,ev_call,ev_meth,qd,z5,qK,evas_ex,R.bind_ok,zF,setV_s,qF,zL,zU,Option.map_some,qB,zd,qC,if_true,if_false,Bool.false_eq_true,Bool.not_true,e9,hn]
  .rw[iF hq]at hn;have ea:=zI (v:=gd Ww (sh Ww f)) h1.q (by rw[aw];unfold LIM;lia);have em:H.map (gd Ww)++[gd Ww (sh Ww f)]=(H++[sh Ww f]).map (gd Ww):=by rw[aS];rfl
   rw[em]at ea;have h2:LcS s (u1.set (s.length+1) (.J ((H++[sh Ww f]).map (gd Ww)))) Ww F (H++[sh Ww f]):=h1.setq;have a3:(u1.set (s.length+1) (.J ((H++[sh Ww f]).map (gd Ww))))[u.length]?=al (.J A):=by grind
   generalize c1:u1.set (s.length+1) (.J ((H++[sh Ww f]).map (gd Ww)))=u2 at ea h2 a3;have c2:A.length=H.length:=by rw[<-hA];simp
   have a4:=aQ3 (s:=u2++[.J [gd Ww (sh Ww f)]]) (a:=u.length) (b:=u2.length) (l:=A) (m:=[gd Ww (sh Ww f)]) (ji a3) bx8 (by simp;unfold LIM;lia);generalize a1:u2++[O.J [gd Ww (sh Ww f)]]++[O.J (A++[gd Ww (sh Ww f)])]=u4 at a4;have h4:LcS s u4 Ww F (H++[sh Ww f]):=by rw[<-a1];exact(h2.app _).app _
   have g4:u4[(u2++[O.J [gd Ww (sh Ww f)]]).length]?=al (.J (A++[gd Ww (sh Ww f)])):=by rw[<-a1];exact bx8
   have e5:=bZ5 (P:=P) n a0 (k:=k) (f:=sh Ww f) h4.p (by lia) x0 x1 (al (.ref (s.length+1))) Y Uu (al (gd Ww f)) (al (.ref u.length)) J;generalize hB:((F.take (k+1)).map λ o=>pr Ww o (sh Ww f)).map (gd Ww)=B at e5;generalize hC:(F.take (k+1)).map (gd Ww)=Cc at e5;have b6:B.length<=80:=by grind
   have b2:=aQ3 (s:=u4++[.J Cc,.J B]) (a:=(u2++[O.J [gd Ww (sh Ww f)]]).length) (b:=u4.length+1) (l:=A++[gd Ww (sh Ww f)]) (m:=B) (ji g4) (by rw[ay (by lia)];simp) (by simp;unfold LIM;lia);refine⟨bY,u4++[.J Cc,.J B]++[.J (A++[gd Ww (sh Ww f)]++B)],(u4++[O.J Cc,.J B]).length,al (gd Ww (sh Ww f)),⟨λ _=>⟨hs,hq⟩,λ _=>rfl⟩,?_,?_,(h4.app _).app _,?_⟩
   .have:=h4.len;rw[aM];lia
   .rw[bx8,<-hA,<-hB];unfold aZ9;simp
   .rw[za,jy,hT,qC];unfold lcS;have a5:∀(K:M D),((ev (aa0 P (n+1)) (.mk .list lcM) [x0,x1,al (.ref s.length),al (.ref (s.length+1)),Y,Uu,al (.int (k:Int)),al (gd Ww f),al (.ref u.length),al (gd Ww (sh Ww f)),J] u4).bind λ y s=>al8 .add (.ref (u2++[O.J [gd Ww (sh Ww f)]]).length) y s)=.ok (.ref (u4++[O.J Cc,.J B]).length) (u4++[.J Cc,.J B]++[.J (A++[gd Ww (sh Ww f)]++B)]):=λ _=>by rw[e5,R.bind_ok,b2]
    have e8:ev (aa0 P (n+1)) (.G .add (.G .add (.X 8) (.J (.cons (.X 9) .nil))) (.mk .list lcM)) [x0,x1,al (.ref s.length),al (.ref (s.length+1)),Y,Uu,al (.int (k:Int)),al (gd Ww f),al (.ref u.length),al (gd Ww (sh Ww f)),J] u2=.ok (.ref (u4++[O.J Cc,.J B]).length) (u4++[.J Cc,.J B]++[.J (A++[gd Ww (sh Ww f)]++B)]):=by
     have i1:ev (aa0 P (n+1)) (.G .add (.X 8) (.J (.cons (.X 9) .nil))) [x0,x1,al (.ref s.length),al (.ref (s.length+1)),Y,Uu,al (.int (k:Int)),al (gd Ww f),al (.ref u.length),al (gd Ww (sh Ww f)),J] u2=.ok (.ref (u2++[O.J [gd Ww (sh Ww f)]]).length) u4:=by
      simp only[zM,ev_bin,ev_lst,qd,z5,R.bind_ok,zL,zU,alloc_eq,a4]
     rw[ev_bin,i1,R.bind_ok,a5 (λ s=>.B)]
    have sA:ex (aa0 P (n+1)) (.A (.Y 9) (.call "_law_sharp" (.ex (.X 7) .nil))) [x0,x1,al (.ref s.length),al (.ref (s.length+1)),Y,Uu,al (.int (k:Int)),al (gd Ww f),al (.ref u.length),Z,J] u1=.ok (.next [x0,x1,al (.ref s.length),al (.ref (s.length+1)),Y,Uu,al (.int (k:Int)),al (gd Ww f),al (.ref u.length),al (gd Ww (sh Ww f)),J]) u1:=by simp only[ex_asg,zM,ev_call,qK,evas_ex,R.bind_ok,zF,setV_s,qF,zL,zU,Option.map_some,qB,e9]
    have sN:ev (aa0 P (n+1)) (.Z .notin (.X 9) (.X 3)) [x0,x1,al (.ref s.length),al (.ref (s.length+1)),Y,Uu,al (.int (k:Int)),al (gd Ww f),al (.ref u.length),al (gd Ww (sh Ww f)),J] u1=.ok (.T bY) u1:=by simp only[zM,ev_cmp,R.bind_ok,zL,zU,Bool.not_false,hn]
    have sM:ex (aa0 P (n+1)) (.ex (.me .append (.X 3) (.cons (.X 9) .nil))) [x0,x1,al (.ref s.length),al (.ref (s.length+1)),Y,Uu,al (.int (k:Int)),al (gd Ww f),al (.ref u.length),al (gd Ww (sh Ww f)),J] u1=.ok (.next [x0,x1,al (.ref s.length),al (.ref (s.length+1)),Y,Uu,al (.int (k:Int)),al (gd Ww f),al (.ref u.length),al (gd Ww (sh Ww f)),J]) u2:=by simp only[qu,ex_ex,zM,ev_meth,qd,z5,R.bind_ok,zL,zU,qu,ea]
    have s8:ex (aa0 P (n+1)) (.A (.Y 8) (.G .add (.G .add (.X 8) (.J (.cons (.X 9) .nil))) (.mk .list lcM))) [x0,x1,al (.ref s.length),al (.ref (s.length+1)),Y,Uu,al (.int (k:Int)),al (gd Ww f),al (.ref u.length),al (gd Ww (sh Ww f)),J] u2=.ok (.next [x0,x1,al (.ref s.length),al (.ref (s.length+1)),Y,Uu,al (.int (k:Int)),al (gd Ww f),al (.ref (u4++[O.J Cc,.J B]).length),al (gd Ww (sh Ww f)),J]) (u4++[.J Cc,.J B]++[.J (A++[gd Ww (sh Ww f)]++B)]):=by rw[ex_asg,e8,R.bind_ok];rfl
    rw[ef rfl,za,sA,R.bind_ok,zd,za,jy,sN,qC,ef rfl,za,sM,R.bind_ok,zd,za,s8,R.bind_ok,zd,zu,R.bind_ok,zd,zu,R.bind_ok,zd]
 .have a6:b=false:=by cases b with|true=>exact iS (hb.mp rfl) hs|false=>rfl
  subst a6;refine⟨ce,u1,u.length,Z,⟨λ z=>(by cases z),λ z=>iS z.1 hs⟩,a2,?_,h1,?_⟩
  .rw[g8,<-hA];unfold aZ9;simp
  .rw[za,jy,hT,qC]
   simp only[zu,R.bind_ok,zd,if_false,Bool.false_eq_true]
end
def aT8 (h:∀ i,i<s.length->u[i]?=s[i]?)(z:s.length<u.length)(ho:u[s.length]?=al o)(hb:o.bnd s.length=bY):ab7 s (.ref s.length) u=.ok (.ref s.length) (s++[o]):=by
 obtain⟨G,rfl⟩:=bg6 (by lia) h;unfold ab7;rw[ef (ai5 s G)];simp only[bP,if_false,ho,hb,if_true];rw[List.take_left]
section
variable {P:Pr} [Has P ab6] [Has P ad8]
theorem lcw  n (hm:m.Ok) x0 J Y :∀ h k   F H   u   x7 x8 x9 B ,81<=h+k->LcS s u m.R F H->LawI m k F H->k<=F.length->F.length<=1000 ->
  ∃(F' H':List (Nat->Nat->Int)) (u':Sto) (y6 y7 y8 y9 a0:Option D),whl (ev (aa0 P (n+1)) lcC) (exs (aa0 P (n+1)) lcB) [x0,al (.int 80),al (.ref s.length),al (.ref (s.length+1)),J,Y,al (.int (k)),x7,x8,x9,B] u=.ok (.next [x0,al (.int 80),al (.ref s.length),al (.ref (s.length+1)),J,Y,y6,y7,y8,y9,a0]) u'/\LcS s u' m.R F' H'/\(F'.map (gd m.R)).Nodup/\(∀ f∈F',ClG m (gd m.R f))/\F'.length<=1000/\(F'.length<=80->∀ x,ClG m x↔x∈F'.map (gd m.R))
 | h,k,F,H,u,x7,x8,x9,B,hf,hL,hI,hk,h1=>by
  have el:bi .len [.ref s.length] u=.ok (.int F.length) u:=by rw[jD hL.p,aw]
  have hc:ev (aa0 P (n+1)) lcC [x0,al (.int 80),al (.ref s.length),al (.ref (s.length+1)),J,Y,al (.int (k:Int)),x7,x8,x9,B] u=.ok (.T (decide (k<F.length)&&decide (F.length<=80))) u:=by
   unfold lcC
   simp only[zM,ev_cmp,ev_and,ev_bi,qd,z5,R.bind_ok,zL,zU,lt_int,le_int,qC,el]
   have q1:decide ((k:Int)<(F.length:Int))=decide (k<F.length):=by rw[decide_eq_decide];omega
   have q2:decide ((F.length:Int)<=80)=decide (F.length<=80):=by rw[decide_eq_decide];lia
   rw[q1,q2];cases decide (k<F.length)<;>rfl
  by_cases hlt:k<F.length/\F.length<=80
  .rw[ij hlt.1,ij hlt.2]at hc;refine wl λ _ ua=>?_;obtain⟨f,a2⟩:∃ f,F[k]?=al f:=⟨_,au hlt.1⟩
   have b5:=by
    have:=aS2 hI.hd hI.sub
    rwa [aw,aw]at this
   obtain⟨N,u1,a8,y9,hN,h8,g8,b0,e1⟩:=bN9 (P:=P) n hm.R5 hL a2 hlt.2 (by lia) x0 (al (.int 80)) J Y x7 x8 x9 B (.cons lcF (.cons (.A (.Y 6) (.G .add (.X 6) (.K (.int 1)))) .nil))
   refine ua ?_;match h,hf with
   | 0,hf=>omega
   | h+1,hf =>
    have b4:(aZ9 m.R k F H f N).length<=300:=by
     unfold aZ9;rw[aM,aw];split
     .rw[aP,aw,bR];lia
     .simp;lia
    refine wl λ _ ua=>?_;obtain⟨u2,y,e2,a1⟩:=ca7 (F':=aa0 P (n+1)) b0 h8 g8 (by lia) x0 (al (.int 80)) (al (.ref (s.length+1))) J Y (al (.int (k))) (al (gd m.R f)) y9 B;obtain⟨Uu,eU,b2,a3,Z,b3⟩:=ao0 (aZ9 m.R k F H f N) F hI.nd;rw[eU]at a1;have b1:=hI.turn a2 N hN b2 (λ g hg=>by
     have:=a3 g hg;unfold aZ9 at this;rcases aZ.mp this with z|z
     .exact .inl z
     .cases N with
      | false=>cases z
      | true =>
       refine .inr ⟨rfl,?_⟩;rcases aB.mp z with z|z
       .exact .inl z
       .obtain⟨o,ho,rfl⟩:=ao.mp z;exact .inr ⟨o,fM ho,rfl⟩) (λ x hx=>Z x (by unfold aZ9;exact bj _ hx)) (λ hn=>by
     subst hn;refine⟨Z _ (by unfold aZ9;exact aQ _ (ar ..)),λ i o hi ho=>Z _ ?_⟩;unfold aZ9;refine aQ _ (ah _ (ao.mpr ⟨o,?_,rfl⟩));exact aE (by rw[db hi];exact ho))
    have hb:exs (aa0 P (n+1)) lcB [x0,al (.int 80),al (.ref s.length),al (.ref (s.length+1)),J,Y,al (.int (k:Int)),x7,x8,x9,B] u=.ok (.next [x0,al (.int 80),al (.ref s.length),al (.ref (s.length+1)),J,Y,al (.int ((k+1:Nat):Int)),al (gd m.R f),al (.ref a8),y9,y]) u2:=by
     have a6:ex (aa0 P (n+1)) (.A (.Y 6) (.G .add (.X 6) (.K (.int 1)))) [x0,al (.int 80),al (.ref s.length),al (.ref (s.length+1)),J,Y,al (.int (k:Int)),al (gd m.R f),al (.ref a8),y9,y] u2=.ok (.next [x0,al (.int 80),al (.ref s.length),al (.ref (s.length+1)),J,Y,al (.int ((k+1:Nat):Int)),al (gd m.R f),al (.ref a8),y9,y]) u2:=by
      simp only[ex_asg,zM,ev_cst,ev_bin,Cn_int,R.bind_ok,zF,setV_s,qF,zL,zU,Option.map_some,qB,add_int]
      rw[show(k:Int)+1=((k+1:Nat):Int)by lia]
     unfold lcB;rw[e1,za,e2,R.bind_ok,zd,za,a6,R.bind_ok,zd,zu]
    obtain⟨F',H',u',y6,y7,y8,a5,a0,w1,w2⟩:=lcw n hm x0 J Y h (k+1) (F++Uu) _ u2 (al (gd m.R f)) (al (.ref a8)) y9 y (by lia) a1 b1 (by rw[aM];lia) (by rw[aM];lia);exact ua ⟨F',H',u',y6,y7,y8,a5,a0,by rw[aQ1 hc hb];exact w1,w2⟩
  .have a4:(decide (k<F.length)&&decide (F.length<=80))=false:=by
    rw[Bool.and_eq_false_iff];by_cases z:k<F.length
    .exact .inr (iF λ y=>hlt ⟨z,y⟩)
    .exact .inl (iF z)
   rw[a4]at hc;exact⟨F,H,u,_,_,_,_,_,bh4 hc,hL,hI.nd,hI.cl,h1,λ h80 x=>hI.all (by by_cases z:k<F.length;exact iS ⟨z,h80⟩ hlt;lia) x⟩
end
def bH5 {L }(h:(([97,98,99]:List Nat).take L |>.map λ c=>D.str [c])[j]?=al d):j<L/\d=.str [97+j]:=by
 have e:(([97,98,99]).take L |>.map λ c=>D.str [c])=aF2.take L:=by rw[l7];rfl
 rw[e]at h;obtain⟨_,a,b⟩:=abc_at h;exact⟨a,b⟩
section
variable {P:Pr} [Has P ab6] [Has P ad8] [Has P ac5]
def bX5  n (hm:m.Ok)(hL:LcS s u m.R [] []) x1 x4 x5 x6 x7 x8 x9 B  :
  ∃(F:List (Nat->Nat->Int)) (u':Sto) (Z y5:Option D),ex (aa0 P (n+1)) lcI [al m.d,x1,al (.ref s.length),al (.ref (s.length+1)),x4,x5,x6,x7,x8,x9,B] u=.ok (.next [al m.d,x1,al (.ref s.length),al (.ref (s.length+1)),Z,y5,x6,x7,x8,x9,B]) u'/\LcS s u' m.R F F/\LawI m 0 F F/\F.length<=3:=by
 have a2:=hm.L3;have a3:=hm.L1;have sl:slM (.str [97,98,99]) aT (al (m.L:Int)) u=.ok (.str (([97,98,99]:List Nat).take m.L)) u:=by
  show R.ok (D.str (az8 [97,98,99] aT (al (m.L:Int)))) u=_
  congr 2
  unfold az8;simp only[hiB,kK];rcases(by lia:m.L=1\/m.L=2\/m.L=3)with z|z|z<;>rw[z]<;>rfl
 refine wl λ _ ua=>?_;obtain⟨U',u',e1,h⟩:=jj (g:=turn (aa0 P (n+1)) (.Y 4) (.cons (.A (.Y 5) (.call "_law_letter_signs" (.ex (.X 0) (.ex (.X 4) .nil)))) (.cons (.ite (.Z .notin (.X 5) (.X 2)) (.cons (.ex (.me .append (.X 2) (.cons (.X 5) .nil))) (.cons (.ex (.me .append (.X 3) (.cons (.X 5) .nil))) .nil)) .nil) .nil))) (λ j U t=>∃ F   Z y5 ,U=[al m.d,x1,al (.ref s.length),al (.ref (s.length+1)),Z,y5,x6,x7,x8,x9,B]/\LcS s t m.R F F/\(F.map (gd m.R)).Nodup/\F.length<=j/\(∀ i,i<j->gd m.R (sgM m (97+i))∈F.map (gd m.R))/\∀ f∈F,∃ c,97<=c/\c<97+m.L/\f=sgM m c)
  ((([97,98,99]).take m.L).map λ c=>.str [c]) 0 [al m.d,x1,al (.ref s.length),al (.ref (s.length+1)),x4,x5,x6,x7,x8,x9,B] u ⟨[],x4,x5,rfl,hL,gm,aj _,λ i Uu=>iS Uu (cH _),λ f Y=>(nomatch Y)⟩ (λ _ _ _ _ _=>rfl) (by
  rintro j d U t hj ⟨F,Z,y5,rfl,hc,nd,hF,hall,J⟩
  rw[bN]at hF hall ⊢;obtain⟨a1,rfl⟩:=bH5 hj;have e5:=ap7 (P:=P) n hm (97+j) t;have hn:=aw6 hc.p (sgM m (97+j));by_cases hx:gd m.R (sgM m (97+j))∈F.map (gd m.R)
  .rw[ij hx]at hn;refine⟨_,t,.inl ?_,F,al (.str [97+j]),al (gd m.R (sgM m (97+j))),rfl,hc,nd,by omega,λ i Uu=>?_,J⟩
   .unfold turn
    simp only[qu,za,zu,ex_asg,jy,ex_ex,zM,ev_cmp,ev_call,ev_meth,qd,z5,qK,evas_ex,R.bind_ok,zF,setV_s,qF,zL,zU,Option.map_some,qB,zd,qC,if_false,Bool.false_eq_true,Bool.not_true,e5,hn]
   .by_cases hij:i=j
    .rw[hij];exact hx
    .exact hall i (by lia)
  .rw[iF hx]at hn;have ea:=zI (v:=gd m.R (sgM m (97+j))) hc.p (by rw[aw];unfold LIM;lia);have em:F.map (gd m.R)++[gd m.R (sgM m (97+j))]=(F++[sgM m (97+j)]).map (gd m.R):=by rw[aS];rfl
   rw[em]at ea;have h2:LcS s (t.set s.length (.J ((F++[sgM m (97+j)]).map (gd m.R)))) m.R (F++[sgM m (97+j)]) F:=hc.setp;have eb:=zI (v:=gd m.R (sgM m (97+j))) h2.q (by rw[aw];unfold LIM;omega);rw[em]at eb;refine⟨_,_,.inl ?_,F++[sgM m (97+j)],al (.str [97+j]),al (gd m.R (sgM m (97+j))),rfl,h2.setq,by rw[aS];exact aq4 nd hx,by rw[aM,cD];lia,λ i Uu=>?_,λ f Y=>?_⟩
   .unfold turn
    simp only[qu,za,zu,ex_asg,jy,ex_ex,zM,ev_cmp,ev_call,ev_meth,qd,z5,qK,evas_ex,R.bind_ok,zF,setV_s,qF,zL,zU,Option.map_some,qB,zd,qC,if_true,Bool.not_false,e5,hn,qu,ea,eb]
   .rw[aS];by_cases hij:i=j
    .rw[hij];exact aQ _ (aO.mpr rfl)
    .exact bj _ (hall i (by omega))
   .rcases aZ.mp Y with z|z
    .exact J f z
    .exact⟨97+j,by lia,by omega,aO.mp z⟩)
 obtain⟨F,Z,y5,rfl,hc,nd,hF,hall,J⟩:=h;have a0:0+((([97,98,99]:List Nat).take m.L).map λ c=>D.str [c]).length=m.L:=by
  rw[aw,bR];show 0+min m.L 3=m.L;lia
 rw[a0]at hF hall;refine ua ⟨F,u',Z,y5,?_,hc,⟨nd,nd,λ c h1 h2=>?_,λ x hx=>hx,λ x hx=>?_,λ i f h Uu=>iS Uu (cH _),λ i f Uu=>iS Uu (cH _),λ f Y=>?_⟩,by lia⟩
 .unfold lcI;rw[ex_for]
  simp only[zM,ev_cst,ev_ix,evI_seq,Cn_int,Cn_str,R.bind_ok,zL,bc8,ixL]
  rw[sl]
  simp only[R.bind_ok,show aA0 (D.str (([97,98,99]:List Nat).take m.L)) u=.ok ⟨(([97,98,99]:List Nat).take m.L).map λ c=>.str [c],[]⟩ u from rfl]
  exact e1
 .have:=hall (c - 97) (by omega)
  rwa [show 97+(c - 97)=c by omega]at this
 .obtain⟨f,Y,rfl⟩:=ao.mp hx;exact .Y (ao.mpr ⟨f,Y,rfl⟩)
 .obtain⟨c,h1,h2,rfl⟩:=J f Y;exact .let_ c h1 h2
def bs8 [Has P ae3] n {m}(Uu:m.Ok) s :∃ F:List (Nat->Nat->Int),(aa0 P (n+2)).call "_law_closed" [m.d,.int 80] s=.ok (.ref s.length) (s++[.J (F.map (gd m.R))])/\(F.map (gd m.R)).Nodup/\(∀ f∈F,ClG m (gd m.R f))/\F.length<=1000/\(F.length<=80->∀ x,ClG m x↔x∈F.map (gd m.R)):=by
 have Z:(aa0 P (n+2)).call "_law_closed" [m.d,.int 80] s=_:=zl ae3 rfl;rw[bI2,show(bL al [m.d,D.int 80]++aA ae3.vs aT)=[al m.d,al (.int 80),aT,aT,aT,aT,aT,aT,aT,aT,aT]from rfl]at Z;have B:LcS s (s++[.J [],.J []]) m.R [] []:=⟨by simp,by simp_all,by simp_all,λ i hi=>aD hi⟩
 refine wl λ _ ua=>?_;obtain⟨Y,u1,h,z,a1,h1,i1,l1⟩:=bX5 (P:=P) n Uu B (al (.int 80)) aT aT aT aT aT aT aT;obtain⟨F,H,u2,z6,z7,z8,z9,a0,a2,J,nd,cl,l2,hall⟩:=lcw (P:=P) n Uu (al m.d) h z 81 0 Y Y u1 aT aT aT aT (by lia) h1 i1 (cq _) (by lia);refine ua ⟨F,?_,nd,cl,l2,hall⟩;have b1:ex (aa0 P (n+1)) (.A (.Y 2) (.J .nil)) [al m.d,al (.int 80),aT,aT,aT,aT,aT,aT,aT,aT,aT] s=.ok (.next [al m.d,al (.int 80),al (.ref s.length),aT,aT,aT,aT,aT,aT,aT,aT]) (s++[.J []]):=by simp_all
 have b2:ex (aa0 P (n+1)) (.A (.Y 3) (.J .nil)) [al m.d,al (.int 80),al (.ref s.length),aT,aT,aT,aT,aT,aT,aT,aT] (s++[.J []])=.ok (.next [al m.d,al (.int 80),al (.ref s.length),al (.ref (s.length+1)),aT,aT,aT,aT,aT,aT,aT]) (s++[.J [],.J []]):=by
  simp_all
 have b3:ex (aa0 P (n+1)) (.A (.Y 6) (.K (.int 0))) [al m.d,al (.int 80),al (.ref s.length),al (.ref (s.length+1)),h,z,aT,aT,aT,aT,aT] u1=.ok (.next [al m.d,al (.int 80),al (.ref s.length),al (.ref (s.length+1)),h,z,al (.int ((0:Nat):Int)),aT,aT,aT,aT]) u1:=by simp_all
 rw[Z,za,b1,R.bind_ok,zd,za,b2,R.bind_ok,zd,za,a1,R.bind_ok,zd,za,b3,R.bind_ok,zd,za,ex_whl,a2,R.bind_ok,zd]
 simp only[za,ex_ret,zM,R.bind_ok,zL,zU,qX,je]
 exact aT8 J.old (by have:=J.len;lia) J.p (zt (λ d hd n=>by obtain⟨f,_,rfl⟩:=ao.mp hd;exact ah5 n) _)
end
def bO4 {T F:List (Nat->Nat->Int)}(h:(T.map (gd m.R)).Nodup)(B:∀ x,ClG m x↔x∈T.map (gd m.R))(J:(F.map (gd m.R)).Nodup)(z:∀ x,ClG m x↔x∈F.map (gd m.R)):T.length=F.length:=by
 have:=cl6 h J λ x=>(B x).symm.trans (z x)
 simp_all
def bM0 {T F:List (Nat->Nat->Int)}(z:∀ x,ClG m x↔x∈T.map (gd m.R))(B:(F.map (gd m.R)).Nodup)(h:∀ f∈F,ClG m (gd m.R f)):F.length<=T.length:=by
 have:=aS2 B λ x hx=>by
  obtain⟨f,J,rfl⟩:=ao.mp hx;exact(z _).mp (h f J)
 simp_all
def bN6 { F:List (Nat->Nat->Int)}(h:bl2 m T)(J:∀ x,ClG m x↔x∈F.map (gd m.R)):80<F.length:=by
 obtain⟨nd,Z,hc,g,Uu,B⟩:=h;have:=aS2 (aq4 nd B) λ x hx=>by
  rcases aZ.mp hx with z|z
  .obtain⟨f,Y,rfl⟩:=ao.mp z;exact(J _).mp (hc f Y)
  .rw[aO.mp z];exact(J _).mp Uu
 rw[aM,aw,aw,cD]at this;lia
def bE2:al3.body=aK5:=rfl
def WdS (s:Sto)(r a c k:Nat)(u:Sto):Prop:=∃(b:Int) (l:List Dr),(∀ d∈l,d.Ok ⟨a,c,[],[],[]⟩)/\l.length=k/\u=s.set r (jI b)++[.J (l.map Dr.d)]
def aD1 {s:Sto}:(s.set r (jI b)++[o])[s.length]?=al o:=by rw[ay (by simp)];simp
section
variable {P:Pr} [Has P af4]
def aW2 {l:List Dr}(z:∀ d∈l,d.Ok ⟨a,c,[],[],[]⟩)(hk:l.length=k){x:Dr}(hx:x.Ok ⟨a,c,[],[],[]⟩):WdS s r a c (k+1) (s.set r (jI b)++[.J (l.map Dr.d++[x.d])]):=by
 refine⟨b,l++[x],λ d hd=>?_,by simp[hk],by rw[aS];rfl⟩;rcases aZ.mp hd with h|h
 .exact z d h
 .rw[aO.mp h];exact hx
def bR0  n (hr:r<s.length)(a1:1<=c)(hc:c<=5)(hk:k<1000)(h:WdS s r a c k u)(hp:p<a)(hj:j<c) x1 Y x8 J  :
  ∃ B   y8 ,exs (aa0 P (n+1)) wdA [al (.ref r),x1,al (.int (a)),al (.int (c)),al (.ref s.length),Y,al (.str [97+p]),al (.int (j)),x8,J] u=.ok (.next [al (.ref r),x1,al (.int (a)),al (.int (c)),al (.ref s.length),Y,al (.str [97+p]),al (.int (j)),y8,J]) B/\WdS s r a c (k+1) B:=by
 refine wl λ _ ua=>?_;obtain⟨b,l,hl,z,rfl⟩:=h;obtain⟨k1,c1,Z,f1⟩:=jE (P:=P) n (t:=[.J (l.map Dr.d)]) hr b (c) (by lia) (ar3 (by lia));obtain⟨Uu,c2,a0,f2⟩:=jE (P:=P) n (t:=[.J (l.map Dr.d)]) hr c1 2 (by decide) (by decide);have ha:=bg9 (s:=s) (r:=r) (b:=c2) (t:=[]) (l:=l.map Dr.d) (v:=.tp [.int (j:Int),.str [97+p],.int (k1:Int),.int (Uu:Int)]) (by rw[aw];unfold LIM;lia);refine ua ⟨_,al (.int (k1)),?_,aW2 (x:=⟨j,97+p,k1,Uu⟩) (b:=c2) hl z ⟨hj,⟨by simp,by simp;omega⟩,by simp;lia,by lia⟩⟩;unfold wdA
 simp only[za,zu,ex_asg,ex_ex,zM,ev_cst,ev_tup,ev_call,ev_meth,qd,z5,qK,evas_ex,Cn_int,R.bind_ok,zF,setV_s,qF,zL,zU,Option.map_some,qB,zd,f1,f2,bf7 (aD1 ) (aD1 ),ha]
 rfl
def bW7  n (hr:r<s.length)(a0:1<=c)(hc:c<=5)(ha:a<=3)(hk:k<900)(h:WdS s r a c k u)(hp:p<a) x1 x6 x7 Z J  :
  ∃ Uu   B z ,exs (aa0 P (n+1)) wdI [al (.ref r),x1,al (.int (a)),al (.int (c)),al (.ref s.length),al (.int (p)),x6,x7,Z,J] u=.ok (.next [al (.ref r),x1,al (.int (a)),al (.int (c)),al (.ref s.length),al (.int (p)),al (.str [97+p]),B,z,J]) Uu/\WdS s r a c (k+c) Uu:=by
 refine wl λ _ ua=>?_;obtain⟨U',Uu,e1,B,z,rfl,h2⟩:=jj (ok:=λ w=>chk u w []) (g:=turn (aa0 P (n+1)) (.Y 7) wdA) (λ j U t=>∃ B z ,U=[al (.ref r),x1,al (.int (a)),al (.int (c)),al (.ref s.length),al (.int (p)),al (.str [97+p]),B,z,J]/\WdS s r a c (k+j) t)
  (ag2 0 (c)) 0 [al (.ref r),x1,al (.int (a)),al (.int (c)),al (.ref s.length),al (.int (p)),al (.str [97+p]),x7,Z,J] u ⟨x7,Z,rfl,h⟩ (λ _ _ _ _ _=>rfl) (by
  rintro j d U t hj ⟨B,z,rfl,ht⟩
  rw[bN]at ht ⊢;obtain⟨a1,rfl⟩:=qO hj;rw[fy];obtain⟨t',z8,e,Y⟩:=bR0 (P:=P) n hr a0 hc (by lia) ht hp (j:=j) (by lia) x1 (al (.int (p:Int))) z J;exact⟨_,t',.inl e,_,z8,rfl,by rw[<-cU];exact Y⟩)
 rw[bN,zy]at h2;refine ua ⟨Uu,B,z,?_,h2⟩;unfold wdI
 simp -implicitDefEqProofs only[za,ex_asg,ex_for,zM,ev_cst,ev_ix,qI,Cn_str,R.bind_ok,zF,setV_s,qF,zL,zU,Option.map_some,qB,zd,bA0 (show p<3 by lia)]
 rw[zC (by unfold Ww62;lia) (by unfold Ww62;lia)]
 simp_all
def ca6  n (hr:r<s.length)(a0:1<=a)(ha:a<=3)(a5:1<=c)(hc:c<=5)(hk:k<1000)(h:WdS s r a c k u) x1 Uu x6 x7 x8 J  :
  ∃ B   Z y7 y8 ,exs (aa0 P (n+1)) wdT [al (.ref r),x1,al (.int (a)),al (.int (c)),al (.ref s.length),Uu,x6,x7,x8,J] u=.ok (.next [al (.ref r),x1,al (.int (a)),al (.int (c)),al (.ref s.length),Uu,Z,y7,y8,J]) B/\WdS s r a c (k+1) B:=by
 refine wl λ _ ua=>?_;obtain⟨b,l,hl,z,rfl⟩:=h;obtain⟨k1,c1,a2,f1⟩:=jE (P:=P) n (t:=[.J (l.map Dr.d)]) hr b (c) (by lia) (ar3 (by lia));obtain⟨k2,c2,a1,f2⟩:=jE (P:=P) n (t:=[.J (l.map Dr.d)]) hr c1 (c) (by lia) (ar3 (by lia));obtain⟨k3,c3,a3,f3⟩:=jE (P:=P) n (t:=[.J (l.map Dr.d)]) hr c2 (a) (by lia) (ar3 (by lia));obtain⟨Y,c4,a4,f4⟩:=jE (P:=P) n (t:=[.J (l.map Dr.d)]) hr c3 2 (by decide) (by decide);have ha:=bg9 (s:=s) (r:=r) (b:=c4) (t:=[]) (l:=l.map Dr.d) (v:=.tp [.int (k1:Int),.str [97+k3],.int (k2:Int),.int (Y:Int)]) (by rw[aw];unfold LIM;lia);refine ua ⟨_,al (.str [97+k3]),al (.int (k1:Int)),al (.int (k2:Int)),?_,aW2 (x:=⟨k1,97+k3,k2,Y⟩) (b:=c4) hl z ⟨by lia,⟨by simp,by lia⟩,by lia,by lia⟩⟩;unfold wdT
 simp only[za,zu,ex_asg,ex_ex,zM,ev_cst,ev_tup,ev_ix,ev_call,ev_meth,qd,z5,qK,evas_ex,Cn_int,Cn_str,R.bind_ok,zF,setV_s,qF,zL,zU,Option.map_some,qB,zd,f1,f2,f3,f4,bA0 (show k3<3 by lia),bf7 (aD1 (s:=s) (r:=r) (b:=c3) (o:=.J (l.map Dr.d))) (aD1 (s:=s) (r:=r) (b:=c4) (o:=.J (l.map Dr.d))),ha]
 rfl
def bL9 [Has P al3] n {s}{r}(hs:∃ b,s[r]?=al (jI b)){k}(a4:1<=k)(a5:k<=3):McB s r ((aa0 P (n+2)).call "_law_wide" [.ref r,.int k] s):=by
 have e0:(aa0 P (n+2)).call "_law_wide" [.ref r,.int k] s=_:=zl al3 rfl;rw[bE2,show(bL al [D.ref r,D.int k]++aA al3.vs aT)=[al (.ref r),al (.int k),aT,aT,aT,aT,aT,aT,aT,aT]from rfl]at e0;have hr:=bA8 hs;refine wl λ _ ua=>?_;obtain⟨a,b1,ha,e1⟩:=aG6 (P:=P) n hs 2 (by decide) (by decide);obtain⟨c,b2,hc,e2⟩:=aG6 (P:=P) n (aY9 (b:=b1) hr) k (by lia) (ar3 (by lia));rw[mG]at e2;have ca:(2:Int)+(a:Int)=((a+2:Nat):Int):=by lia
 have cc:(3:Int)+(c:Int)=((c+3:Nat):Int):=by lia
 have h0:WdS s r (a+2) (c+3) 0 (s.set r (jI b2)++[.J []]):=⟨b2,[],λ d hd=>(nomatch hd),rfl,rfl⟩
 obtain⟨U1,u1,f1,h,B,z,Y,rfl,h1⟩:=jj (ok:=λ w=>chk (s.set r (jI b2)++[.J []]) w []) (g:=turn (aa0 P (n+1)) (.Y 5) wdI) (λ j U t=>∃(h B z Y:Option D),U=[al (.ref r),al (.int k),al (.int (a+2:Nat)),al (.int (c+3:Nat)),al (.ref s.length),Y,h,B,z,aT]/\WdS s r (a+2) (c+3) (j*(c+3)) t)
  (ag2 0 ((a+2:Nat):Int)) 0 [al (.ref r),al (.int k),al (.int (a+2:Nat)),al (.int (c+3:Nat)),al (.ref s.length),aT,aT,aT,aT,aT] (s.set r (jI b2)++[.J []]) ⟨aT,aT,aT,aT,rfl,by rw[Nat.zero_mul];exact h0⟩ (λ _ _ _ _ _=>rfl) (by
  rintro j d U t hj ⟨h,B,z,Y,rfl,ht⟩
  rw[bN]at ht ⊢;obtain⟨a1,rfl⟩:=qO hj;rw[fy];have a2:j<3:=by lia
  have hm:j*(c+3)<=3*5:=lQ (by omega) (by lia);obtain⟨t',z7,z8,e,Uu⟩:=bW7 (P:=P) n hr (by lia) (by omega) (by lia) (by omega) ht (p:=j) (by lia) (al (.int k)) h B z aT;exact⟨_,t',.inl e,_,z7,z8,_,rfl,by rw[Nat.succ_mul];exact Uu⟩)
 rw[bN,zy]at h1;obtain⟨b3,J,a0,a6,rfl⟩:=h1;have a3:(a+2)*(c+3)<=3*5:=lQ (by lia) (by lia);obtain⟨q,b4,hq,e4⟩:=jE (P:=P) n (t:=[.J (J.map Dr.d)]) hr b3 6 (by decide) (by decide);have h4:WdS s r (a+2) (c+3) J.length (s.set r (jI b4)++[.J (J.map Dr.d)]):=⟨b4,J,a0,rfl,rfl⟩
 obtain⟨U2,u2,f2,z6,z7,z8,z9,rfl,h5⟩:=jj (ok:=λ w=>chk (s.set r (jI b4)++[.J (J.map Dr.d)]) w []) (g:=turn (aa0 P (n+1)) (.Y 9) wdT) (λ j U t=>∃(h B z y9:Option D),U=[al (.ref r),al (.int k),al (.int (a+2:Nat)),al (.int (c+3:Nat)),al (.ref s.length),Y,h,B,z,y9]/\WdS s r (a+2) (c+3) (J.length+j) t)
  (ag2 0 (q:Int)) 0 [al (.ref r),al (.int k),al (.int (a+2:Nat)),al (.int (c+3:Nat)),al (.ref s.length),Y,h,B,z,aT] (s.set r (jI b4)++[.J (J.map Dr.d)]) ⟨h,B,z,aT,rfl,h4⟩ (λ _ _ _ _ _=>rfl) (by
  rintro j d U t hj ⟨x6,x7,x8,x9,rfl,ht⟩
  rw[bN]at ht ⊢;obtain⟨a1,rfl⟩:=qO hj;obtain⟨t',w6,w7,w8,e,Uu⟩:=ca6 (P:=P) n hr (by lia) (by lia) (by lia) (by lia) (by omega) ht (al (.int k)) Y x6 x7 x8 (al (.int (0+(j:Int))));exact⟨_,t',.inl e,w6,w7,w8,_,rfl,by rw[<-cU];exact Uu⟩)
 rw[bN,zy]at h5;obtain⟨b6,l,hl,Z,rfl⟩:=h5;refine ua ⟨⟨a+2,c+3,[0],[0,c+2],l⟩,b6,⟨by simp,by simp;lia,by simp,by simp;lia,⟨λ x hx=>?_,List.pairwise_singleton _ _⟩,⟨λ x hx=>?_,?_⟩,⟨λ x hx=>?_,by rw[Z];lia⟩⟩,?_⟩
 .rw[aO.mp hx];simp
 .simp only[aB,dA,or_false]at hx;rcases hx with rfl|rfl<;>simp
 .simp
 .have:=hl x hx;exact⟨this.a,this.l,this.b,this.t⟩
 .rw[e0]
  simp -implicitDefEqProofs only[za,ex_asg,ex_for,zM,ev_cst,ev_bin,ev_lst,ev_call,qd,qK,evas_ex,qI,Cn_int,R.bind_ok,zF,setV_s,qF,zL,zU,Option.map_some,qB,zd,add_int,alloc_eq,e1,ca,e2,cc,bw]
  rw[zC (by unfold Ww62;lia) (by unfold Ww62;lia)]
  simp -implicitDefEqProofs only[R.bind_ok]
  rw[f1]
  simp -implicitDefEqProofs only[za,ex_for,zM,ev_cst,ev_call,qK,evas_ex,qI,Cn_int,R.bind_ok,zL,zd,e4]
  rw[zC (by unfold Ww62;lia) (by unfold Ww62;lia)]
  simp -implicitDefEqProofs only[R.bind_ok]
  rw[f2];have cd:((c+3:Nat):Int) - 1=((c+2:Nat):Int):=by lia
  simp -implicitDefEqProofs only[za,ex_ret,zM,ev_cst,ev_bin,ev_tup,ev_mk,qd,z5,evL_seq,Cn_int,R.bind_ok,zL,zU,zd,qX,je,sub_int,cd,aP0 (aD1 (s:=s) (r:=r) (b:=b6) (o:=.J (l.map Dr.d))),bh9]
  exact aC6 (bY0 ⟨a+2,c+3,[0],[0,c+2],l⟩) (by nofun) rfl
end
noncomputable def ad9:Tf:=⟨1,0,(.cons (.ret (.bi .len (.cons (.call "closed" (.ex (.X 0) .nil)) .nil))) .nil),.lenc "closed" (.ex (.X 0) .nil), "TooMuch",0,.rnn,.nil,.nil⟩
def bV6:ae1.body=an8:=rfl
def bi4 :evI F (.rng3 a b c) U s=(ev F a U s).bind λ x s=>(ev F b U s).bind λ y s=>match x,y with|.int i,.int j=>if c=2/\(0<=i/\i<1048576)/\0<=j/\j<1048576 then .ok ⟨bl3 i j c,[]⟩ s else .B|_,_=>.B:=rfl
def cj6 {b:Nat}(h:b<=3):∀ d∈bl3 0 (b) 2,∃ k:Nat,k<=2/\d=.int (k):=by
 intro d hd;unfold bl3 at hd;rw[ef (by decide)]at hd;obtain⟨k,hk,rfl⟩:=ao.mp hd;have hk:=bE.mp hk;exact⟨2*k,by lia,by push_cast;rw[fy]⟩
section
variable {P:Pr} [HasM P "ClosedSet" "take" aa3] [HasC P "MOST_TABLES" (.int 80)] [HasMX P "ClosedSet" "take" ae9] [Has P ad3] [Has P aa7] [HasL P aa2] [Has P ab5] [Has P ac2] [Has P ac3] [HasL P ab1] [HasC P "FREE" (.int 0)] [HasC P "UNBOUND" (.int 2)] [HasC P "NONE" (.int 3)]
 [HasM P "ClosedSet" "take_sharp" aa5] [HasMX P "ClosedSet" "take_sharp" af0] [HasM P "ClosedSet" "take_pairs" aa4] [HasMX P "ClosedSet" "take_pairs" ae7]
 [HasM P "ClosedSet" "__init__" aa9] [HasA P "ClosedSet" ah0] [HasA P "ClosedSet" as3] [HasA P "ClosedSet" am4]
 [HasC P "SOME" (.int 1)] [Has P ad5] [Has P ad6] [HasL P ac7] [Has P ad7] [Has P ae0] [Has P ac4] [Has P ac1] [Has P aa8] [HasL P aa6] [Has P ae2] [HasL P ac0] [Has P ac9] [HasL P ab2] [Has P ab4] [Has P ac6]
 [Has P ac8] [HasC P "LETTERS" (.tp aF2)] [Has P af1] [HasX P "closed" ae6]
def told35_ok [HasT P "_law_told" ad9][hE:HasE P "TooMuch" []] n {m}(z:m.Ok){s}(hs:s.all O.ncl=bY) :
  (∃ T:List (Nat->Nat->Int),(aa0 P (n+8)).call "_law_told" [m.d] s=.ok (.int T.length) s/\(T.map (gd m.R)).Nodup/\T.length<=80/\∀ x,ClG m x↔x∈T.map (gd m.R)) \/
  ((aa0 P (n+8)).call "_law_told" [m.d] s=.ok .N s/\∃ T,bl2 m T):=by
 have h:(aa0 P (n+8)).call "_law_told" [m.d] s=_:=bL6 ad9 (n:=n+7) rfl;rw[h,bu4 rfl,show(bL al [m.d]++aA ad9.vs aT)=[al m.d]from rfl];unfold bt2;rw[show xB (aa0 P (n+7)) ad9.xb [al m.d] s=(aa0 P (n+7)).xcall "closed" [m.d] s from rfl];rcases closed_any (P:=P) (ts:=[]) n z hs with⟨L,T,e1,x1,hk,nd,h80,hall⟩|⟨s',x1,hO,G,rfl⟩
 .rw[x1];refine .inl ⟨T,?_,nd,h80,hall⟩;have B:bi .len [.tp (L.map Stp.d)] s=.ok (.int T.length) s:=by rw[aX6,aw,hk.len]
  have e2:exs (aa0 P (n+7)) ad9.body [al m.d] s=.ok (.ret (.int T.length)) s:=by
   show exs (aa0 P (n+7)) (.cons (.ret (.bi .len (.cons (.call "closed" (.ex (.X 0) .nil)) .nil))) .nil) _ _=_
   simp only[za,ex_ret,zM,ev_call,ev_bi,qd,z5,qK,evas_ex,R.bind_ok,zL,qX,e1,B]
  show(exs (aa0 P (n+7)) ad9.body [al m.d] s).bind _=_;rw[e2];exact zq (λ _=>rfl) (by nofun)
 .rw[x1];refine .inr ⟨?_,hO⟩;show(if ad9.tk "TooMuch"=bY/\(aa0 P (n+7)).xc "TooMuch"=bY/\Hd.ok (aa0 P (n+7)).xt .rnn=bY/\Hd.kok (aa0 P (n+7)).kd .rnn=bY then Hd.out .rnn "TooMuch" s (s++G)else .B)=_;rw[ef ⟨rfl,by rw[bX3.1];exact hE.at_,rfl,rfl⟩];exact zG (λ _=>rfl) (by nofun)
def cl5 [HasT P "_law_told" ad9][hE:HasE P "TooMuch" []][Has P aq8][Has P af4][Has P ab6][Has P ad8][Has P ac5][Has P ae3][Has P al3][Has P ae1] n :co7 P (n+9):=by
 intro ns hl;have e0:(aa0 P (n+9)).call "law" [.ref 0] [.ro (ns.map D.int)]=_:=zl ae1 rfl;rw[e0,bV6,show(bL al [D.ref 0]++aA ae1.vs aT)=[al (.ref 0),aT,aT,aT]from rfl];have a0:([.ro (ns.map D.int)]:Sto)[0]?=al (.ro (ns.map D.int)):=rfl;have Y:bi .len [.ref 0] [.ro (ns.map D.int)]=.ok (.int ns.length) [.ro (ns.map D.int)]:=by rw[bz3 a0,aw]
 have hk:(if(ns.length:Int)<2 then(ns.length:Int)else 2)+1=((min ns.length 2+1:Nat):Int):=by lia
 simp -implicitDefEqProofs only[za,ex_for,zM,ev_cst,ev_bin,ev_bi,qd,z5,Cn_int,R.bind_ok,zL,add_int,bi4,Y,aL4,hk]
 rw[ef ⟨trivial,⟨by decide,by decide⟩,by lia,by omega⟩];simp only[R.bind_ok];rw[R.bind_assoc];refine aU0 (Ww:=Yes) (λ j U t=>t[0]?=al (.ro (ns.map D.int))/\t.all O.ncl=bY/\∃ x1 x2 B,U=[al (.ref 0),x1,x2,B]) (λ d _=>d=.T bY) ⟨rfl,by
   simp only[dN,mB,fI];exact bv6,_,_,_,rfl⟩ (λ _ _ _ _ _=>rfl) ?_ ?_ ?_
 .rintro j d U t hj ⟨ht,hn,x1,x2,B,rfl⟩
  refine wl λ _ ua=>?_;obtain⟨k,a2,rfl⟩:=cj6 (by omega) d (aE hj);have a3:0<t.length:=(ag.mp ht).1;obtain⟨N0,z⟩:=bU3 (P:=P) (n+7) ns k ht;have G0:Gx ns t.length (t++[jI N0]):=⟨ji ht,qG hn rfl,⟨_,bx8⟩,by lia⟩
  generalize t++[jI N0]=S at z G0;generalize t.length=r at z G0;obtain⟨m,b1,hm,em⟩:=bL9 (P:=P) (n+6) G0.box (k:=3 - (k:Int)) (by lia) (by lia);have G1:=G0.put b1;generalize S.set r (jI b1)=Uu at em G1;obtain⟨F,ec,nd,fc,_,hall⟩:=bs8 (P:=P) (n+6) hm Uu;have Z:=G1.snoc (show(O.J (F.map (gd m.R))).ncl=bY from zx λ d hd=>by obtain⟨f,_,rfl⟩:=ao.mp hd;exact an5);have el:bi .len [.ref Uu.length] (Uu++[O.J (F.map (gd m.R))])=.ok (.int F.length) (Uu++[O.J (F.map (gd m.R))]):=by rw[jD bx8,aw]
  generalize Uu++[O.J (F.map (gd m.R))]=S2 at ec el Z;have c1:ev (aa0 P (n+8)) (.Z .gt (.ix (.X 2) (.K (.int 1))) (.K (.int 3))) [al (.ref 0),al (.int (k:Int)),al m.d,aT] S2=.ok (.T (decide ((3:Int)<(m.R:Int)))) S2:=by
   simp -implicitDefEqProofs only[zM,ev_cst,ev_cmp,ev_ix,Cn_int,R.bind_ok,zL,zU,gt_int,ixR]
  have J:∀ B:Option D,NR (λ U t=>t[0]?=al (.ro (ns.map D.int))/\t.all O.ncl=bY/\∃ x1 x2 B,U=[al (.ref 0),x1,x2,B]) (λ d _=>d=.T bY) (exs (aa0 P (n+8)) (.cons (.ite (.Z .gt (.ix (.X 2) (.K (.int 1))) (.K (.int 3))) (.cons (.ret (.K (.T bY))) .nil) .nil) .nil) [al (.ref 0),al (.int (k:Int)),al m.d,B] S2):=λ B=>by
   by_cases h:(3:Int)<(m.R:Int)
   .refine bS9 (d:=.T bY) (s:=S2) ?_ rfl
    simp -implicitDefEqProofs only[za,zu,jy,ex_ret,zM,ev_cst,ev_cmp,ev_ix,Cn_bl,Cn_int,R.bind_ok,zL,zU,qX,gt_int,qC,if_true,ixR,ij h]
   .refine bK5 (U:=[al (.ref 0),al (.int (k:Int)),al m.d,B]) (s:=S2) ?_ ⟨Z.scr,Z.ncl,_,_,_,rfl⟩
    simp -implicitDefEqProofs only[za,zu,jy,ex_ret,zM,ev_cst,ev_cmp,ev_ix,Cn_bl,Cn_int,R.bind_ok,zL,zU,zd,qX,gt_int,qC,if_false,Bool.false_eq_true,ixR,iF h]
  refine ua ?_;by_cases h80:F.length<=80
  .rcases told35_ok (P:=P) n hm Z.ncl with⟨T,et,tn,_,ta⟩|⟨_,T,hO⟩
   .have a1:=bO4 tn ta nd (hall h80);have e:turn (aa0 P (n+8)) (.Y 1) bY7 (.int (k:Int)) [al (.ref 0),x1,x2,B] t=exs (aa0 P (n+8)) (.cons (.ite (.Z .gt (.ix (.X 2) (.K (.int 1))) (.K (.int 3))) (.cons (.ret (.K (.T bY))) .nil) .nil) .nil) [al (.ref 0),al (.int (k:Int)),al m.d,al (.int (F.length:Int))] S2:=by
     unfold turn bY7;have g1:decide ((80:Int)<(F.length:Int))=false:=iF (by lia)
     simp -implicitDefEqProofs only[za,zu,ex_asg,jy,ex_ret,zM,ev_cst,ev_bin,ev_cmp,ev_ix,ev_call,ev_bi,qd,z5,qK,evas_ex,Cn_bl,Cn_int,Cn_non,R.bind_ok,zF,setV_s,qF,zL,zU,Option.map_some,qB,zd,qX,sub_int,gt_int,ne_int,qC,if_false,Bool.false_eq_true,decide_true,Bool.not_true,z,em,ec,el,g1,et,a1]
    rw[e];exact J _
   .have:=bN6 hO (hall h80);lia
  .rcases told35_ok (P:=P) n hm Z.ncl with⟨T,et,tn,t80,ta⟩|⟨et,_⟩
   .have:=bM0 ta nd fc;lia
   .have e:turn (aa0 P (n+8)) (.Y 1) bY7 (.int (k:Int)) [al (.ref 0),x1,x2,B] t=exs (aa0 P (n+8)) (.cons (.ite (.Z .gt (.ix (.X 2) (.K (.int 1))) (.K (.int 3))) (.cons (.ret (.K (.T bY))) .nil) .nil) .nil) [al (.ref 0),al (.int (k:Int)),al m.d,al .N] S2:=by
     unfold turn bY7;have g1:decide ((80:Int)<(F.length:Int))=true:=ij (by lia);have g2:js .ne .N .N S2=.ok (.T ce) S2:=rfl
     simp -implicitDefEqProofs only[za,zu,ex_asg,jy,ex_ret,zM,ev_cst,ev_bin,ev_cmp,ev_ix,ev_call,ev_bi,qd,z5,qK,evas_ex,Cn_bl,Cn_int,Cn_non,R.bind_ok,zF,setV_s,qF,zL,zU,Option.map_some,qB,zd,qX,sub_int,gt_int,qC,if_true,if_false,Bool.false_eq_true,z,em,ec,el,g1,et,g2]
    rw[e];exact J _
 .rintro U t ⟨ht,hn,x1,x2,B,rfl⟩
  simp -implicitDefEqProofs only[za,ex_ret,ev_cst,Cn_bl,R.bind_ok,zd,qX,je]
  exact aA2 _ _
 .rintro d t rfl
  exact aA2 _ _
end
end DV
end
noncomputable section
namespace My
open PySem L2
noncomputable def top (i:Nat):Stmt:=PySem.Challenge.pw_leasttolls_k35_closed_sets_too_great.main.body.getD i (.Pass ⟨0,0,0,0⟩)
def bQ4:bg0 ["i", "j"]:=λ params h _ _ _ _ _ _ _ _ us B=>by
 obtain⟨args,rfl,ha⟩:=ao5 h;revert us;refine bd2 ?_;intro z u1;rcases args with _|⟨⟨a0,_,_⟩,_|⟨⟨a1,_,_⟩,_|⟨_,_⟩⟩⟩
 all_goals simp only[aR,fk,List.cons.injEq,and_true,and_false,reduceCtorEq]at ha
 obtain⟨rfl,rfl⟩:=ha;exact⟨rfl,λ _ _=>rfl⟩
noncomputable def af7:List Str:=["plain", "product", "letter_table", "reading", "sign_product", "sharpened"]
abbrev s_letters_of:Stmt:=top 6
abbrev at7:Stmt:=top 7
abbrev av4:Stmt:=top 8
abbrev bz2:Stmt:=top 10
abbrev bi7:Stmt:=top 12
abbrev ba0:Stmt:=top 13
abbrev bf9:Stmt:=top 14
abbrev aD3:Stmt:=top 15
abbrev s_letter_table:Stmt:=top 16
abbrev ak3:Stmt:=top 17
abbrev aE8:Stmt:=top 23
abbrev aD6:Stmt:=top 24
abbrev ag3:Stmt:=top 25
abbrev ak9:Stmt:=top 26
abbrev an4:Stmt:=top 28
abbrev av0:Stmt:=top 29
abbrev ap3:Stmt:=top 30
abbrev ah4:Stmt:=top 34
abbrev av2:Stmt:=top 36
abbrev aq2:Stmt:=top 37
abbrev ag4:Stmt:=top 38
abbrev s__law_letter_signs:Stmt:=top 39
abbrev ak6:Stmt:=top 40
abbrev ai6:Stmt:=top 41
abbrev ar6:Stmt:=top 42
abbrev ag6:Stmt:=top 43
abbrev aB1:Stmt:=top 44
noncomputable def bq3:Stmt->List Stmt|.ClassDef _ _ _ b _ _ _ _ _ _ _=>b|_=>[]
abbrev ae8:Stmt:=(bq3 (top 33)).getD 0 (.Pass ⟨0,0,0,0⟩)
abbrev ad4:Stmt:=(bq3 (top 33)).getD 1 (.Pass ⟨0,0,0,0⟩)
abbrev ab9:Stmt:=(bq3 (top 33)).getD 2 (.Pass ⟨0,0,0,0⟩)
abbrev ab8:Stmt:=(bq3 (top 33)).getD 3 (.Pass ⟨0,0,0,0⟩)
def mtb:List ((String×String)×n8×Stmt):=[(("ClosedSet", "__init__"),DV.aa9,ae8),(("ClosedSet", "take"),DV.aa3,ad4),(("ClosedSet", "take_sharp"),DV.aa5,ab9),(("ClosedSet", "take_pairs"),DV.aa4,ab8)]
def mxb:List ((String×String)×oO×Stmt):=[(("ClosedSet", "take"),DV.ae9,ad4),(("ClosedSet", "take_sharp"),DV.af0,ab9),(("ClosedSet", "take_pairs"),DV.ae7,ab8)]
noncomputable def obt:List (String×List (List Nat)):=[("ClosedSet",[[115,116,101,112,115],[116,97,98,108,101,115],[115,101,101,110]])]
def tb:List (String×n8×Stmt):=[("letters_of",DV.ac8,s_letters_of),("rooms_of",DV.ac4,at7),("doors_of",DV.ac1,av4),("grid",DV.ad3,bz2),("least",DV.ad7,bi7),("added",DV.ae0,ba0),("plain",DV.ae2,bf9),("product",DV.ac9,aD3),("letter_table",DV.aa8,s_letter_table),("word_table",DV.ab4,ak3),("sign_of",DV.ad5,aE8),("reading",DV.ad6,aD6),("sign_product",DV.aa7,ag3),("word_signs",DV.ac6,ak9),("is_steady",DV.ab5,an4),("round_of",DV.ac2,av0),("sharpened",DV.ac3,ap3),("closed",DV.af1,ah4),("_law_box",DV.aq8,av2),("_law_draw",DV.af4,aq2),("_law_product",DV.ab6,ag4),("_law_letter_signs",DV.ac5,s__law_letter_signs),("_law_sharp",DV.ad8,ak6),("_law_closed",DV.ae3,ai6),("_law_wide",DV.al3,ar6),("law",DV.ae1,aB1)]
noncomputable def co3:List (String×ng):=[("LETTERS",.tp [.str [97],.str [98],.str [99]]),("FREE",.int (0)),("SOME",.int (1)),("UNBOUND",.int (2)),("NONE",.int (3)),("MOST_TABLES",.int (80))]
def ct3:List (String×oN):=[("plain.0",DV.ac0),("product.0",DV.ab2),("letter_table.least_fee",DV.aa6),("reading.0",DV.ac7),("sign_product.0",DV.aa2),("sharpened.0",DV.ab1)]
noncomputable def tbl:List (String×n8):=tb.map λ p=>(p.1,p.2.1)
def xtb:List (String×oO):=[("closed",DV.ae6)]
def ttb:List (String×pM):=[("_law_told",DV.ad9)]
def dl:List (String×Stmt):=[("closed",ah4),("_law_told",ag6)]
noncomputable def xcs:List String:=["TooMuch"]
noncomputable def xts:List String:=[]
noncomputable def P:nB:=⟨λ f=>tbl.lookup f,λ f=>ct3.lookup f,λ x=>co3.lookup x,λ f=>xtb.lookup f,λ f=>ttb.lookup f,λ c=>xcs.contains c,λ c=>xts.contains c,λ _=>aT,λ c m=>(mtb.lookup (c,m)).map (·.1),λ c f=>(obt.lookup c).any λ l=>l.contains f,λ c m=>(mxb.lookup (c,m)).map (·.1)⟩
instance:DV.HasX P "closed" DV.ae6:=⟨rfl⟩
instance:DV.HasT P "_law_told" DV.ad9:=⟨rfl,rfl⟩
instance:DV.HasE P "TooMuch" []:=⟨rfl,by decide⟩
instance:DV.HasL P DV.ac0:=⟨rfl⟩
instance:DV.HasL P DV.ab2:=⟨rfl⟩
instance:DV.HasL P DV.aa6:=⟨rfl⟩
instance:DV.HasL P DV.ac7:=⟨rfl⟩
instance:DV.HasL P DV.aa2:=⟨rfl⟩
instance:DV.HasL P DV.ab1:=⟨rfl⟩
instance:DV.HasC P "LETTERS" (.tp [.str [97],.str [98],.str [99]]):=⟨rfl⟩
instance:DV.HasC P "FREE" (.int (0)):=⟨rfl⟩
instance:DV.HasC P "SOME" (.int (1)):=⟨rfl⟩
instance:DV.HasC P "UNBOUND" (.int (2)):=⟨rfl⟩
instance:DV.HasC P "NONE" (.int (3)):=⟨rfl⟩
instance:DV.HasC P "MOST_TABLES" (.int (80)):=⟨rfl⟩
instance:DV.Has P DV.ac8:=⟨rfl⟩
instance:DV.Has P DV.ac4:=⟨rfl⟩
instance:DV.Has P DV.ac1:=⟨rfl⟩
instance:DV.Has P DV.ad3:=⟨rfl⟩
instance:DV.Has P DV.ad7:=⟨rfl⟩
instance:DV.Has P DV.ae0:=⟨rfl⟩
instance:DV.Has P DV.ae2:=⟨rfl⟩
instance:DV.Has P DV.ac9:=⟨rfl⟩
instance:DV.Has P DV.aa8:=⟨rfl⟩
instance:DV.Has P DV.ab4:=⟨rfl⟩
instance:DV.Has P DV.ad5:=⟨rfl⟩
instance:DV.Has P DV.ad6:=⟨rfl⟩
instance:DV.Has P DV.aa7:=⟨rfl⟩
instance:DV.Has P DV.ac6:=⟨rfl⟩
instance:DV.Has P DV.ab5:=⟨rfl⟩
instance:DV.Has P DV.ac2:=⟨rfl⟩
instance:DV.Has P DV.ac3:=⟨rfl⟩
instance:DV.Has P DV.af1:=⟨rfl⟩
instance:DV.Has P DV.aq8:=⟨rfl⟩
instance:DV.Has P DV.af4:=⟨rfl⟩
instance:DV.Has P DV.ab6:=⟨rfl⟩
instance:DV.Has P DV.ac5:=⟨rfl⟩
instance:DV.Has P DV.ad8:=⟨rfl⟩
instance:DV.Has P DV.ae3:=⟨rfl⟩
instance:DV.Has P DV.al3:=⟨rfl⟩
instance:DV.Has P DV.ae1:=⟨rfl⟩
instance:DV.HasM P "ClosedSet" "__init__" DV.aa9:=⟨rfl⟩
instance:DV.HasM P "ClosedSet" "take" DV.aa3:=⟨rfl⟩
instance:DV.HasM P "ClosedSet" "take_sharp" DV.aa5:=⟨rfl⟩
instance:DV.HasM P "ClosedSet" "take_pairs" DV.aa4:=⟨rfl⟩
instance:DV.HasMX P "ClosedSet" "take" DV.ae9:=⟨rfl⟩
instance:DV.HasMX P "ClosedSet" "take_sharp" DV.af0:=⟨rfl⟩
instance:DV.HasMX P "ClosedSet" "take_pairs" DV.ae7:=⟨rfl⟩
instance:DV.HasA P "ClosedSet" DV.ah0:=⟨by decide⟩
instance:DV.HasA P "ClosedSet" DV.as3:=⟨by decide⟩
instance:DV.HasA P "ClosedSet" DV.am4:=⟨by decide⟩
def jr:DTM "ClosedSet" "__init__" DV.aa9 ae8:=⟨["self"],["self"],Zsc,rfl,rfl,λ _ _ _ _ _ _=>bd1 (λ _=>rfl),by decide +kernel⟩
def al7:DTM "ClosedSet" "take" DV.aa3 ad4:=⟨["self", "step", "signs"],["self", "step", "signs"],Zsc,rfl,rfl,λ _ _ _ _ _ _=>bd3 (λ _ _ _=>rfl),by decide +kernel⟩
def qW:DTM "ClosedSet" "take_sharp" DV.aa5 ab9:=⟨["self", "at"],["self", "at"],Zsc,rfl,rfl,λ _ _ _ _ _ _=>bd2 (λ _ _=>rfl),by decide +kernel⟩
def qV:DTM "ClosedSet" "take_pairs" DV.aa4 ab8:=⟨["self", "at", "other"],["self", "at"],Zsc,rfl,rfl,λ _ _ _ _ _ _=>bd2 (λ _ _=>rfl),by decide +kernel⟩
def aj9:DTX "ClosedSet" "take" DV.ae9 ad4:=⟨["self", "step", "signs"],["self", "step", "signs"],Zsc,rfl,rfl,λ _ _ _ _ _ _=>bd3 (λ _ _ _=>rfl),by decide +kernel⟩
def qL:DTX "ClosedSet" "take_sharp" DV.af0 ab9:=⟨["self", "at"],["self", "at"],Zsc,rfl,rfl,λ _ _ _ _ _ _=>bd2 (λ _ _=>rfl),by decide +kernel⟩
def qP:DTX "ClosedSet" "take_pairs" DV.ae7 ab8:=⟨["self", "at", "other"],["self", "at"],Zsc,rfl,rfl,λ _ _ _ _ _ _=>bd2 (λ _ _=>rfl),by decide +kernel⟩
def bT5:∀ p∈mxb,DTX p.1.1 p.1.2 p.2.1 p.2.2:=by
 intro p h;unfold mxb at h;simp only[aB,dA,or_false]at h;rcases h with rfl|rfl|rfl
 .exact aj9
 .exact qL
 .exact qP
def cl0:∀ p∈mtb,DTM p.1.1 p.1.2 p.2.1 p.2.2:=by
 intro p h;unfold mtb at h;simp only[aB,dA,or_false]at h;rcases h with rfl|rfl|rfl|rfl
 .exact jr
 .exact al7
 .exact qW
 .exact qV
def aA6:DT af7 P "letters_of" DV.ac8 s_letters_of:=⟨["machine"],["machine"],Zsc,rfl,rfl,λ _ _ _ _ _ _=>bd1 (λ _=>rfl),.inl (by decide +kernel)⟩
def aT9:DT af7 P "rooms_of" DV.ac4 at7:=⟨["machine"],["machine"],Zsc,rfl,rfl,λ _ _ _ _ _ _=>bd1 (λ _=>rfl),.inl (by decide +kernel)⟩
def aR0:DT af7 P "doors_of" DV.ac1 av4:=⟨["machine"],["machine"],Zsc,rfl,rfl,λ _ _ _ _ _ _=>bd1 (λ _=>rfl),.inl (by decide +kernel)⟩
def bT3:DT af7 P "grid" DV.ad3 bz2:=⟨["size", "entry", "rows", "i"],["size", "entry"],Zsc,rfl,rfl,λ _ _ _ _ _ _=>bd2 (λ _ _=>rfl),.inl (by decide +kernel)⟩
def bP6:DT af7 P "least" DV.ad7 bi7:=⟨["prices"],["prices"],Zsc,rfl,rfl,λ _ _ _ _ _ _=>bd1 (λ _=>rfl),.inl (by decide +kernel)⟩
def bC6:DT af7 P "added" DV.ae0 ba0:=⟨["one", "other"],["one", "other"],Zsc,rfl,rfl,λ _ _ _ _ _ _=>bd2 (λ _ _=>rfl),.inl (by decide +kernel)⟩
def fmc {α:Type}{P:α->Prop}{a}{l}(h:P a)(t:∀ x∈l,P x):∀ x∈a::l,P x:=List.forall_mem_cons.mpr ⟨h,t⟩
def fmn {α:Type}{P:α->Prop}:∀ x∈([]),P x:=λ _ h=>nomatch h
def bK1:DT af7 P "plain" DV.ae2 bf9:=⟨["n"],["n"],Zsc,rfl,rfl,λ _ _ _ _ _ _=>bd1 (λ _=>rfl),.inr ⟨by decide,[("plain.0",DV.ac0,["i", "j"],[])],by decide +kernel,by decide +kernel,fmc ⟨rfl,bQ4⟩ fmn⟩⟩
def aY7:DT af7 P "product" DV.ac9 aD3:=⟨["one", "other", "size"],["one", "other"],Zsc,rfl,rfl,λ _ _ _ _ _ _=>bd2 (λ _ _=>rfl),.inr ⟨by decide,[("product.0",DV.ab2,["i", "j"],["size", "one", "other"])],by decide +kernel,by decide +kernel,fmc ⟨rfl,bQ4⟩ fmn⟩⟩
def as9:DT af7 P "letter_table" DV.aa8 s_letter_table:=⟨["machine", "letter", "least_fee"],["machine", "letter"],Zsc,rfl,rfl,λ _ _ _ _ _ _=>bd2 (λ _ _=>rfl),.inr ⟨by decide,[("letter_table.least_fee",DV.aa6,["i", "j"],["machine", "letter"])],by decide +kernel,by decide +kernel,fmc ⟨rfl,bQ4⟩ fmn⟩⟩
def aB6:DT af7 P "word_table" DV.ab4 ak3:=⟨["machine", "word", "made", "table", "letter"],["machine", "word"],Zsc,rfl,rfl,λ _ _ _ _ _ _=>bd2 (λ _ _=>rfl),.inl (by decide +kernel)⟩
def bh0:DT af7 P "sign_of" DV.ad5 aE8:=⟨["price"],["price"],Zsc,rfl,rfl,λ _ _ _ _ _ _=>bd1 (λ _=>rfl),.inl (by decide +kernel)⟩
def bh7:DT af7 P "reading" DV.ad6 aD6:=⟨["table"],["table"],Zsc,rfl,rfl,λ _ _ _ _ _ _=>bd1 (λ _=>rfl),.inr ⟨by decide,[("reading.0",DV.ac7,["i", "j"],["table"])],by decide +kernel,by decide +kernel,fmc ⟨rfl,bQ4⟩ fmn⟩⟩
def at1:DT af7 P "sign_product" DV.aa7 ag3:=⟨["one", "other", "size"],["one", "other"],Zsc,rfl,rfl,λ _ _ _ _ _ _=>bd2 (λ _ _=>rfl),.inr ⟨by decide,[("sign_product.0",DV.aa2,["i", "j"],["size", "one", "other"])],by decide +kernel,by decide +kernel,fmc ⟨rfl,bQ4⟩ fmn⟩⟩
def aC0:DT af7 P "word_signs" DV.ac6 ak9:=⟨["machine", "word"],["machine", "word"],Zsc,rfl,rfl,λ _ _ _ _ _ _=>bd2 (λ _ _=>rfl),.inl (by decide +kernel)⟩
def aG0:DT af7 P "is_steady" DV.ab5 an4:=⟨["signs"],["signs"],Zsc,rfl,rfl,λ _ _ _ _ _ _=>bd1 (λ _=>rfl),.inl (by decide +kernel)⟩
def aQ6:DT af7 P "round_of" DV.ac2 av0:=⟨["sign"],["sign"],Zsc,rfl,rfl,λ _ _ _ _ _ _=>bd1 (λ _=>rfl),.inl (by decide +kernel)⟩
def aK0:DT af7 P "sharpened" DV.ac3 ap3:=⟨["signs", "size", "rounds"],["signs"],Zsc,rfl,rfl,λ _ _ _ _ _ _=>bd1 (λ _=>rfl),.inr ⟨by decide,[("sharpened.0",DV.ab1,["i", "j"],["size", "signs", "rounds"])],by decide +kernel,by decide +kernel,fmc ⟨rfl,bQ4⟩ fmn⟩⟩
def bo3:DT af7 P "closed" DV.af1 ah4:=⟨["machine", "found", "letter", "at"],["machine"],Zsc,rfl,rfl,λ _ _ _ _ _ _=>bd1 (λ _=>rfl),.inl (by decide +kernel)⟩
def aS0:DT af7 P "_law_box" DV.aq8 av2:=⟨["_law_script", "_law_at", "_law_cell", "_law_number", "_law_j", "_law_part"],["_law_script", "_law_at"],Zsc,rfl,rfl,λ _ _ _ _ _ _=>bd2 (λ _ _=>rfl),.inl (by decide +kernel)⟩
def aJ9:DT af7 P "_law_draw" DV.af4 aq2:=⟨["_law_box_here", "_law_many", "_law_found"],["_law_box_here", "_law_many"],Zsc,rfl,rfl,λ _ _ _ _ _ _=>bd2 (λ _ _=>rfl),.inl (by decide +kernel)⟩
def as7:DT af7 P "_law_product" DV.ab6 ag4:=⟨["_law_one", "_law_other", "_law_found", "_law_line", "_law_new", "_law_k"],["_law_one", "_law_other"],Zsc,rfl,rfl,λ _ _ _ _ _ _=>bd2 (λ _ _=>rfl),.inl (by decide +kernel)⟩
def jB:DT af7 P "_law_letter_signs" DV.ac5 s__law_letter_signs:=⟨["_law_machine", "_law_letter", "_law_rooms", "_law_lines", "_law_start", "_law_sign", "_law_goal", "_law_cost"],["_law_machine", "_law_letter"],Zsc,rfl,rfl,λ _ _ _ _ _ _=>bd2 (λ _ _=>rfl),.inl (by decide +kernel)⟩
def aB2:DT af7 P "_law_sharp" DV.ad8 ak6:=⟨["_law_signs", "_law_size", "_law_found", "_law_i", "_law_line", "_law_j", "_law_best", "_law_k", "_law_here"],["_law_signs"],Zsc,rfl,rfl,λ _ _ _ _ _ _=>bd1 (λ _=>rfl),.inl (by decide +kernel)⟩
def ay1:DT af7 P "_law_closed" DV.ae3 ai6:=⟨["_law_machine", "_law_most", "_law_tables", "_law_gens", "_law_letter", "_law_signs", "_law_at", "_law_here", "_law_new", "_law_sharp_here", "_law_one"],["_law_machine", "_law_most"],Zsc,rfl,rfl,λ _ _ _ _ _ _=>bd2 (λ _ _=>rfl),.inl (by decide +kernel)⟩
def aH3:DT af7 P "_law_wide" DV.al3 ar6:=⟨["_law_box_here", "_law_most", "_law_letters", "_law_rooms", "_law_doors", "_law_place", "_law_letter", "_law_start", "_law_goal", "_law_turn"],["_law_box_here", "_law_most"],Zsc,rfl,rfl,λ _ _ _ _ _ _=>bd2 (λ _ _=>rfl),.inl (by decide +kernel)⟩
def bB2:FnScope ["_law_script", "_law_k", "_law_machine", "_law_due"] ["_law_script"] (defScope aB1):=Zsc
def cb4:mSs ⟨["_law_script", "_law_k", "_law_machine", "_law_due"],defScope aB1,λ _ _ _=>ce⟩ DV.ae1.body (defBody aB1)=true:=by decide +kernel
def bQ7:cp0 "law" aB1 ["_law_script"]:=λ _ _ _ _ _ _=>bd1 λ _=>rfl
def cj4:DT af7 P "law" DV.ae1 aB1:=⟨_,_,bB2,rfl,rfl,bQ7,.inl cb4⟩
def bs6:DTB af7 P "closed" DV.ae6.ps DV.ae6.vs (λ h S=>mX h DV.ae6.body S) ah4:=⟨["machine", "found", "letter", "at"],["machine"],Zsc,rfl,rfl,λ _ _ _ _ _ _=>bd1 (λ _=>rfl),.inl (by decide +kernel)⟩
def aH8:DTB af7 P "_law_told" DV.ad9.ps DV.ad9.vs (λ h S=>mT h DV.ad9 S) ag6:=⟨["_law_machine"],["_law_machine"],Zsc,rfl,rfl,λ _ _ _ _ _ _=>bd1 (λ _=>rfl),.inl (by decide +kernel)⟩
def cm7:∀ p∈tb,DT af7 P p.1 p.2.1 p.2.2:=by
 unfold tb;exact fmc aA6 (fmc aT9 (fmc aR0 (fmc bT3 (fmc bP6 (fmc bC6 (fmc bK1 (fmc aY7 (fmc as9 (fmc aB6 (fmc bh0 (fmc bh7 (fmc at1 (fmc aC0 (fmc aG0 (fmc aQ6 (fmc aK0 (fmc bo3 (fmc aS0 (fmc aJ9 (fmc as7 (fmc jB (fmc aB2 (fmc ay1 (fmc aH3 (fmc cj4 fmn)))))))))))))))))))))))))
def ce0 {l:dF}{mg:yD}(X:K.In h)(G:h.Ns aU mg)(a6:mg "law"=al (.ref fa))(hD:∀ p∈tb,ch4 K p.1 p.2.2)(hz:∀ x∈bNames,bC K aU x=al aT)
  {a1:yJ} {a0:yF} (gc_LETTERS:bC K aU "LETTERS"=al (al (.ref z))) (gl_LETTERS:K.lookup z=al ⟨.type "tuple",a1,.seq #[.str ⟨#[97]⟩ J,.str ⟨#[98]⟩ Y,.str ⟨#[99]⟩ Uu] a2,a0⟩)
  (gc_FREE:bC K aU "FREE"=al (al (.int (0) a3)))
  (gc_SOME:bC K aU "SOME"=al (al (.int (1) a4)))
  (gc_UNBOUND:bC K aU "UNBOUND"=al (al (.int (2) Z)))
  (gc_NONE:bC K aU "NONE"=al (al (.int (3) a5)))
  (gc_MOST_TABLES:bC K aU "MOST_TABLES"=al (al (.int (80) B)))
  (hT:∀ x∈af7,(bB K x).isSome=bY) (tnd:decide (((bE0 af7 K).map (·.1)).Nodup)=bY) (hDx:∀ p∈dl,ch4 K p.1 p.2) (hcl:bD1 K xcs xts=bY) (hO:(obt.all λ p=>bF1 K p.1 p.2)=bY) (hM:∀ p∈mtb,cn4 K p.1.1 p.1.2 p.2.2)
  : ∃ fd:bK,(∀(s:af) (v:Value),lz s fd ⟨[v],[]⟩ [("_law_script",v)])/\∀ base:Heap,K.In base->base.Ns aU mg->BM mg base->bO1 K af7 base->FnOk l.prog w K mg base CX0 47 fa fd ["_law_script"] (spB af7 K):=by
 have OB:=cc0 (names:=af7) (P:=P) (mtb:=mtb) (obt:=obt) X G (λ _ _=>rfl) (λ _ _=>rfl) hO (by decide) hM cl0;have OX:=bG8 (names:=af7) (P:=P) (mtb:=mtb) (mxb:=mxb) (obt:=obt) (K:=K) (λ _ _=>rfl) (λ _ _=>rfl) hO (by decide) (λ p hp=>by
  unfold mxb at hp;simp only[aB,dA,or_false]at hp;rcases hp with rfl|rfl|rfl
  .exact hM (("ClosedSet", "take"),DV.aa3,ad4) (by unfold mtb;simp)
  .exact hM (("ClosedSet", "take_sharp"),DV.aa5,ab9) (by unfold mtb;simp)
  .exact hM (("ClosedSet", "take_pairs"),DV.aa4,ab8) (by unfold mtb;simp)) bT5
 have hP:PrOk (aJ3 af7 P K) (bK6 af7 K) P mg w:=by
  refine⟨λ f d h=>aP9 (tbl:=tbl) (λ p hp=>?_) f d h,λ x d h=>bb8 (tbl:=co3) ?_ x d h,λ x hx=>kg X G (hz x hx),cn0 X G,cm1,dO tnd,aJ5 (tbl:=xtb) (λ p hp=>?_),aJ5 (tbl:=ttb) (λ p hp=>?_),(an6 X G hcl).1,(an6 X G hcl).2.1,(an6 X G hcl).2.2.1,(an6 X G hcl).2.2.2.1,(an6 X G hcl).2.2.2.2.1,(an6 X G hcl).2.2.2.2.2.1,(an6 X G hcl).2.2.2.2.2.2,λ _ _ h=>(by cases h),OB.1,OX,OB.2.1,OB.2.2⟩
  .obtain⟨r,hr,rfl⟩:=ao.mp hp;exact good_of X G hT (hD r hr) (cm7 r hr)
  .unfold co3;refine fmc ?_ (fmc ?_ (fmc ?_ (fmc ?_ (fmc ?_ (fmc ?_ fmn)))))
   .exact bE6 (bV X G gc_LETTERS) gl_LETTERS rfl rfl (show 3<=1000 by decide) (.cons (.str _ _ (by decide)) (.cons (.str _ _ (by decide)) (.cons (.str _ _ (by decide)) (.nil))))
   .exact ap0 (bV X G gc_FREE)
   .exact ap0 (bV X G gc_SOME)
   .exact ap0 (bV X G gc_UNBOUND)
   .exact ap0 (bV X G gc_NONE)
   .exact ap0 (bV X G gc_MOST_TABLES)
  .revert p hp;unfold xtb;exact fmc (ay9 X G hT (hDx ("closed",ah4) (aE (i:=0) rfl)) bs6) fmn
  .revert p hp;unfold ttb;exact fmc (ay9 X G hT (hDx ("_law_told",ag6) (aE (i:=1) rfl)) aH8) fmn
 refine wl λ _ ua=>?_;obtain⟨f,od,an,sl,oc,kV,dc,pm,cd,ct,a,l0,c,k⟩:=hD ("law",DV.ae1,aB1) (aE (i:=25) rfl);have e:=a6.symm.trans (bV X G a);cases e;have F:=aP5 (st:=aB1) l0 c k;refine ua ⟨_,λ s v=>.of_eq rfl,λ base _ _ bm hk=>(bV9 hP (bx6 hT bm hk) 15 (bP3 hP (bx6 hT bm hk) 15) (d:=DV.ae1) (f := "law") rfl ⟨F,bV X G a,F.binds bQ7⟩ bB2 rfl rfl cb4 bj3).imp (λ vs H Q E q=>cd7 (λ ns h=>DV.cl5 (P:=P) 7 ns h) vs H Q E (bo7 hT q))⟩
end My
end
end
end
end Internal
open Internal
open PySem PySem.W PyProof.Rows
set_option maxRecDepth 100000 in
set_option maxHeartbeats 0 in
theorem PySem.Challenge.cw_leasttolls_k35_closed_sets_too_great_holds : PySem.Challenge.rw_leasttolls_k35_closed_sets_too_great.Holds := by
 refine My.GT0.2.2.2 My.left2 My.left5 ?_
 delta My.GT0
 dsimp only
 k_fill
 refine L2.bk6 (l:=PySem.Challenge.rw_leasttolls_k35_closed_sets_too_great) (n:=63) (k:=47) (x := "_law_script") (sp:=L2.spB My.af7) My.af7 rfl (by decide) rfl ⟨rfl,by decide,by decide⟩ (λ w h Y=>⟨PySem.W.km_in_of Y,PySem.W.km_tabs_of Y⟩) (λ w=>?R) (λ w=>?NT) ?F (λ K H a ns hl hB hS hF=>L2.bV5 hl hB hS hF)
 case R=>kernel_rfl
 case NT=>kernel_rfl
 case F =>
  intro w mg fa h KX G hmg
  refine' My.ce0 KX G hmg ?hD ?hz ?gc_LETTERS ?gl_LETTERS ?gc_FREE ?gc_SOME ?gc_UNBOUND ?gc_NONE ?gc_MOST_TABLES ?hT ?tnd ?hDx ?hcl ?hO ?hM
  case hD=>unfold My.tb;repeat' first|exact My.fmn|refine My.fmc ?_ ?_|(dsimp only;exact ⟨_,_,_,_,_,_,_,_,_,_,by k_is,by k_is,by k_is,by k_is⟩)
  case hz=>unfold L2.bNames;repeat' first|exact My.fmn|refine My.fmc ?_ ?_|k_is
  (case gc_LETTERS=>k_is)
  (case gl_LETTERS=>k_is)
  (case gc_FREE=>k_is)
  (case gc_SOME=>k_is)
  (case gc_UNBOUND=>k_is)
  (case gc_NONE=>k_is)
  (case gc_MOST_TABLES=>k_is)
  case hT=>unfold My.af7;repeat' first|exact My.fmn|refine My.fmc ?_ ?_|kernel_rfl
  (case tnd=>kernel_rfl)
  case hDx=>unfold My.dl;repeat' first|exact My.fmn|refine My.fmc ?_ ?_|(dsimp only;exact ⟨_,_,_,_,_,_,_,_,_,_,by k_is,by k_is,by k_is,by k_is⟩)
  (case hcl=>kernel_rfl)
  (case hO=>kernel_rfl)
  case hM =>
   intro p hp;unfold My.mtb at hp;simp only[aB,dA,or_false]at hp;rcases hp with rfl|rfl|rfl|rfl
   all_goals (dsimp only;exact ⟨_,_,_,_,_,_,_,_,_,_,_,by k_is,by k_is,by k_is,by k_is,by k_is,by k_is⟩)
