import PyProof.Rows.All
import OpenK.KLine
import OpenK.KQuick
import OpenK.KMake
import OpenK.KDescr
import OpenK.KMore
import OpenK.KCls
import OpenK.KGet
import OpenK.KCell
import OpenK.KCall
import OpenK.KWalk
import OpenK.KFacts
import KE.KLam
import KE.KNest
import KE.KNestM
import KE.KItem
import KE.KFromBytes
import KE.KIsAll
import KE.KMinBuiltin
import KE.KxBytes
import KE.KTops
import KE.KTabLook
import Wide.FinOn
import Wide.BytesRules
import Wide.ObjOpen
import Wide.Head
import Wide.Well
import KE.KTreeR
import PyProof.EqAt
import PyProof.EqKinds
import PyProof.TupleCall
import PyProof.MinMaxWalk
import PyProof.WalkInts
import PyProof.NeKinds
import PyProof.SliceStr2
import PyProof.StrBlockI
import PyProof.MaxThree
import PyProof.ZipIter
import PyProof.Draws
import PyProof.EnumMake
import PyProof.ListMulRoad
import PyProof.Rows.StrRev
import PyProof.DictItems
import PyProof.ListRange
import PyProof.AutoIntG2
import PyProof.FactsAll.int_6
import KE.KMinKey
import PyProof.Rows.TupDisplay
import PyProof.Rows.CatchBare
import KE.KTryMore
import PyProof.RulesAs
import PyProof.StrOps
import KE.IntBitsLaws
import KE.KIntText
import PyProof.CallStr
import PyProof.StrBlockL
import PyProof.StrLawsChain
import PyProof.StrLawsTight
import PyProof.Rows.StrItems
import PySem.Challenge.RW_leasttolls_k68_texts_of_no_machine
set_option bootstrap.genMatcherCode false
set_option genSizeOf false
set_option genInjectivity false
set_option genCtorIdx false
set_option compiler.extract_closed false
set_option Elab.async false
set_option linter.all false
set_option maxRecDepth 100000
set_option maxHeartbeats 4000000
open PySem.W renaming Frag->ac,openSeen->aU,openGood->aV,kitOne->bc,openEnds->bv,tabIn->bB,exmOne->bJ,mg_of->bL,nsIn->bQ,kia_one->bS,findIn->bZ,CodeHd->cq,keepIn->cy,KitX->cL,recOk->cM,xlAt->cZ,fnOf->dj,OpenLaw->dv,Looks->dY,cellsFrom_some->eH,looks_findIn->fv,codeIn->f9,specialIn->gC,takesIn->iu,lookIn->iE,tabObj->iV,mroIn->jt,kitx_tuple->jy,callWith_K->jA,codeRec_of->jB,mg_none_of->jM,kitx_list->jS,plainGet->kl,codeHdIn->kz,instObj->kO,kla_fn->lp,TabsAt->lu,noTabs->lv,LeftO->lz,WalkO->lA,fnX->lY
open PySem renaming wpAny_bind->ae,Shared->af,wpAny_pure->aA,Program->aJ,sizeLine->aP,Around->aS,importedModules->aW,mainGlobals->aZ,wpAny_mono->bf,bootBuiltins->br,mem_of_lookup->bu,cellsFrom->bz,starEach->bD,wpAny_field->bG,wpAny_truthy_bool->bO,wpAny_newObj_type->bP,FuncData->bW,wpAny_callSpecial?_slot->cf,wpAny_call_entry->cw,binaryOp->cx,NameKind->cz,foldedSetIterable->cD,treeTable->cN,assignEach->cP,wpAny_seqItems->cR,wpAny_setField_rec->cS,compareOp->cW,wpAny_passesOwn->cX,behindInMarks->c7,wpAny_holding->c8,wpAny_Call_Name_kw->di,call_meets->dk,wpAny_execs_nil->dw,notedBy->d9,IsPair->eg,sliceBounds->eD,wpAny_pyIter_list->eG,backTo->eY,swapsWith->eZ,Arguments->fe,typeIs_str->fg,pushCells->fi,relabel->fm,wpAny_onRaise->fo,ExceptHandler->fq,wpAny_updateSeq_pair->ft,letOwnedTupleGo->fC,pushCells_keeps->fJ,wpAny_ite_false->fO,wpAny_newFunctionEnv_cells->gb,wpAny_ite_true->gm,wpAny_binaryOp_repeat_ref->gv,sizeLine_eq->gy,isTrue->gH,swappedStores->gI,IsPart->gK,attributeBase->gN,wpAny_comprehension_free->gO,wpAny_attempt->gP,noFill_tuple_add->gU,noteFrame->gW,builtinsNs->g8,assign->g9,codeAny_mono->hJ,wpAny_typeOf->hX,typeIs_int->ig,codeAny_compStart_list->ik,wpAny_rule->il,wpAny_isTrue_Compare1->iw,codeAny_call_function->iy,wpAny_setField->iK,strIterType->iL,codeAny_call_builtin->iM,codeAny->iY,Keyword->iZ,getItem->ja,callerA->jb,setFlight->jc,wpAny_standAt->jq,seq_tuple_add->jr,wpAny_pyIter_tuple->jx,wpAny_call->jz,typeOf->jD,cameBackBy->jJ,wpAny_assign_Name->jQ,concat_meets->jT,wpAny_sequenceKey->jU,seqIndex_neg->jV,slot_list_getitem->jW,valueAt->j8,wpAny_execs_cons->kh,pyIter->ki,rawInt->kj,Result->km,wpAny_pyIter_zip->kC,seqSlot_of->kD,wpAny_Try_except->kH,seqIndex_of->kK,keywordEach->kL,wpAny_letGo->kM,holding->kX,BindsTo->kY,leaving->kZ,argBest->k8,call->k9,IsTupleKey->la,Paired->lc,wpAny_Name->lf,pyNext->lh,PlainAttrs->lj,quietNames->ls,KeyKind->lB,storeName->lH,PassesOwn->lI,lastMarks->lK,passOn->lN,Builtin->lO
open List renaming append_assoc->ag,getElem?_eq_some_iff->ah,mem_cons_of_mem->ai,getElem?_eq_getElem->aj,length_map->ao,length_append->ar,mem_cons_self->au,mem_cons->aw,replicate->ax,size_toArray->ay,append_nil->az,all_eq_true->aD,length_cons->aE,map_cons->aF,mem_of_getElem?->aG,mem_map->aN,mem_append_right->aO,length_take->aQ,not_mem_nil->aR,getElem?_set_self->aX,getElem?_map->aY,length_drop->be,getElem?_append_left->bh,lookup_cons->bo,getD_eq_getElem?_getD->bq,length_set->bt,filterMap_cons->bA,range->bE,getElem?_set_ne->bI,getElem_mem->bK,replicate_succ->bM,getElem?_append_right->bR,take_of_length_le->bU,length_tail->bV,map_append->cb,map_map->ce,map->cg,all_cons->ci,drop_zero->cB,getElem?_of_mem->cC,flatten_cons->cE,mem_append->cH,mem_map_of_mem->cJ,mem_range->cO,mem_singleton->cT,length_nil->cY,mem_append_left->c5,length_pos_iff->da,length_eq_zero_iff->de,set_set->du,length_singleton->dA,getElem?_eq_none->dB,contains_iff_mem->dC,set_append_right->dE,mem_iff_getElem->dJ,mem_of_mem_drop->dK,set_append_left->dL,all_nil->dQ,drop_eq_getElem_cons->dS,sum_cons->dZ,foldl_cons->d8,mem_filterMap->ed,length->et,map_nil->eM,range_succ_eq_map->eQ,drop_eq_nil_of_le->eR,getElem?_toArray->eT,singleton_append->eW,take_eq_take_min->eX,cons_append->fh,mem_of_mem_take->fy,take_append_of_le_length->fz,nodup_cons->fD,of_mem_zip->fF,nil_append->fI,find?_cons->fN,take_left'->fR,all_map->fY,filterMap_map->gd,forIn_nil->gi,getElem?_drop->gu,any_cons->gQ,getElem?_replicate->gS,head_eq_of_cons_eq->gY,tail_eq_of_cons_eq->gZ,filterMap_eq_map'->io,sum_replicate_nat->ip,mem_filter->iq,forIn_cons->ir,set_getElem_self->iB,take_append_drop->iC,filterMap->iJ,take_zero->iX,getElem?_range->jl,map_congr_left->jm,length_flatten->jo,drop_succ_cons->jp,getElem?_take->jL,any_eq_false->jR,all_eq_false->kg,any_eq_true->ky,zipIdx_cons->kA,flatten_nil->kG,take->kI,mem_flatten->kJ,zipIdx_nil->kQ,set_append->kT,map_const'->kW,foldl->ln,map_set->lV,lookup->lX
open PySem.Heap renaming get?_push_of_some->ak,lt_size->aL,get?_push_size->aM,SameBut->bN,size_push->cn,get?_update_self->eS,ExtBut->gB,get?_update_other->ie
open Bool renaming and_eq_true->am,false_ne_true->aI,or_eq_true->bT,true_and->cj,eq_iff_iff->cI,and_true->dz,not_eq_true'->eP,or_eq_false_iff->fu,false_eq_true->gj,or_false->gM,and_eq_true_iff->iD,noConfusion->kF,false_and->li,false_or->lG
open Nat renaming le_trans->aq,le_refl->av,ne_of_lt->aC,lt_of_lt_of_le->aK,lt_irrefl->bX,zero_le->cA,ne_of_gt->cK,lt_succ_self->dM,zero_add->dN,add_comm->eL,le_succ->fw,mul_le_mul_right->fA,le_of_lt->fW,le_of_succ_le->gz,lt_succ_of_lt->gA,lt_trichotomy->gE,pow_le_pow_right->iW,lt_of_le_of_lt->jF,succ_mul->jX,lt_or_ge->j9,add_zero->ka,le_succ_of_le->kb,sub_self->kc,sub_zero->ke,min_le_right->ko,le_of_not_lt->ku,mul_add->kN,min_eq_left->kU,not_lt->lr,mul_comm->lM
open Option.some renaming inj->aB
open PySem.Builtin.SmallTypes renaming nextOf->bj,ownedTupleIsFree->b7,ownedTupleHandOut->dU
open False renaming elim->bn
open PySem.Str renaming ofString->bp,length->ib
open PyProof.Rows renaming slot_tuple_getitem->bw,callWith_type1->dG,kindOf->fc,envOfC->fG,AllBare->fU,subscriptTail_builtinR->ia,entry_tuple_getitem->jh,tupleItemsOf_->js,args_tuple_getitem->jC,IntsAre->k7
open PySem.W.OpenRow renaming toRowW->bC
open PySem.Builtin.Str renaming strSliceIndices->bF,tooLong->eV,occurrences->g6,strKind->jn
open PySem.W.RowW renaming records->bH
open Int renaming toNat_natCast->cr,mul_le_mul_of_nonneg_left->fx,toNat_of_nonneg->fT,one_mul->gF,le_refl->iI,natCast_nonneg->jN,ofNat_lt->jY,natCast_mul->kR,sub_zero->lQ,le_trans->lR,zero_add->lU
open Classical renaming propDecidable->cF
open PySem.F renaming plainAttrs_list->cG,slot_tuple_iterator_next->cQ,slot_str_split->dq,slot_NoneType_hash->dH,args_tuple_add_2->dW,args_str_split_2->d6,slot_int_rmul->ee,entry_tuple_add->eB,entry_str_split->eF,slot_tuple_add->eJ,slot_list_append->eK,slot_tuple_mul->eO,attrBase_ValueError->eU,args_tuple_iterator_next_1->fL,slot_zip_next->fM,entry_tuple_iterator_next->fX,type_list_append->gR,slot_tuple_rmul->gX,plainAttrs_str->im,slot_str_join->iA,args_int_rmul_2->iH,excBase_ValueError->iP,slot_list_count->iR,slot_list_index->iU,slot_int_index->ji,entry_int_rmul->jj,fills_int_mul->jE,args_zip_next_1->j7,entry_zip_next->kB
open PySem.W.Looks renaming andThen->cU,now->gD,ld->kE,tag->mf
open PySem.Builtin.Slice renaming slicePlaces->cV,sliceAdjust->dR,sliceApplied->gc,slicePartIndex->kP,sliceFields->ly
open PySem.Builtin.Tuple renaming tupleExact->c9,tupleItemsOf->dI,tupleTooMany->gk,tupleIsExact->lq
open PySem.Builtin.Getset_descriptor renaming descrCheckInstance->db,descrOwnerAndName->dg,descrGetter->dP,descrNameAndClass->g7,descrGetArgs->iO
open Option renaming map_eq_some_iff->dh,map_some->fP,isSome_iff_exists->gJ,isSome_some->jG,getD_none->kr
open PySem.Builtin.List renaming listTooLong->dX
open Ne renaming symm->d7
open PySem.Builtin.ObjectAttr renaming find->eE
open PySem.Txt renaming split->fj,slice->fK
open PySem.SeqAt.EqAt renaming same->fB,bool_bool->iQ,none_int->jd,none_str->je,int_none->jf,str_none->jg,int_str->ju,str_int->jv,of_refs->jK
open List.cons renaming injEq->fQ
open Array renaming length_toList->fS,getElem?_eq_some_iff->gp,getElem?_mapIdx->iz,append_assoc->jw,toList->jP
open PySem.Calls renaming Name_function_global->fZ,callWith_builtin->ii,evalArgs_plain->iG
open PySem.SeqAt renaming EqAt->gq,RcNeAt->lP,RcAt->l9
open PySem.W.OpenLaw renaming wellSaid->gG
open PySem.Obj renaming mapSeq->ic,data_mapFields->jH
open PySem.Heap.SameBut renaming update->jk,refl->jZ
open PySem.W.KF renaming slot_gs->jI
open Prod renaming ext->jO
open PyProof.Rows.IsTup renaming new->kq
open PySem.PassesOwn renaming never->kS
open PySem.EqMixed renaming ne_bool_str->lw,ne_str_bool->lx,ne_int_str->lE,ne_str_int->lF
open PySem.Paired renaming length->lC
open PySem.Builtin.Range renaming rangeSize->lJ
open PySem.StrLaws renaming found_one->lL
open Prod.mk renaming inj->lW
open List.Pairwise renaming filter->lZ
open PySem.Heap.IsSliceOf renaming new->l7
open PySem.Walks renaming list->l8
abbrev yA:=List (PySem.Addr×PySem.Obj)
abbrev yB:=PySem.Value->PySem.Shared->Prop
abbrev yC:=List (PySem.Str×PySem.Addr)
abbrev yD:=PySem.Str->Option PySem.Value
abbrev yE:=List (Option Nat)
abbrev yF:=Array (Option PySem.Value)
abbrev yG:=List (PySem.Addr×PySem.Addr)
abbrev yH:=List PySem.Value
abbrev yI:=List PySem.Str
abbrev yJ:=Option PySem.Addr
abbrev yK:=Array PySem.Value
abbrev yL:=List PySem.Expr
abbrev yM:=List PySem.Stmt
def Zq0 (_:True:=by first|exact .inl rfl|exact .inr rfl|assumption):=trivial
def Zq1 (_:True:=by decide):=trivial
def Zq2 (_:True:=by first|exact aN6 _ (by decide) (by decide)|rfl):=trivial
def Zq3 (_:True:=by intro _;rfl):=trivial
def Zq4 (_:True:=by rfl):=trivial
def Zq5 (_:True:=by with_unfolding_all rfl):=trivial
def Zq6 (_:True:=by decide +kernel):=trivial
namespace Internal
noncomputable section
namespace L2
open PySem PySem.Spec PyProof.Rows
def head_of {l:dv}{q:aJ}{loose:yI}{H:PySem.W.Hook}{N:Nat}{d:DefRec}{y:List (Str×Expr)}
  (left:lz l.row.prog q loose (λ s=>cZ q [] s&&cM (bH (bC l.row)) s) H.obs H.val N)
  (z:PySem.W.defOf q l.row.name=some (d,y)) (hp:l.row.prog.theDef l.row.name=some (d.params,d.body,d.scope)) (hk:PySem.W.kwWritten? d.params.kwonlyargs d.params.kw_defaults=some y) (F:(!l.row.writes||l.row.records.isEmpty)=true)
  (k1:l.row.wellSaid=true) (ok:(PySem.W.chainsOk q&&PySem.W.opensWell l.row.prog&&(PySem.W.frees l.row.toRowW&&l.row.within.isEmpty))=true) (hb:l.row.prog.bare) (hw:l.row.toRowW.promised)
  (call:lA q loose (PySem.W.XL q []) H.says l.row.toRowW d y λ f vs=>k9 f vs):l.row.Holds :=
 PySem.W.holds_open left H.of H.keeps (λ s e=>PySem.W.xl_of s (iD.mp e).1) PySem.W.XL.keeps z hp hk (λ s e=>PySem.W.recFacts_of (iD.mp e).2) F k1 ok hb hw call
def aW2 {loose:yI}{α:Type}{J}{F:World->α}
  (h0:(bv cN p w N).map (λ s=>((aU q loose (aW p.main.body) y true s).1,(aU q loose (aW p.main.body) y true s).2.1,(aU q loose (aW p.main.body) y true s).2.2.1))=some ((aV q loose).1,(aV q loose).2.1,(aV q loose).2.2.1))
  (h1:(bv cN p w N).map (λ s=>(aU q loose (aW p.main.body) y true s).2.2.2)=some (aV q loose).2.2.2)
  (Y:(bv cN p w N).map J=some (F w)):(bv cN p w N).map (λ s=>((aU q loose (aW p.main.body) y true s),J s))=some ((aV q loose),F w):=by
 obtain⟨s,a,b⟩:=dh.mp h0;obtain⟨s1,a1,b1⟩:=dh.mp h1;obtain⟨s',G,Z⟩:=dh.mp Y;rw[a]at G a1;cases G;cases a1;obtain⟨c1,z⟩:=lW b;obtain⟨z,c3⟩:=lW z;rw[a];exact congrArg some (jO (jO c1 (jO z (jO c3 b1))) Z)
theorem left_rows {loose:yI}{z:World->α} row 
  (a0:∀ w:World,(bv cN p (w.withFollow row false) N).map (λ s=>((aU q loose (aW p.main.body) y true s).1,(aU q loose (aW p.main.body) y true s).2.1,(aU q loose (aW p.main.body) y true s).2.2.1))=some ((aV q loose).1,(aV q loose).2.1,(aV q loose).2.2.1))
  (a1:∀ w:World,(bv cN p (w.withFollow row false) N).map (λ s=>(aU q loose (aW p.main.body) y true s).2.2.2)=some (aV q loose).2.2.2)
  (b0:∀ w:World,(bv cN p (w.withFollow row true) N).map (λ s=>((aU q loose (aW p.main.body) y true s).1,(aU q loose (aW p.main.body) y true s).2.1,(aU q loose (aW p.main.body) y true s).2.2.1))=some ((aV q loose).1,(aV q loose).2.1,(aV q loose).2.2.1))
  (b1:∀ w:World,(bv cN p (w.withFollow row true) N).map (λ s=>(aU q loose (aW p.main.body) y true s).2.2.2)=some (aV q loose).2.2.2)
  (a2:∀ w:World,(bv cN p (w.withFollow row false) N).map F=some (z (w.withFollow row false)))
  (G:∀ w:World,(bv cN p (w.withFollow row true) N).map F=some (z (w.withFollow row true))):lz p q loose y F z N:=λ w=>by
 have e:=PySem.World.withFollow_self w row;cases hb:w.params.followText row<;>rw[hb]at e
 .have:=aW2 (a0 w) (a1 w) (a2 w)
  rwa [e]at this
 .have:=aW2 (b0 w) (b1 w) (G w)
  rwa [e]at this
end L2
end
noncomputable section
namespace My
open PySem L2
noncomputable def nmS:Stmt->Bool
 | .Assign [.Name x _] _ _=>decide (x=("__name__"))
 | _=>false
def vq:aJ:={ PySem.Challenge.pw_leasttolls_k68_texts_of_no_machine with main:={ (PySem.Challenge.pw_leasttolls_k68_texts_of_no_machine).main with body:=(PySem.Challenge.pw_leasttolls_k68_texts_of_no_machine).main.body.filter λ s=>!nmS s } }
set_option maxRecDepth 100000 in
set_option maxHeartbeats 0 in
theorem left0:∀ w:World,(bv cN PySem.Challenge.rw_leasttolls_k68_texts_of_no_machine.row.prog (w.withFollow "special-get-raises" false) 6300).map (λ s=>((aU vq ["NoMaking", "NoPaper"] (aW PySem.Challenge.rw_leasttolls_k68_texts_of_no_machine.row.prog.main.body) (λ s=>cZ vq [] s&&cM (bH (bC PySem.Challenge.rw_leasttolls_k68_texts_of_no_machine.row)) s) true s).1,(aU vq ["NoMaking", "NoPaper"] (aW PySem.Challenge.rw_leasttolls_k68_texts_of_no_machine.row.prog.main.body) (λ s=>cZ vq [] s&&cM (bH (bC PySem.Challenge.rw_leasttolls_k68_texts_of_no_machine.row)) s) true s).2.1,(aU vq ["NoMaking", "NoPaper"] (aW PySem.Challenge.rw_leasttolls_k68_texts_of_no_machine.row.prog.main.body) (λ s=>cZ vq [] s&&cM (bH (bC PySem.Challenge.rw_leasttolls_k68_texts_of_no_machine.row)) s) true s).2.2.1))=some ((aV vq ["NoMaking", "NoPaper"]).1,(aV vq ["NoMaking", "NoPaper"]).2.1,(aV vq ["NoMaking", "NoPaper"]).2.2.1):=λ w=>by kernel_rfl
set_option maxRecDepth 100000 in
set_option maxHeartbeats 0 in
theorem left1:∀ w:World,(bv cN PySem.Challenge.rw_leasttolls_k68_texts_of_no_machine.row.prog (w.withFollow "special-get-raises" false) 6300).map (λ s=>(aU vq ["NoMaking", "NoPaper"] (aW PySem.Challenge.rw_leasttolls_k68_texts_of_no_machine.row.prog.main.body) (λ s=>cZ vq [] s&&cM (bH (bC PySem.Challenge.rw_leasttolls_k68_texts_of_no_machine.row)) s) true s).2.2.2)=some (aV vq ["NoMaking", "NoPaper"]).2.2.2:=λ w=>by kernel_rfl
set_option maxRecDepth 100000 in
set_option maxHeartbeats 0 in
theorem left3:∀ w:World,(bv cN PySem.Challenge.rw_leasttolls_k68_texts_of_no_machine.row.prog (w.withFollow "special-get-raises" true) 6300).map (λ s=>((aU vq ["NoMaking", "NoPaper"] (aW PySem.Challenge.rw_leasttolls_k68_texts_of_no_machine.row.prog.main.body) (λ s=>cZ vq [] s&&cM (bH (bC PySem.Challenge.rw_leasttolls_k68_texts_of_no_machine.row)) s) true s).1,(aU vq ["NoMaking", "NoPaper"] (aW PySem.Challenge.rw_leasttolls_k68_texts_of_no_machine.row.prog.main.body) (λ s=>cZ vq [] s&&cM (bH (bC PySem.Challenge.rw_leasttolls_k68_texts_of_no_machine.row)) s) true s).2.1,(aU vq ["NoMaking", "NoPaper"] (aW PySem.Challenge.rw_leasttolls_k68_texts_of_no_machine.row.prog.main.body) (λ s=>cZ vq [] s&&cM (bH (bC PySem.Challenge.rw_leasttolls_k68_texts_of_no_machine.row)) s) true s).2.2.1))=some ((aV vq ["NoMaking", "NoPaper"]).1,(aV vq ["NoMaking", "NoPaper"]).2.1,(aV vq ["NoMaking", "NoPaper"]).2.2.1):=λ w=>by kernel_rfl
set_option maxRecDepth 100000 in
set_option maxHeartbeats 0 in
theorem left4:∀ w:World,(bv cN PySem.Challenge.rw_leasttolls_k68_texts_of_no_machine.row.prog (w.withFollow "special-get-raises" true) 6300).map (λ s=>(aU vq ["NoMaking", "NoPaper"] (aW PySem.Challenge.rw_leasttolls_k68_texts_of_no_machine.row.prog.main.body) (λ s=>cZ vq [] s&&cM (bH (bC PySem.Challenge.rw_leasttolls_k68_texts_of_no_machine.row)) s) true s).2.2.2)=some (aV vq ["NoMaking", "NoPaper"]).2.2.2:=λ w=>by kernel_rfl
inductive IsL:dv->Prop|mk:IsL PySem.Challenge.rw_leasttolls_k68_texts_of_no_machine
def bG2 (h:IsL l):PySem.Challenge.rw_leasttolls_k68_texts_of_no_machine=l:=by cases h;rfl
noncomputable def lwp:{ l:dv // IsL l }:=by
 refine⟨?p,?h⟩
 case h =>
  have e:PySem.Challenge.rw_leasttolls_k68_texts_of_no_machine=?p:=by
   conv=>lhs;reduce
  exact e▸IsL.mk
def ws1:gG lwp.1=true:=by k_qdec
def ws:gG PySem.Challenge.rw_leasttolls_k68_texts_of_no_machine=true:=by
 rw[bG2 lwp.2];exact ws1
end My
end
section
open PySem PySem.W PyProof.Rows
set_option hygiene false in
local macro_rules | `(tactic| o_head $H) => `(tactic| (refine L2.head_of (q := My.vq) (loose := ["NoMaking", "NoPaper"]) (H := $H) (N := 6300) (L2.left_rows "special-get-raises" My.left0 My.left1 My.left3 My.left4 ?my2 ?my5) (by rfl) (by rfl) (by rfl) rfl (by assumption) (by decide +kernel) ⟨rfl, rfl, rfl, rfl, rfl, by decide +kernel⟩ ?_ ?_; (case my2 => exact myl2); (case my5 => exact myl5)))
set_option maxRecDepth 100000 in
set_option maxHeartbeats 0 in
noncomputable def My.GT0:(L2:Prop) ×' (L5:Prop) ×' { G:Prop // L2->L5->G->PySem.Challenge.rw_leasttolls_k68_texts_of_no_machine.Holds }:=by
 refine⟨?L2,?L5,?G,?h⟩
 case h =>
  intro myl2 myl5 g
  w_on;refine holds_law My.ws λ said=>?_;k_head;(focus w_witness2)
  exact g
set_option maxRecDepth 100000 in
set_option maxHeartbeats 0 in
theorem My.left2:My.GT0.1:=λ w=>by kernel_rfl
set_option maxRecDepth 100000 in
set_option maxHeartbeats 0 in
theorem My.left5:My.GT0.2.1:=λ w=>by kernel_rfl
end
noncomputable section
namespace L2
open PySem PySem.Spec PyProof.Rows
abbrev Key:=Sum Int Str
noncomputable def bu1:Key->Value->Bool
 | .inl k,v=>Value.isInt k v
 | .inr x,v=>Value.isStrOf x v
noncomputable def cf9 (w:World):Key->Int
 | .inl k=>hashInt k
 | .inr x=>hashStr w x
def zt:∀ {k} {v},bu1 k v=true->(∃ i t,k=Sum.inl i/\v=Value.int i t)\/(∃ x t,k=Sum.inr x/\v=Value.str x t)
 | .inl i,v,h=>by
  obtain⟨t,e⟩:=Value.isInt_shape h;exact .inl ⟨i,t,rfl,e⟩
 | .inr x,v,h=>by
  obtain⟨t,e⟩:=Value.isStrOf_shape h;exact .inr ⟨x,t,rfl,e⟩
def bL7 a b :decide ((Sum.inl a:Key)=Sum.inl b)=(a==b):=by
 by_cases e:a=b
 .subst e;simp
 .have h:¬(Sum.inl a:Key)=Sum.inl b:=λ q=>e (Sum.inl.inj q);rw[decide_eq_false h];exact(beq_eq_false_iff_ne.mpr e).symm
def bT0 a b :decide ((Sum.inr a:Key)=Sum.inr b)=decide (a=b):=by
 by_cases e:a=b
 .subst e;simp
 .have h:¬(Sum.inr a:Key)=Sum.inr b:=λ q=>e (Sum.inr.inj q);rw[decide_eq_false h,decide_eq_false e]
def bV1 a b :decide ((Sum.inl a:Key)=Sum.inr b)=false:=decide_eq_false (λ q=>nomatch q)
def bU2 a b :decide ((Sum.inr a:Key)=Sum.inl b)=false:=decide_eq_false (λ q=>nomatch q)
def aq4 prog w :lB prog w Key where
 is:=bu1
 hash:=cf9 w
 inj:=λ v a b ha hb=>by
  rcases zt ha with⟨i,t,rfl,rfl⟩|⟨x,t,rfl,rfl⟩
  .rcases zt hb with⟨j,u,rfl,e⟩|⟨y,u,rfl,e⟩
   .injection e with e1 _;rw[e1]
   .exact nomatch e
  .rcases zt hb with⟨j,u,rfl,e⟩|⟨y,u,rfl,e⟩
   .exact nomatch e
   .injection e with e1 _;rw[e1]
 byValue:=λ k v h=>by
  rcases zt h with⟨i,t,rfl,rfl⟩|⟨x,t,rfl,rfl⟩<;>rfl
 pyHash:=λ hv h=>by
  rcases zt hv with⟨i,t,rfl,rfl⟩|⟨x,t,rfl,rfl⟩
  .exact wpAny_pyHash_int h
  .exact wpAny_pyHash_str h
 eqBool:=λ hu hv h=>by
  rcases zt hu with⟨i,t,rfl,rfl⟩|⟨x,t,rfl,rfl⟩
  .rcases zt hv with⟨j,u,rfl,rfl⟩|⟨y,u,rfl,rfl⟩
   .rw[bL7]at h;exact wpAny_eqBool_int h
   .rw[bV1]at h;exact ju i t y u _ _ _ _ h
  .rcases zt hv with⟨j,u,rfl,rfl⟩|⟨y,u,rfl,rfl⟩
   .rw[bU2]at h;exact jv x t j u _ _ _ _ h
   .rw[bT0]at h;exact wpAny_eqBool_str h
 «strs»:=λ k x t v h=>by
  rcases zt h with⟨i,u,rfl,e⟩|⟨y,u,rfl,e⟩
  .exact nomatch e
  .injection e with e1 _;subst e1;cases v<;>rfl
abbrev FK:=Option Key
def fIs:FK->Value->Bool
 | none,v=>match v with|.none=>true|_=>false
 | some k,v=>bu1 k v
def fH (w:World):FK->Int
 | none=>0xFCA86420
 | some k=>cf9 w k
def qe (h:fIs none v=true):v=.none:=by
 cases v with
 | none=>rfl
 | _=>exact nomatch h
def aX0 {E:yB}(h:Q 0xFCA86420 { s with toks:=s.toks+1 }):wpAny (model P w) A (PySem.pyHash .none) Q E s:=by
 have hT:s.TypeIs .none "NoneType":=rfl;unfold PySem.pyHash pyHashByItsType;refine ae (wpAny_cRoomFor_byValue rfl ?_);refine ae (wpAny_specialOf hT dH.lookup ?_);rw[if_neg (by rw[beq_builtin_none];exact aI)];refine ae (wpAny_specialOf hT dH.lookup ?_);refine ae (wpAny_callSpecialIfBoundUnlessNone?_slot hT dH (cw dH hT F.entry_NoneType_hash
   (wpAny_ret_mkInt ?_) (F.args_NoneType_hash_1 _)))
 show wpAny _ _ (if _ then _ else _) Q E _;rw[if_pos (by decide)];exact aA h
def aT1 prog w :lB prog w FK where
 is:=fIs
 hash:=fH w
 inj:=λ v a b ha hb=>by
  cases a with
  | none =>
   cases qe ha;cases b with
   | none=>rfl
   | some k=>rcases zt hb with⟨_,_,_,e⟩|⟨_,_,_,e⟩<;>exact nomatch e
  | some k =>
   cases b with
   | none=>cases qe hb;rcases zt ha with⟨_,_,_,e⟩|⟨_,_,_,e⟩<;>exact nomatch e
   | some j=>exact congrArg some ((aq4 prog w).inj v k j ha hb)
 byValue:=λ k v h=>by
  cases k with
  | none=>cases qe h;rfl
  | some k=>exact(aq4 prog w).byValue k v h
 pyHash:=λ {A E s k v Q} hv h=>by
  cases k with
  | none=>cases qe hv;exact aX0 h
  | some k=>exact(aq4 prog w).pyHash hv h
 eqBool:=λ {A E s a b u v Q} hu hv h=>by
  cases a with
  | none =>
   cases qe hu;cases b with
   | none=>cases qe hv;exact fB _ prog w E Q h
   | some k =>
    rcases zt hv with⟨i,t,rfl,rfl⟩|⟨x,t,rfl,rfl⟩
    .exact jd i t _ _ _ _ h
    .exact je x t _ _ _ _ h
  | some k =>
   cases b with
   | none =>
    cases qe hv;rcases zt hu with⟨i,t,rfl,rfl⟩|⟨x,t,rfl,rfl⟩
    .exact jf i t _ _ _ _ h
    .exact jg x t _ _ _ _ h
   | some j =>
    refine(aq4 prog w).eqBool hu hv ?_;have e:decide (k=j)=decide (some k=some j):=by simp
    rw[e];exact h
 «strs»:=λ k x t v h=>by
  cases k with
  | none=>exact nomatch qe h
  | some k=>exact(aq4 prog w).strs k x t v h
abbrev NI:=Sum FK (List FK)
section
variable (P:aJ) (w:World)
def NIs (h:Heap):NI->Value->Prop
 | .inl f,v=>fIs f v=true
 | .inr l,v=>∃ b,v=.ref b/\la (aT1 P w) h l b
def cb1 (h:Heap)(ks:List NI)(a:Addr):Prop:=∃ o its n,h.get? a=some o/\o.cls=.type "tuple"/\o.data=.seq its n/\lc (NIs P w h) ks its.toList
end
section
variable {P:aJ} {w:World} {h h':Heap}
theorem NIs.inj (hx:NIs P w h x v)(hy:NIs P w h y v):x=y:=by
 cases x with
 | inl f =>
  cases y with
  | inl g=>exact congrArg Sum.inl ((aT1 P w).inj v f g hx hy)
  | inr l =>
   obtain⟨b,rfl,_⟩:=hy;exact absurd ((aT1 P w).byValue f _ hx) (by nofun)
 | inr l =>
  obtain⟨b,rfl,hb⟩:=hx;cases y with
  | inl g=>exact absurd ((aT1 P w).byValue g _ hy) (by nofun)
  | inr m =>
   obtain⟨c,e,hc⟩:=hy;cases e;exact congrArg Sum.inr (hb.inj hc)
theorem NIs.all_inj:∀ {x y} {vs:yH},lc (NIs P w h) x vs->lc (NIs P w h) y vs->x=y
 | _,_,_,.nil,.nil=>rfl
 | _,_,_,.cons a p,.cons b q=>by rw[a.inj b,NIs.all_inj p q]
def cb1.inj (hx:cb1 P w h x a)(hy:cb1 P w h y a):x=y:=by
 obtain⟨o,i,n,e,_,d,p⟩:=hx;obtain⟨F,J,G,e',_,d',z⟩:=hy;rw[e]at e';cases e';rw[d]at d';cases d';exact NIs.all_inj p z
def NIs.keep (k:∀ b l,la (aT1 P w) h l b->la (aT1 P w) h' l b)(hx:NIs P w h x v):NIs P w h' x v:=by
 cases x with
 | inl f=>exact hx
 | inr l=>obtain⟨b,e,p⟩:=hx;exact⟨b,e,k _ _ p⟩
end
set_option genCtorIdx true in
set_option genInjectivity true in
inductive V where
 | N|T (b:Bool)|int (i:Int)|str (x:Str)|byt (b:Array UInt8)|flt (b:UInt64)|ref (a:Addr)|ty (n:String)
 deriving DecidableEq
noncomputable def RelV:V->Value->Prop
 | .N,u=>u=Value.none
 | .T b,u=>u=Value.bool b
 | .int i,u=>∃ t,u=Value.int i t
 | .str x,u=>∃ t,u=Value.str x t
 | .byt b,u=>∃ t,u=Value.bytes b t
 | .flt b,u=>∃ t,u=Value.float b t
 | .ref a,u=>u=Value.ref a
 | .ty n,u=>u=Value.type n
abbrev Vals:List V->List Value->Prop:=lc RelV
theorem Vals.length {us:yH}(r:Vals y us):y.length=us.length:=lC r
theorem Vals.get:∀ {y} {us:yH} {i:Nat} {x},Vals y us->y[i]?=some x->∃ u,us[i]?=some u/\RelV x u
 | _,_,_,_,.nil,e=>by simp at e
 | _,_,0,_,.cons r _,e=>by simp at e;subst e;exact⟨_,rfl,r⟩
 | _,_,i+1,x,.cons _ t,e=>by
  obtain⟨u,F,z⟩:=Vals.get t (by simpa using e);exact⟨u,by simpa using F,z⟩
theorem Vals.set (r:RelV x u):∀ {y} {us:yH} i ,Vals y us->Vals (y.set i x) (us.set i u)
 | _,_,_,.nil=>.nil
 | _,_,0,.cons _ t=>.cons r t
 | _,_,i+1,.cons q t=>.cons q (Vals.set r i t)
theorem Vals.append:∀ {y ys} {us ws:yH},Vals y us->Vals ys ws->Vals (y++ys) (us++ws)
 | _,_,_,_,.nil,s=>s
 | _,_,_,_,.cons r t,s=>.cons r (Vals.append t s)
theorem Vals.take:∀ {y} {us:yH} n ,Vals y us->Vals (y.take n) (us.take n)
 | _,_,0,_=>.nil
 | _,_,_+1,.nil=>.nil
 | _,_,n+1,.cons r t=>.cons r (Vals.take n t)
theorem Vals.drop:∀ {y} {us:yH} n ,Vals y us->Vals (y.drop n) (us.drop n)
 | _,_,0,r=>r
 | _,_,_+1,.nil=>.nil
 | _,_,n+1,.cons _ t=>Vals.drop n t
def bW7:Option V->Option Value->Prop
 | some v,some u=>RelV v u
 | none,none=>True
 | _,_=>False
def KV :List (κ×V)->List (κ×Value)->Prop:=lc λ(p) (q)=>p.1=q.1/\RelV p.2 q.2
noncomputable def kV:Key->V
 | .inl i=>.int i
 | .inr x=>.str x
inductive HO where
 | J (xs:List V)
 | tp (xs:List V)
 | own (x:Addr)
 | xd (fs:List (Str×V))
 | rng (lo hi:Int)
 | frz (o:Obj) (u:HO)
 | tbl (ps:yK)
 | ext (C:Heap->Prop)
noncomputable abbrev HO.ctorIdx (x:HO):Nat:=HO.casesOn x (λ _=>0) (λ _=>1) (λ _=>2) (λ _=>3) (λ _ _=>4) (λ _ _=>5) (λ _=>6) (λ _=>7)
abbrev Hp:=Addr->Option HO
def fV:FK->V
 | none=>.N
 | some k=>kV k
def NAt (H:Hp):NI->V->Prop
 | .inl f,v=>v=fV f
 | .inr l,v=>∃ c,v=.ref c/\H c=some (.tp (l.map fV))
def NK (H:Hp)(k:List NI)(b:Addr):Prop:=∃ xs,H b=some (.tp xs)/\lc (NAt H) k xs
def NAt.mono (ht:∀ b y,H b=some (.tp y)->H' b=some (.tp y))(h:NAt H k v):NAt H' k v:=by
 cases k with
 | inl f=>exact h
 | inr l=>obtain⟨c,e,q⟩:=h;exact⟨c,e,ht _ _ q⟩
theorem NK.mono (ht:∀ b y,H b=some (.tp y)->H' b=some (.tp y))(h:NK H k b):NK H' k b:=let⟨y,e,p⟩:=h;⟨y,ht _ _ e,Paired.mono (λ _ _ z=>z.mono ht) p⟩
noncomputable def upd (H:Hp)(a:Addr)(o:HO):Hp:=λ b=>if b=a then some o else H b
def zo :upd H a o a=some o:=by unfold upd;rw[if_pos rfl]
def zu (h:b≠a):upd H a o b=H b:=by unfold upd;rw[if_neg h]
def zm {H:Hp}(h:H a=some o)(h':H b=none):a≠b:=by
 intro e;subst e;rw[h]at h';cases h'
section
variable (P:aJ) (w:World)
def af6 (P:aJ)(w:World)(H:Hp)(h:Heap)(a:Addr):HO->Prop
 | .J xs=>xs.length<=aP/\∃(its:yH) (n:Nat),Vals xs its/\h.get? a=some { cls:=.type "list",data:=.seq its.toArray n }
 | .tp xs=>xs.length<=aP/\∃ its,Vals xs its/\IsTup h a its.toArray
 | .own _=>∃ o,h.get? a=some o
 | .xd fs=>∃ mA,h.Ns1 a mA/\∀ f,bW7 (fs.lookup f) (mA f)
 | .rng lo hi=>∃ t u v,h.get? a=some { cls:=.type "range",data:=.fields #[.int lo t,.int hi u,.int 1 v] }
 | .frz o u=>h.get? a=some o/\af6 P w H h a u
 | .tbl ps=>h.get? a=some { cls:=.none,data:=.fields ps }
 | .ext C=>C h/\(∃ o,h.get? a=some o)/\∀ h1 h2:Heap,C h1->(∀ o,h1.get? a=some o->h2.get? a=some o)->C h2
def HOk (H:Hp)(h:Heap):Prop:=∀ a o,H a=some o->af6 P w H h a o
end
section
variable {P:aJ} {w:World} {H H':Hp} {h h':Heap} {a:Addr} {o:HO}
theorem af6.lt (x:af6 P w H h a o):a<h.objs.size:=by
 cases o with
 | J xs=>obtain⟨_,_,_,_,e⟩:=x;exact aL e
 | tp xs=>obtain⟨_,_,_,p⟩:=x;exact p.lt
 | own y=>obtain⟨_,e⟩:=x;exact aL e
 | xd fs=>obtain⟨_,⟨_,_,_,e,_⟩,_⟩:=x;exact aL e
 | rng lo hi=>obtain⟨_,_,_,e⟩:=x;exact aL e
 | frz ob u=>obtain⟨e,_⟩:=x;exact aL e
 | tbl ps=>exact aL (x)
 | ext C=>obtain⟨_,⟨_,e⟩,_⟩:=x;exact aL e
def af6.stay (x:af6 P w H h a o)(k:∀ b u,(b=a\/H b=some (.own a))->h.get? b=some u->h'.get? b=some u)
  (ho:∀ b,H b=some (.own a)->H' b=some (.own a)) (ht:∀ b F,H b=some (.tp F)->H' b=some (.tp F)):af6 P w H' h' a o:=by
 induction o with
 | J F=>obtain⟨z,its,n,r,e⟩:=x;exact⟨z,its,n,r,k _ _ (.inl rfl) e⟩
 | tp F=>obtain⟨z,its,r,ob,e,c⟩:=x;exact⟨z,its,r,ob,k _ _ (.inl rfl) e,c⟩
 | own y=>obtain⟨ob,e⟩:=x;exact⟨ob,k _ _ (.inl rfl) e⟩
 | xd fs=>obtain⟨G,⟨od,es,J,e,c⟩,r⟩:=x;exact⟨G,⟨od,es,J,k _ _ (.inl rfl) e,c⟩,r⟩
 | rng lo hi=>obtain⟨t,u,v,e⟩:=x;exact⟨t,u,v,k _ _ (.inl rfl) e⟩
 | frz ob u ih=>obtain⟨e,q⟩:=x;exact⟨k _ _ (.inl rfl) e,ih q⟩
 | tbl ps =>
  have e:=x;exact k a _ (.inl rfl) e
 | ext C=>obtain⟨p,⟨o,e⟩,st⟩:=x;exact⟨st _ _ p λ o q=>k _ _ (.inl rfl) q,⟨o,k _ _ (.inl rfl) e⟩,st⟩
theorem HOk.lt (x:HOk P w H h)(e:H a=some o):a<h.objs.size:=(x a o e).lt
def HOk.fresh (x:HOk P w H h)(e:h.objs.size<=a):H a=none:=by
 cases q:H a with
 | none=>rfl
 | some u=>exact absurd (aK (x.lt q) e) (bX _)
def HOk.kept (x:HOk P w H h)(k:∀ b u,h.get? b=some u->h'.get? b=some u):HOk P w H h':=λ a o e =>
 (x a o e).stay (λ b u _ q=>k b u q) (λ _ q=>q) λ _ _ q=>q
def HOk.laid (x:HOk P w H h)(k:∀ b u,h.get? b=some u->h'.get? b=some u)(hp:h.objs.size<=a)(new:af6 P w (upd H a o) h' a o):HOk P w (upd H a o) h':=λ b u e=>by
 have hn:=x.fresh hp;by_cases hb:b=a
 .subst hb;rw[zo]at e;cases e;exact new
 .rw[zu hb]at e;exact(x b u e).stay (λ c v _ q=>k c v q) (λ c q=>by rw[zu (zm q hn)];exact q) λ c y q=>by rw[zu (zm q hn)];exact q
end
def Rd (H:Hp)(a:Addr)(u:HO):Prop:=H a=some u\/∃ o,H a=some (.frz o u)
def Rd.ok (r:Rd H a u)(x:HOk P w H h):af6 P w H h a u:=by
 rcases r with r|⟨o,r⟩
 .exact x a u r
 .obtain⟨_,q⟩:=x a _ r;exact q
noncomputable def Mut:Option HO->Prop
 | some (.J _)=>True
 | some (.ext _)=>True
 | _=>False
section
variable {P:aJ} {w:World} {H:Hp} {h h':Heap} {x e:Addr} {o':HO}
def HOk.write (ok:HOk P w H h)(mu:Mut (H x))(he:e=x\/H e=some (.own x))(k:∀ b u,b≠e->h.get? b=some u->h'.get? b=some u)(Y:∃ u,h'.get? e=some u)
  (new:af6 P w (upd H x o') h' x o'):HOk P w (upd H x o') h':=λ b u q=>by
 have F:∀ c y,H c=some (.own y)->c≠x:=λ c y r z=>by subst z;rw[r]at mu;exact mu
 have G:∀ c J,H c=some (.tp J)->c≠x:=λ c J r z=>by subst z;rw[r]at mu;exact mu
 by_cases hb:b=x
 .subst hb;rw[zo]at q;cases q;exact new
 .rw[zu hb]at q;by_cases hbe:b=e
  .have Z:H b=some (.own x):=by
    rcases he with z|z
    .exact absurd (hbe.trans z) hb
    .rw[hbe];exact z
   rw[q]at Z;cases Z;obtain⟨v,hv⟩:=Y;exact⟨v,by rw[hbe];exact hv⟩
  .refine(ok b u q).stay (λ c v hc r=>k c v ?_ r) (λ c r=>by rw[zu (F c b r)];exact r) λ c J r=>by rw[zu (G c J r)];exact r
   rcases hc with rfl|hc
   .exact hbe
   .rintro rfl
    rcases he with z|z
    .exact F c b hc z
    .rw[hc]at z;cases z;exact hb rfl
end
structure Un (fs ex:List Addr)(H H':Hp)(h h':Heap):Prop where
 keep:∀ b o,h.get? b=some o->H b=none->b ∉ fs->b ∉ ex->h'.get? b=some o
 slot:∀ b o,h.get? b=some o->H b=none->b∈fs->b ∉ ex->∃ sl,h'.get? b=some { o with slots:=sl }
 free:∀ b o,h.get? b=some o->H b=none->b ∉ ex->H' b=none
 there:∀ b o,h.get? b=some o->b ∉ ex->∃ o',h'.get? b=some o'
 tups:∀ b xs,H b=some (.tp xs)->H' b=some (.tp xs)
 frzs:∀ b o u,H b=some (.frz o u)->H' b=some (.frz o u)
 tbls:∀ b ps,H b=some (.tbl ps)->∃ more,H' b=some (.tbl (ps++more))
section
variable {fs fs' ex ex':List Addr} {H H1 H2:Hp} {h h1 h2 h':Heap} {a x e:Addr} {o:HO}
def Un.any (u:Un fs ex H H1 h h1)(q:h.get? b=some ob)(n:H b=none)(hx:b ∉ ex):∃ sl,h1.get? b=some { ob with slots:=sl }:=by
 by_cases hb:b∈fs
 .exact u.slot b ob q n hb hx
 .exact⟨ob.slots,u.keep b ob q n hb hx⟩
def Un.kept (k:∀ b u,h.get? b=some u->h'.get? b=some u):Un fs ex H H h h' :=
 ⟨λ b ob q _ _ _=>k b ob q,λ b ob q _ _ _=>⟨ob.slots,k b ob q⟩,λ _ _ _ n _=>n,λ b ob q _=>⟨ob,k b ob q⟩,λ _ _ q=>q,λ _ _ _ q=>q,λ _ ps q=>⟨#[],by rw[q];simp⟩⟩
def Un.refl:Un fs ex H H h h:=Un.kept λ _ _ q=>q
def Un.laid (k:∀ b u,h.get? b=some u->h'.get? b=some u)(hp:h.objs.size<=a)(hn:H a=none):Un fs ex H (upd H a o) h h' where
 keep:=λ b u q _ _ _=>k b u q
 slot:=λ b u q _ _ _=>⟨u.slots,k b u q⟩
 free:=λ b u q n _=>by rw[zu (aC (aK (aL q) hp))];exact n
 there:=λ b u q _=>⟨u,k b u q⟩
 tups:=λ b y q=>by rw[zu (zm q hn)];exact q
 frzs:=λ b u y q=>by rw[zu (zm q hn)];exact q
 tbls:=λ b ps q=>⟨#[],by rw[zu (zm q hn),q];simp⟩
def Un.write (mu:Mut (H x))(he:e=x\/H e=some (.own x))(k:∀ b u,b≠e->h.get? b=some u->h'.get? b=some u)(y:∃ u,h'.get? e=some u):Un fs ex H (upd H x o) h h':=by
 have hx:∀ b,H b=none->b≠x:=λ b n z=>by subst z;rw[n]at mu;exact mu
 have hb:∀ b,H b=none->b≠e:=λ b n z=>by
  subst z;rcases he with r|r
  .exact hx b n r
  .rw[n]at r;cases r
 have hm:∀ b u,H b=some u->¬ Mut (some u)->b≠x:=λ b u q nm z=>by subst z;rw[q]at mu;exact nm mu
 refine⟨λ b u q n _ _=>k b u (hb b n) q,λ b u q n _ _=>⟨u.slots,k b u (hb b n) q⟩,λ b u q n _=>by rw[zu (hx b n)];exact n,λ b u q _=>?_,
  λ b F q=>by rw[zu (hm b _ q λ z=>z)];exact q,λ b u F q=>by rw[zu (hm b _ q λ z=>z)];exact q,λ b ps q=>⟨#[],by rw[zu (hm b _ q λ z=>z),q];simp⟩⟩
 by_cases hbe:b=e
 .subst hbe;exact y
 .exact⟨u,k b u hbe q⟩
end
noncomputable def trk (h:Heap)(H:Hp):List Addr:=(bE h.objs.size).filter λ a=>(H a).isSome
def bg9 (h:Heap)(H:Hp):Heap:=PySem.W.hideAll h (trk h H)
def be1 h H :(bg9 h H).objs.size=h.objs.size:=PySem.W.hideAll_size _ _
def an5 (e:h.get? b=some o)(n:H b=none):(bg9 h H).get? b=some o :=
 PySem.W.hideAll_get _ e λ hm=>by
  have q:=(iq.mp hm).2;rw[n]at q;simp at q
def bv9 (e:(bg9 h H).get? b=some o):h.get? b=some o/\H b=none:=by
 have e':=PySem.W.of_hideAll (trk h H) e;refine⟨e',?_⟩;cases q:H b with
 | none=>rfl
 | some x =>
  have hm:b∈trk h H:=iq.mpr ⟨cO.mpr (aL e'),by simp[q]⟩;have z:(bg9 h H).get? b=none:=PySem.W.hideAll_none (trk h H) hm;rw[z]at e;cases e
noncomputable def by7 (g h:Heap)(L:Addr):List (Addr×Obj):=(bE h.objs.size).filterMap λ a=>if a=L\/(g.get? a).isSome=true then none else(h.get? a).map λ o=>(a,o)
def rest (g h:Heap)(L d:Addr):List (Addr×Obj):=(by7 g h L).filter λ p=>decide (p.1≠d)
structure Mod (K:ac)(mg:yD)(base:Heap):Prop where
 kin:K.In base
 glob:base.Ns aZ mg
 blt:∃ mb,base.Ns g8 mb/\∀ x:Str,x ≠ "__name__"->mb x=br x
 nolimit:base.NoLimit
structure Cx where
 prog:aJ
 w:World
 K:ac
 mg:Str->Option Value
 base:Heap
 A:aS
 N:List Str
 s₀:af
 H₀:Hp
 env:Env
 outer:List Env
 stack:List Env
 ex:List Addr
 fn:Str->Bool
 calm:Bool
 pn:List (Addr×Obj)
 xe:Value->af->Prop
noncomputable def frs (l:List Env):List Addr:=l.filterMap (·.frame)
abbrev Cx.fs (X:Cx):List Addr:=frs X.outer
def Vis (sc:Scope)(x:Str):Prop:=sc.names.lookup x=some .local\/sc.names.lookup x=some .cell\/sc.names.lookup x=some .free
def Loc (sc:Scope)(x:Str):Prop:=sc.names.lookup x=some .local\/sc.names.lookup x=some .cell
def Look (env:Env)(h:Heap)(m:yD)(x:Str)(u:Value):Prop :=
 (env.kindOf x=some .local/\m x=some u)\/((env.kindOf x=some .cell\/env.kindOf x=some .free)/\∃ c,env.cells.lookup x=some c/\h.IsCell c (some u))
structure Cx.Ok (X:Cx):Prop where
 mod:Mod X.K X.mg X.base
 kind:X.env.scope.kind=.function
 glob:X.env.globals=aZ
 blt:X.env.builtins=g8
 above:X.s₀.heap.objs.size<=X.env.locals
 inj:∀ x y c,X.env.cells.lookup x=some c->X.env.cells.lookup y=some c->x=y
 has:∀ x,(X.env.kindOf x=some .cell\/X.env.kindOf x=some .free)->∃ c,X.env.cells.lookup x=some c
 cab:∀ x c,X.fn x=true->X.env.cells.lookup x=some c->X.s₀.heap.objs.size<=c
 hd:X.calm=true->X.A.handled=none
 frames:X.A.frames=some X.stack
 stk:X.stack=X.outer\/(X.stack=X.env::X.outer/\X.env.frame=some X.env.locals)
 exf:∀ b∈X.ex,b≠X.env.locals/\∀ x c,X.env.cells.lookup x=some c->c≠b
 bs:∀ b o,X.base.get? b=some o->X.s₀.heap.get? b=some o/\X.H₀ b=none
 bsz:X.base.objs.size<=X.s₀.heap.objs.size
 noex:∀ b o,X.base.get? b=some o->b ∉ X.ex
 exfs:∀ b∈X.ex,b ∉ X.fs
 funs:X.s₀.heap.FunFrames X.base X.outer
 frf:∀ b∈X.fs,X.H₀ b=none
structure Inv (X:Cx)(pins:yA)(W:List (Option V))(H:Hp)(s:af):Prop where
 ok:X.Ok
 os:s.os=X.s₀.os
 bare:fU s.gens
 base:Un X.fs X.ex X.H₀ H X.s₀.heap s.heap
 loc:∃ m,s.heap.Ns X.env.locals m/\∀(i:Nat) (x:Str) (v:V),X.N[i]?=some x->W[i]?=some (some v)->Vis X.env.scope x->∃ u,RelV v u/\Look X.env s.heap m x u
 cell:∀ x c,X.env.cells.lookup x=some c->∃ v,s.heap.IsCell c v
 free:H X.env.locals=none
 freeC:∀ x c,X.env.cells.lookup x=some c->H c=none
 pin:∀ p∈X.pn++pins,s.heap.get? p.1=some p.2/\H p.1=none/\p.1≠X.env.locals/\p.1 ∉ X.fs/\∀ v,p.2.data≠.cell v
 hok:HOk X.prog X.w H s.heap
 len:W.length=X.N.length
section
variable {X:Cx} {pins:yA} {W:List (Option V)} {H H':Hp} {s:af} {h':Heap}
def Cx.Ok.nofr (ok:X.Ok)(e:X.base.get? b=some o):b ∉ X.fs:=λ hb=>by
 have:=(ok.funs.mem hb).1;rw[e]at this;cases this
theorem Inv.bs (I:Inv X pins W H s):∀ b o,X.base.get? b=some o->s.heap.get? b=some o/\H b=none:=λ b o e =>
 ⟨I.base.keep b o (I.ok.bs b o e).1 (I.ok.bs b o e).2 (I.ok.nofr e) (I.ok.noex b o e),I.base.free b o (I.ok.bs b o e).1 (I.ok.bs b o e).2 (I.ok.noex b o e)⟩
def Inv.bk (I:Inv X pins W H s):∀ b o,X.base.get? b=some o->s.heap.get? b=some o:=λ b o e=>(I.bs b o e).1
theorem Inv.mod (I:Inv X pins W H s):Mod X.K X.mg X.base:=I.ok.mod
def Inv.kIn (I:Inv X pins W H s):X.K.In s.heap:=I.ok.mod.kin.keeps I.bk
theorem Inv.nolimit (I:Inv X pins W H s):s.heap.NoLimit:=I.ok.mod.nolimit.keeps I.bk
theorem Inv.lt (I:Inv X pins W H s):X.env.locals<s.heap.objs.size:=let⟨_,hn,_⟩:=I.loc;hn.lt
def Inv.sz (I:Inv X pins W H s):X.s₀.heap.objs.size<=s.heap.objs.size:=aq I.ok.above (fW I.lt)
def Inv.nofs (I:Inv X pins W H s){a:Addr}(h:s.heap.objs.size<=a):a ∉ X.fs:=λ hb=>by
 obtain⟨_,o,ho,_⟩:=I.ok.funs.mem hb;exact absurd (aK (aL ho) (aq I.sz h)) (bX _)
def Inv.cne (I:Inv X pins W H s):∀ x c,X.env.cells.lookup x=some c->c≠X.env.locals:=λ x c e z=>by
 obtain⟨v,o,ho,hd⟩:=I.cell x c e;obtain⟨m,⟨G,es,J,F,y,_⟩,_⟩:=I.loc;rw[z,F]at ho;cases ho;rw[y]at hd;cases hd
theorem Inv.funs (I:Inv X pins W H s):s.heap.FunFrames X.base X.outer:=by
 have all:∀ l ,(∀ b∈frs l,b∈X.fs)->X.s₀.heap.FunFrames X.base l->s.heap.FunFrames X.base l:=by
  intro l
  induction l with
  | nil=>intro _ _;trivial
  | cons env r ih =>
   intro hs hl;obtain⟨hk,⟨L,o,hf,hn,ho,hd⟩,hr⟩:=hl;have hL:=hs L (by unfold frs;rw[bA,hf];exact au);obtain⟨sl,e⟩:=I.base.slot L o ho (I.ok.frf L hL) hL λ z=>I.ok.exfs L z hL;exact⟨hk,⟨L,_,hf,hn,e,hd⟩,ih (λ b hb=>hs b (by unfold frs;rw[bA,hf];exact ai _ hb)) hr⟩
 exact all X.outer (λ _ hb=>hb) I.ok.funs
theorem Inv.stack (I:Inv X pins W H s):s.heap.FunFrames X.base X.stack:=by
 rcases I.ok.stk with e|⟨e,hf⟩
 .rw[e];exact I.funs
 .rw[e];obtain⟨m,hn,_⟩:=I.loc;refine .cons (by rw[I.ok.kind];decide) hf hn ?_ I.funs;exact Heap.get?_none_of_le (aq I.ok.bsz I.ok.above)
def Inv.stkSub (I:Inv X pins W H s):∀ b∈frs X.stack,b∈X.env.locals::X.fs:=λ b hb=>by
 rcases I.ok.stk with e|⟨e,hf⟩
 .rw[e]at hb;exact ai _ hb
 .rw[e]at hb;unfold frs at hb;rw[bA,hf]at hb;exact hb
def Inv.stkFree (I:Inv X pins W H s):∀ b∈frs X.stack,H b=none:=λ b hb=>by
 rcases aw.mp (I.stkSub b hb)with e|hb
 .rw[e];exact I.free
 .obtain⟨_,o,ho,_⟩:=I.ok.funs.mem hb;exact I.base.free b o ho (I.ok.frf b hb) λ z=>I.ok.exfs b z hb
def Inv.step {ch:List Addr}(I:Inv X pins W H s)
  (G:∀ b∈ch,(b∈X.ex\/X.s₀.heap.objs.size<=b)/\b≠X.env.locals/\(∀ x c,X.env.cells.lookup x=some c->c≠b)/\∀ p∈X.pn++pins,p.1≠b)
  (keep:∀ b o,b≠X.env.locals->b ∉ X.fs->b ∉ ch->s.heap.get? b=some o->H b=none->h'.get? b=some o)
  (slot:∀ b o,b≠X.env.locals->b∈X.fs->b ∉ ch->s.heap.get? b=some o->H b=none->∃ sl,h'.get? b=some { o with slots:=sl }) (free:∀ b o,b ∉ ch->s.heap.get? b=some o->H b=none->H' b=none)
  (there:∀ b o,b ∉ ch->s.heap.get? b=some o->∃ Z,h'.get? b=some Z)
  (tups:∀ b Y,H b=some (.tp Y)->H' b=some (.tp Y)) (frzs:∀ b o u,H b=some (.frz o u)->H' b=some (.frz o u)) (tbls:∀ b ps,H b=some (.tbl ps)->∃ a0,H' b=some (.tbl (ps++a0)))
  (ns:∀ m,s.heap.Ns X.env.locals m->h'.Ns X.env.locals m) (hok:HOk X.prog X.w H' h') (hg:fU g') :
  Inv X pins W H' { s with heap:=h',gens:=g',drawn:=d',toks:=t' }:=by
 have a1:∀ b o,X.s₀.heap.get? b=some o->b≠X.env.locals:=λ b o e=>aC (aK (aL e) I.ok.above);have J:∀ b o,X.s₀.heap.get? b=some o->b ∉ X.ex->b ∉ ch:=λ b o e hx hb=>by
  rcases(G b hb).1 with z|z
  .exact hx z
  .exact absurd (aK (aL e) z) (bX _)
 have y:∀ x c,X.env.cells.lookup x=some c->∀ v,s.heap.IsCell c v->h'.IsCell c v:=λ x c e v ⟨o,ho,hd⟩=>by
  have F:c ∉ ch:=λ z=>(G c z).2.2.1 x c e rfl;by_cases hc:c∈X.fs
  .obtain⟨sl,q⟩:=slot c o (I.cne x c e) hc F ho (I.freeC x c e);exact⟨_,q,hd⟩
  .exact⟨o,keep c o (I.cne x c e) hc F ho (I.freeC x c e),hd⟩
 refine⟨I.ok,I.os,hg,⟨λ b o e n hb hx=>?_,λ b o e n hb hx=>?_,λ b o e n hx=>?_,λ b o e hx=>?_,λ b Y e=>tups b Y (I.base.tups b Y e),λ b o Y e=>frzs b o Y (I.base.frzs b o Y e),λ b ps e=>?_⟩,?_,λ x c e=>?_,?_,λ x c e=>?_,λ p hp=>?_,hok,I.len⟩
 .exact keep b o (a1 b o e) hb (J b o e hx) (I.base.keep b o e n hb hx) (I.base.free b o e n hx)
 .obtain⟨sl,e1⟩:=I.base.slot b o e n hb hx;obtain⟨a2,e2⟩:=slot b _ (a1 b o e) hb (J b o e hx) e1 (I.base.free b o e n hx);exact⟨a2,e2⟩
 .obtain⟨Z,e1⟩:=I.base.there b o e hx;exact free b Z (J b o e hx) e1 (I.base.free b o e n hx)
 .obtain⟨Z,e1⟩:=I.base.there b o e hx;exact there b Z (J b o e hx) e1
 .obtain⟨m1,e1⟩:=I.base.tbls b ps e;obtain⟨m2,e2⟩:=tbls b _ e1;exact⟨m1++m2,by rw[e2,jw]⟩
 .obtain⟨m,hn,hl⟩:=I.loc;refine⟨m,ns m hn,λ i x v e1 e2 e3=>?_⟩;obtain⟨u,r,l⟩:=hl i x v e1 e2 e3;refine⟨u,r,?_⟩;rcases l with l|⟨k,c,e,z⟩
  .exact .inl l
  .exact .inr ⟨k,c,e,y x c e _ z⟩
 .obtain⟨v,z⟩:=I.cell x c e;exact⟨v,y x c e v z⟩
 .obtain⟨m,⟨o,_,_,ho,_⟩,_⟩:=I.loc;exact free _ o (λ z=>(G _ z).2.1 rfl) ho I.free
 .obtain⟨v,o,ho,hd⟩:=I.cell x c e;exact free c o (λ z=>(G c z).2.2.1 x c e rfl) ho (I.freeC x c e)
 .obtain⟨e,n,ne,nf,d⟩:=I.pin p hp;have F:p.1 ∉ ch:=λ z=>(G p.1 z).2.2.2 p hp rfl;exact⟨keep p.1 p.2 ne nf F e n,free p.1 p.2 F e n,ne,nf,d⟩
def Inv.un (I:Inv X pins W H s)(u:Un X.fs [] H H' s.heap h')(hok:HOk X.prog X.w H' h'):Inv X pins W H' { s with heap:=h',toks:=t' }:=by
 obtain⟨m,⟨o,es,Z,ho,r⟩,_⟩:=id I.loc;obtain⟨sl,hL⟩:=u.any ho I.free (by simp);exact I.step (ch:=[]) (λ _ z=>nomatch z) (λ b o _ hb _ e n=>u.keep b o e n hb (by simp)) (λ b o _ hb _ e n=>u.slot b o e n hb (by simp)) (λ b o _ e n=>u.free b o e n (by simp)) (λ b o _ e=>u.there b o e (by simp)) u.tups u.frzs u.tbls (λ m' hm=>by
  obtain⟨Y,F,G,y,J⟩:=hm;rw[ho]at y;cases y;exact⟨_,F,G,hL,J⟩) hok I.bare
def Inv.call (I:Inv X pins W H s)(u:Un (frs X.stack) ch H H' s.heap h')(hok:HOk X.prog X.w H' h')(hg:fU g')
  (F:∀ b∈ch,(b∈X.ex\/X.s₀.heap.objs.size<=b)/\b≠X.env.locals/\(∀ x c,X.env.cells.lookup x=some c->c≠b)/\∀ p∈X.pn++pins,p.1≠b) :
  Inv X pins W H' { s with heap:=h',gens:=g',drawn:=d',toks:=t' }:=by
 obtain⟨m,⟨o,es,ep,ho,r⟩,_⟩:=id I.loc;obtain⟨sl,hL⟩:=u.any ho I.free λ z=>(F _ z).2.1 rfl;exact I.step F (λ b o hL hb hc e n=>u.keep b o e n (λ z=>(aw.mp (I.stkSub b z)).elim hL hb) hc) (λ b o _ _ hc e n=>u.any e n hc) (λ b o hc e n=>u.free b o e n hc) (λ b o hc e=>u.there b o e hc) u.tups u.frzs u.tbls (λ m' hm=>by
  obtain⟨Z,J,G,y,Y⟩:=hm;rw[ho]at y;cases y;exact⟨_,J,G,hL,Y⟩) hok hg
def Inv.turned (I:Inv X pins W H s)(k:∀ b o,b≠it->s.heap.get? b=some o->h'.get? b=some o)(hn:H it=none)(hL:it≠X.env.locals)
  (J:it∈X.ex\/X.s₀.heap.objs.size<=it) (F:∀ x c,X.env.cells.lookup x=some c->c≠it) (h3:∀ p∈X.pn++pins,p.1≠it):Inv X pins W H { s with heap:=h',toks:=t' }:=by
 have y:∀ b u,H b=some u->b≠it:=λ b u e z=>by rw[z,hn]at e;cases e
 refine I.step (ch:=[it]) (λ b hb=>?_) (λ b o _ _ hc e _=>k b o (λ z=>hc (by simp[z])) e) (λ b o _ _ hc e _=>⟨o.slots,k b o (λ z=>hc (by simp[z])) e⟩) (λ _ _ _ _ n=>n)
  (λ b o hc e=>⟨o,k b o (λ z=>hc (by simp[z])) e⟩) (λ _ _ e=>e) (λ _ _ _ e=>e) (λ b ps e=>⟨#[],by rw[e];simp⟩) (λ m hm=>?_) (λ b u e=>?_) I.bare
 .have e:=by simpa using hb
  subst e;exact⟨J,hL,F,h3⟩
 .obtain⟨o,es,G,ho,r⟩:=hm;exact⟨o,es,G,k _ o (d7 hL) ho,r⟩
 .refine(I.hok b u e).stay (λ c v hc q=>k c v ?_ q) (λ _ q=>q) λ _ _ q=>q;rcases hc with z|z
  .rw[z];exact y b u e
  .exact y c _ z
def Inv.tok (I:Inv X pins W H s) t :Inv X pins W H { s with toks:=t }:=I.un Un.refl I.hok
theorem Inv.kept (I:Inv X pins W H s)(k:∀ b u,s.heap.get? b=some u->h'.get? b=some u):Inv X pins W H { s with heap:=h',toks:=t' }:=I.un (Un.kept k) (I.hok.kept k)
theorem Inv.laid {a:Addr}(I:Inv X pins W H s)(k:∀ b u,s.heap.get? b=some u->h'.get? b=some u)(hp:s.heap.objs.size<=a)(new:af6 X.prog X.w (upd H a o) h' a o) :
  Inv X pins W (upd H a o) { s with heap:=h',toks:=t' }:=I.un (Un.laid k hp (I.hok.fresh hp)) (I.hok.laid k hp new)
theorem Inv.write (I:Inv X pins W H s)(mu:Mut (H x))(he:e=x\/H e=some (.own x))(k:∀ b u,b≠e->s.heap.get? b=some u->h'.get? b=some u)(y:∃ u,h'.get? e=some u)
  (new:af6 X.prog X.w (upd H x o) h' x o):Inv X pins W (upd H x o) { s with heap:=h',toks:=t' }:=I.un (Un.write mu he k y) (I.hok.write mu he k y new)
def Inv.pins_of (I:Inv X pins W H s)(h:∀ p∈y,s.heap.get? p.1=some p.2/\H p.1=none/\p.1≠X.env.locals/\p.1 ∉ X.fs/\∀ v,p.2.data≠.cell v):Inv X y W H s :=
 ⟨I.ok,I.os,I.bare,I.base,I.loc,I.cell,I.free,I.freeC,λ p hp=>(cH.mp hp).elim (λ z=>I.pin p (c5 _ z)) (h p),I.hok,I.len⟩
def aw8 {N:yI}(hN:N.Nodup){ j:Nat}(a:N[i]?=some x)(b:N[j]?=some x):i=j:=by
 obtain⟨z,e1⟩:=ah.mp a;obtain⟨y,e2⟩:=ah.mp b;exact(List.getElem_inj hN).mp (e1.trans e2.symm)
def aD2 {E:yB}(I:Inv X pins W H s)(hN:X.N.Nodup)(hi:X.N[i]?=some x)(hx:Loc X.env.scope x)(r:RelV v u)
  (h:∀ s',Inv X pins (W.set i (some v)) H s'->(∃ a,bN a s.heap s'.heap/\(a=X.env.locals\/X.env.cells.lookup x=some a))->Q () s') (hf:autoParam (X.fn x=true\/X.env.scope.names.lookup x=some .local) Zq0._auto_1):wpAny M A (lH X.env x u) Q E s:=by
 obtain⟨m,hn,hl⟩:=id I.loc;have a1:(X.env.scope.kind==.class||(X.env.scope.kind==.module&&X.env.locals != X.env.globals))=false:=by rw[I.ok.kind];rfl
 have a0:i < W.length:=by rw[I.len];exact(ah.mp hi).1
 have cne:=I.cne;have F:∀ {a:Addr} {h':Heap},(∃ o,s.heap.get? a=some o/\H a=none)->bN a s.heap h'->HOk X.prog X.w H h':=λ {a h'} ha hs b ob e=>by
  obtain⟨_,_,G⟩:=ha;refine(I.hok b ob e).stay (λ c w' hc q=>(hs.2 c ?_).trans q) (λ _ q=>q) λ _ _ q=>q
  rintro rfl
  rcases hc with rfl|hc
  .rw[G]at e;cases e
  .rw[G]at hc;cases hc
 rcases hx with hk|hk
 .refine wpAny_storeName_local hk hn (λ h' a3 hs=>?_) a1;obtain⟨oL,_,_,a4,_⟩:=id hn;refine h _ ⟨I.ok,I.os,I.bare,⟨λ b o e n hb hx=>?_,λ b o e n hb hx=>?_,I.base.free,λ b o e hx=>?_,I.base.tups,I.base.frzs,I.base.tbls⟩,⟨_,a3,λ j y v' e1 e2 e3=>?_⟩,λ y c e=>?_,I.free,I.freeC,λ p hp=>?_,F ⟨oL,a4,I.free⟩ hs,by simpa using I.len⟩ ⟨_,hs,.inl rfl⟩
  .exact(hs.2 b (aC (aK (aL e) I.ok.above))).trans (I.base.keep b o e n hb hx)
  .obtain⟨sl,e1⟩:=I.base.slot b o e n hb hx;exact⟨sl,(hs.2 b (aC (aK (aL e) I.ok.above))).trans e1⟩
  .obtain⟨o',e1⟩:=I.base.there b o e hx;exact⟨o',(hs.2 b (aC (aK (aL e) I.ok.above))).trans e1⟩
  .by_cases hj:j=i
   .subst hj;rw[hi]at e1;cases e1;rw[aX a0]at e2;cases e2;exact⟨u,r,.inl ⟨hk,by simp⟩⟩
   .rw[bI (d7 hj)]at e2;obtain⟨u',r',q⟩:=hl j y v' e1 e2 e3;refine⟨u',r',?_⟩;rcases q with⟨k,e⟩|⟨k,c,e,z⟩
    .refine .inl ⟨k,?_⟩;have:y≠x:=λ e=>hj (aw8 hN e1 (e▸hi));simp[this,e]
    .exact .inr ⟨k,c,e,z.sameBut hs (cne y c e)⟩
  .obtain⟨w',z⟩:=I.cell y c e;exact⟨w',z.sameBut hs (cne y c e)⟩
  .obtain⟨e,n,ne,nf,d⟩:=I.pin p hp;exact⟨(hs.2 p.1 ne).trans e,n,ne,nf,d⟩
 .have J:X.fn x=true:=by
   rcases hf with z|z
   .exact z
   .rw[z]at hk;cases hk
  obtain⟨c,hc⟩:=I.ok.has x (.inl hk);obtain⟨w',z⟩:=I.cell x c hc;refine wpAny_storeName_cell I.ok.kind hk hc z (λ h' a2 hs=>?_);obtain⟨oc,Z,Y⟩:=id z;refine h { s with heap:=h' } ⟨I.ok,I.os,I.bare,⟨λ b o e n hb hx=>?_,λ b o e n hb hx=>?_,I.base.free,λ b o e hx=>?_,I.base.tups,I.base.frzs,I.base.tbls⟩,⟨m,hn.sameBut hs (d7 (cne x c hc)),λ j y v' e1 e2 e3=>?_⟩,λ y c' e=>?_,I.free,I.freeC,λ p hp=>?_,F ⟨oc,Z,I.freeC x c hc⟩ hs,by simpa using I.len⟩ ⟨c,hs,.inr hc⟩
  .exact(hs.2 b (aC (aK (aL e) (I.ok.cab x c J hc)))).trans (I.base.keep b o e n hb hx)
  .obtain⟨sl,e1⟩:=I.base.slot b o e n hb hx;exact⟨sl,(hs.2 b (aC (aK (aL e) (I.ok.cab x c J hc)))).trans e1⟩
  .obtain⟨o',e1⟩:=I.base.there b o e hx;exact⟨o',(hs.2 b (aC (aK (aL e) (I.ok.cab x c J hc)))).trans e1⟩
  .by_cases hj:j=i
   .subst hj;rw[hi]at e1;cases e1;rw[aX a0]at e2;cases e2;exact⟨u,r,.inr ⟨.inl hk,c,hc,a2⟩⟩
   .rw[bI (d7 hj)]at e2;obtain⟨u',r',q⟩:=hl j y v' e1 e2 e3;refine⟨u',r',?_⟩;rcases q with q|⟨k,c',e,z'⟩
    .exact .inl q
    .refine .inr ⟨k,c',e,z'.sameBut hs ?_⟩
     rintro rfl
     exact hj (aw8 hN e1 (I.ok.inj _ _ _ e hc▸hi))
  .by_cases hcc:c'=c
   .subst hcc;exact⟨_,a2⟩
   .obtain⟨w2,z2⟩:=I.cell y c' e;exact⟨w2,z2.sameBut hs hcc⟩
  .obtain⟨e,n,ne,nf,d⟩:=I.pin p hp;refine⟨(hs.2 p.1 ?_).trans e,n,ne,nf,d⟩;intro q;rw[q,Z]at e;have q':oc=p.2:=aB e;exact d w' (by rw[<-q'];exact Y)
def an3 {E:yB}(I:Inv X pins W H s)(hN:X.N.Nodup)(z:X.N[i]?=some x)(hx:Loc X.env.scope x)(r:RelV v u)
  (h:∀ s',Inv X pins (W.set i (some v)) H s'->Q () s') (hf:autoParam (X.fn x=true\/X.env.scope.names.lookup x=some .local) Zq0._auto_1):wpAny M A (lH X.env x u) Q E s :=
 aD2 I hN z hx r (λ s' y _=>h s' y) hf
def Inv.call' (I:Inv X pins W H s)(ho:s'.os=s.os)(u:Un (frs X.stack) ch H H' s.heap s'.heap)(hok:HOk X.prog X.w H' s'.heap)(hg:fU s'.gens)
  (y:∀ b∈ch,(b∈X.ex\/X.s₀.heap.objs.size<=b)/\b≠X.env.locals/\(∀ x c,X.env.cells.lookup x=some c->c≠b)/\∀ p∈X.pn++pins,p.1≠b):Inv X pins W H' s':=by
 obtain⟨h',g',d',t',z⟩:=s';have e:=ho;subst e;exact I.call u hok hg y
end
abbrev XK:=Value->Option Addr->Hp->Prop
abbrev St:=List (Option V)
abbrev VK:=V->Hp->Prop
abbrev TE:=St->Hp->VK->Prop
abbrev TT:=St->Hp->(Bool->Hp->Prop)->Prop
abbrev TA:=St->Hp->(List V->Hp->Prop)->Prop
structure Ends where
 nx:St->Hp->Prop
 rt:VK
 bk:St->Hp->Prop:=λ _ _=>False
 ct:St->Hp->Prop:=λ _ _=>False
abbrev TS:=Ends->St->Hp->Prop
def EP (X:Cx)(pins:yA)(W:St)(Q:VK)(u:Value)(s':af):Prop:=∃ v H',Inv X pins W H' s'/\RelV v u/\Q v H'
def TP (X:Cx)(pins:yA)(W:St)(Q:Bool->Hp->Prop)(b:Bool)(s':af):Prop:=∃ H',Inv X pins W H' s'/\Q b H'
def AP (X:Cx)(pins:yA)(W:St)(Q:List V->Hp->Prop)(us:yH)(s':af):Prop:=∃ vs H',Inv X pins W H' s'/\Vals vs us/\Q vs H'
def SP (X:Cx)(pins:yA)(D:Ends)(f:Flow)(s':af):Prop :=
 match f with
 | .next=>∃ W' H',Inv X pins W' H' s'/\D.nx W' H'
 | .brk=>∃ W' H',Inv X pins W' H' s'/\D.bk W' H'
 | .cont=>∃ W' H',Inv X pins W' H' s'/\D.ct W' H'
 | .ret u=>∃ v W' H',Inv X pins W' H' s'/\RelV v u/\D.rt v H'
def PE (X:Cx)(e:Expr)(t:TE):Prop :=
 ∀ pins s (W:St) H Q ,Inv X pins W H s->t W H Q->wpAny (model X.prog X.w) X.A (eval e X.env) (EP X pins W Q) X.xe s
def PT (X:Cx)(e:Expr)(t:TT):Prop :=
 ∀ pins s (W:St) H Q ,Inv X pins W H s->t W H Q->wpAny (model X.prog X.w) X.A (gH e X.env (eval e X.env)) (TP X pins W Q) X.xe s
def PW (X:Cx)(e:Expr)(t:TT):Prop :=
 ∀ whole pins s (W:St) H Q ,Inv X pins W H s->t W H Q->wpAny (model X.prog X.w) X.A (gH e X.env whole) (TP X pins W Q) X.xe s
def PW.pt (h:PW X e t):PT X e t:=h _
def PA (X:Cx)(es:yL)(t:TA):Prop :=
 ∀ pos pins s (W:St) H Q ,Inv X pins W H s->t W H Q->wpAny (model X.prog X.w) X.A (spliced (eY pos (bD es X.env))) (AP X pins W Q) X.xe s
def PS (X:Cx)(st:Stmt)(t:TS):Prop :=
 ∀ pins s (W:St) H D ,Inv X pins W H s->t D W H->wpAny (model X.prog X.w) X.A (exec st X.env) (SP X pins D) X.xe s
def PSs (X:Cx)(st:yM)(t:TS):Prop :=
 ∀ pins s (W:St) H D ,Inv X pins W H s->t D W H->wpAny (model X.prog X.w) X.A (execs st X.env) (SP X pins D) X.xe s
def thn {M}{A}{E:yB}{s}(h:wpAny M A t Q E s)(z:∀ a s,Q a s->y a s):wpAny M A t y E s:=bf h z λ _ _ x=>x
section
variable {X:Cx}
def bin (ha:PE X a J)(hb:PE X b tb){W:St}{R:V->V->Hp->Prop}(I:Inv X z W H s)(h:J W H λ x G=>tb W G λ y F=>R x y F)
  {f:Value->Value->Sem α}
  (hf:∀ v u s2 x y F,Inv X z W F s2->RelV x v->RelV y u->R x y F->wpAny (model X.prog X.w) X.A (f v u) Q X.xe s2) :
  wpAny (model X.prog X.w) X.A (eval a X.env) (λ v s₁=>wpAny (model X.prog X.w) X.A (eval b X.env) (λ u s₂=>wpAny (model X.prog X.w) X.A (f v u) Q X.xe s₂) X.xe s₁) X.xe s:=by
 refine thn (ha z s W H _ I h) λ v s1 ⟨x,G,Y,r1,q1⟩=>?_;refine thn (hb z s1 W G _ Y q1) λ u s2 ⟨y,F,Z,r2,q2⟩=>?_;exact hf v u s2 x y F Z r1 r2 q2
def bq8 (i:Nat):TE:=λ W H Q=>∃ v,W[i]?=some (some v)/\Q v H
def tC (v:V):TE:=λ _ H Q=>Q v H
def aE6 {pos}(hN:X.N[i]?=some x)(hv:Vis X.env.scope x)(hd:autoParam ((x==("__debug__":Str))=false) Zq1._auto_1)(z:autoParam ((x==("__classdict__":Str))=false) Zq1._auto_1):PE X (.Name x pos) (bq8 i):=by
 intro y s W H Q I h;obtain⟨v,e,h⟩:=h;obtain⟨m,hn,hl⟩:=I.loc;obtain⟨u,r,l⟩:=hl i x v hN e hv;have fin:EP X y W Q u s:=⟨v,H,I,r,h⟩
 rcases l with⟨hk,hm⟩|⟨hk,c,hc,hcell⟩
 .exact lf (wpAny_loadName_local I.ok.kind hk hn hm fin) hd
 .rcases hk with hk|hk
  .exact lf (wpAny_loadName_cell I.ok.kind hk hc hcell fin) hd
  .exact lf (wpAny_loadName_free I.ok.kind hk hc hcell fin z) hd
def bo6 :PE X (.Constant (.int i) j pos) (tC (.int i)):=λ _ _ _ H _ I h=>wpAny_Constant_int ⟨.int i,H,I.tok _,⟨_,rfl⟩,h⟩
def bC7 :PE X (.Constant (.bool b) j pos) (tC (.T b)):=λ _ _ _ H _ I h=>Constant_bool ⟨.T b,H,I,rfl,h⟩
def bJ0 :PE X (.Constant .none j pos) (tC .N):=λ _ _ _ H _ I h=>Constant_none ⟨.N,H,I,rfl,h⟩
def au4 :PE X (.Constant (.str x) j pos) (tC (.str x)):=λ _ _ _ H _ I h=>Calls.Constant_str ⟨.str x,H,I.tok _,⟨_,rfl⟩,h⟩
def Gl (X:Cx)(x:Str):Prop:=X.env.kindOf x=some .globalImplicit
def aA1 {E:yB}{W:St}{Q:yB}(I:Inv X y W H s)(hg:Gl X x)(hm:X.mg x=some u)(h:Q u s)
  (hd:autoParam ((x==("__debug__":Str))=false) Zq1._auto_1):wpAny (model X.prog X.w) X.A (eval (.Name x pos) X.env) Q E s :=
 fZ I.ok.kind hg (Calls.loadGlobal_global (by rw[I.ok.glob];exact I.mod.glob.keeps I.bk) hm h) hd
def aB2 {E:yB}{W:St}{pos}{Q:yB}(I:Inv X y W H s)(hg:Gl X x)(hm:X.mg x=none)(hv:br x=some u)(h:Q u s)
  (hn:autoParam (x ≠ "__name__") Zq1._auto_1) (hd:autoParam ((x==("__debug__":Str))=false) Zq1._auto_1):wpAny (model X.prog X.w) X.A (eval (.Name x pos) X.env) Q E s:=by
 obtain⟨G,F,z⟩:=I.mod.blt;exact fZ I.ok.kind hg (Calls.loadGlobal_builtin (by rw[I.ok.glob];exact I.mod.glob.keeps I.bk) hm (by rw[I.ok.blt];exact F.keeps I.bk) ((z x hn).trans hv) h) hd
def ax4 (hg:Gl X x)(hm:X.mg x=some u)(r:RelV v u)(hd:autoParam ((x==("__debug__":Str))=false) Zq1._auto_1):PE X (.Name x pos) (tC v) :=
 λ _ _ _ H _ I h=>aA1 I hg hm ⟨v,H,I,r,h⟩ hd
def aX6 {pos}(hg:Gl X x)(hm:X.mg x=none)(hv:br x=some u)(r:RelV v u)(hn:autoParam (x ≠ "__name__") Zq1._auto_1)(hd:autoParam ((x==("__debug__":Str))=false) Zq1._auto_1):PE X (.Name x pos) (tC v) :=
 λ _ _ _ H _ I h=>aB2 I hg hm hv ⟨v,H,I,r,h⟩ hn hd
variable {a b:Expr} {ta tb:TE} {pos:Pos}
def PC (X:Cx)(op:CmpOp)(a b:Expr)(t:TE):Prop :=
 ∀ pins s (W:St) H Q ,Inv X pins W H s->t W H Q ->
  wpAny (model X.prog X.w) X.A (eval a X.env) (λ v s₁=>wpAny (model X.prog X.w) X.A (eval b X.env) (λ u s₂=>wpAny (model X.prog X.w) X.A (cW op v u) (EP X pins W Q) X.xe s₂) X.xe s₁) X.xe s
def aN6 b (h:op≠.In)(y:op≠.NotIn):c7 op b=false:=by
 have e1:(op==CmpOp.In)=false:=by cases op<;>first|rfl|exact absurd rfl h
 have e2:(op==CmpOp.NotIn)=false:=by cases op<;>first|rfl|exact absurd rfl y
 cases b<;>simp[c7,e1,e2]
def cg1 (ta:TE):TE:=λ W H Q=>ta W H λ x H1=>Q (.T (decide (x=.N))) H1
def RelV.none_iff (r:RelV x v):(v==Value.none)=decide (x=.N):=by
 cases x with
 | N=>cases r;rfl
 | T _=>cases r;rfl
 | int _=>obtain⟨t,rfl⟩:=r;rfl
 | str _=>obtain⟨t,rfl⟩:=r;rfl
 | byt _=>obtain⟨t,rfl⟩:=r;rfl
 | flt _=>obtain⟨t,rfl⟩:=r;rfl
 | ref _=>cases r;rfl
 | ty _=>cases r;rfl
def br4 (ha:PE X a ta):PC X .Is a (.Constant .none j pos') (cg1 ta):=by
 intro y s W H Q I h;refine thn (ha y s W H _ I h) λ v s1 ⟨x,F,z,r1,q1⟩=>?_;exact Constant_none (is_none_gen ⟨.T _,F,z,by rw[r1.none_iff];rfl,q1⟩)
def tB (t:TE):TT:=λ W H Q=>t W H λ x H1=>∃ c,x=.T c/\Q c H1
def bM1 (h:PC X op a b t)(z:autoParam (c7 op b=false) Zq2._auto_1):PE X (.Compare a [op] [b] pos) t:=λ y s W H Q I hw=>wpAny_Compare1 (h y s W H Q I hw) z
def bL9 (h:PC X op a b t)(z:autoParam (c7 op b=false) Zq2._auto_1):PT X (.Compare a [op] [b] pos) (tB t):=by
 intro y s W H Q I hw;refine iw (thn (h y s W H _ I hw) λ v Y z=>thn z λ u s2 F=>thn F λ c s3 ⟨x,J,G,r1,q1⟩=>?_) z;obtain⟨d,rfl,q⟩:=q1;cases r1;exact bO ⟨J,G,q⟩
def aW1 (h:PE X e t)(he:autoParam (∀ y,gH e X.env y=(do let v <- y;standAt e.pos;kX [v] (truthy v))) Zq3._auto_1):PT X e (tB t):=by
 intro z s W H Q I hw;refine isTrue_plain (thn (h z s W H _ I hw) λ v s1 ⟨x,G,F,r1,q1⟩=>?_) (he _);obtain⟨d,rfl,q⟩:=q1;cases r1;exact bO ⟨G,F,q⟩
variable {tA tB':TT} {rest:yL}
def cg0 (t u:TT):TT:=λ W H Q=>t W H λ c H1=>if c=true then u W H1 Q else Q false H1
def tOr (t u:TT):TT:=λ W H Q=>t W H λ c H1=>if c=true then Q true H1 else u W H1 Q
def cg6 (t:TT):TT:=λ W H Q=>t W H λ c H1=>Q (!c) H1
def bu2 (ha:PT X a tA):PW X (.BoolOp .And [a] pos) tA:=by
 intro z y s W H Q I h;refine isTrue_and (thn (ha y s W H Q I h) λ c F e=>?_);cases c with
 | true=>exact isTrue_and_nil e
 | false=>exact e
def bI3 (ha:PT X a tA):PW X (.BoolOp .Or [a] pos) tA:=by
 intro z y s W H Q I h;refine isTrue_or (thn (ha y s W H Q I h) λ c F e=>?_);cases c with
 | false=>exact isTrue_or_nil e
 | true=>exact e
def bs7 (ha:PT X a tA)(hb:PW X (.BoolOp .And (b::rest) pos) tB'):PW X (.BoolOp .And (a::b::rest) pos) (cg0 tA tB'):=by
 intro G y s W H Q I h;refine isTrue_and (thn (ha y s W H _ I h) λ c s1 ⟨F,z,q1⟩=>?_);cases c with
 | true=>exact hb G y s1 W F Q z q1
 | false=>exact⟨F,z,q1⟩
def bT7 (ha:PT X a tA)(hb:PW X (.BoolOp .Or (b::rest) pos) tB'):PW X (.BoolOp .Or (a::b::rest) pos) (tOr tA tB'):=by
 intro G y s W H Q I h;refine isTrue_or (thn (ha y s W H _ I h) λ c s1 ⟨F,z,q1⟩=>?_);cases c with
 | true=>exact⟨F,z,q1⟩
 | false=>exact hb G y s1 W F Q z q1
def br9 (ha:PT X a tA):PT X (.UnaryOp .Not a pos) (cg6 tA):=by
 intro y s W H Q I h;exact isTrue_not (ha y s W H (λ c z=>Q (!c) z) I h)
def bG0 (ta tb:TE):TE:=λ W H Q=>ta W H λ x H1=>∃ c,x=.T c/\if c=true then tb W H1 Q else Q (.T false) H1
def ch5 (ta tb:TE):TE:=λ W H Q=>ta W H λ x H1=>∃ c,x=.T c/\if c=true then Q (.T true) H1 else tb W H1 Q
def bI6 (ta:TE):TE:=λ W H Q=>ta W H λ x H1=>∃ c,x=.T c/\Q (.T (!c)) H1
def bq5 (h:PE X a t):PE X (.BoolOp op [a] pos) t:=λ y s W H Q I hw=>BoolOp_one (h y s W H Q I hw)
def bs6 (ha:PE X a ta)(hb:PE X (.BoolOp .And (b::rest) pos) tb):PE X (.BoolOp .And (a::b::rest) pos) (bG0 ta tb):=by
 intro y s W H Q I h;refine BoolOp_and (thn (ha y s W H _ I h) λ v s1 ⟨x,F,z,r1,q1⟩=>?_);obtain⟨c,rfl,q1⟩:=q1;cases r1;refine bO ?_;cases c with
 | true=>exact hb y s1 W F Q z q1
 | false=>exact⟨.T false,F,z,rfl,q1⟩
def bM0 (ha:PE X a ta)(hb:PE X (.BoolOp .Or (b::rest) pos) tb):PE X (.BoolOp .Or (a::b::rest) pos) (ch5 ta tb):=by
 intro y s W H Q I h;refine BoolOp_or (thn (ha y s W H _ I h) λ v s1 ⟨x,F,z,r1,q1⟩=>?_);obtain⟨c,rfl,q1⟩:=q1;cases r1;refine bO ?_;cases c with
 | false=>exact hb y s1 W F Q z q1
 | true=>exact⟨.T true,F,z,rfl,q1⟩
def bp7 (ha:PE X a ta):PE X (.UnaryOp .Not a pos) (bI6 ta):=by
 intro y s W H Q I h;refine UnaryOp_ (thn (ha y s W H _ I h) λ v s1 ⟨x,F,z,r1,q1⟩=>?_);obtain⟨c,rfl,q1⟩:=q1;cases r1;exact not_of (bO ⟨.T (!c),F,z,rfl,q1⟩)
def tIf (t:TT)(ta tb:TE):TE:=λ W H Q=>t W H λ c H1=>if c=true then ta W H1 Q else tb W H1 Q
def bl6 (hc:PT X c tA)(ha:PE X a ta)(hb:PE X b tb):PE X (.IfExp c a b pos) (tIf tA ta tb):=by
 intro y s W H Q I h;refine wpAny_IfExp (thn (hc y s W H _ I h) λ d s1 ⟨F,z,q1⟩=>?_);cases d with
 | true=>exact ha y s1 W F Q z q1
 | false=>exact hb y s1 W F Q z q1
end
def SqL (K:ac)(H:Hp)(a:Addr)(xs:List V):Prop :=
 Rd H a (.J xs) \/
  ∃(o:Obj) (its:yK) (n:Nat),K.lookup a=some o/\o.cls=.type "list"/\o.dict=none/\o.data=.seq its n/\its.size<=aP/\Vals xs its.toList
def SqT (K:ac)(H:Hp)(a:Addr)(xs:List V):Prop :=
 Rd H a (.tp xs) \/
  ∃(o:Obj) (its:yK) (n:Nat),K.lookup a=some o/\o.cls=.type "tuple"/\o.data=.seq its n/\its.size<=aP/\Vals xs its.toList
noncomputable def cj9:Value->Option V
 | .none=>some .N
 | .bool b=>some (.T b)
 | .int i _=>some (.int i)
 | .str x _=>some (.str x)
 | .bytes b _=>some (.byt b)
 | .float b _=>some (.flt b)
 | .ref a=>some (.ref a)
 | .type n=>some (.ty n)
 | _=>none
def RelV.abs (r:RelV x u):cj9 u=some x:=by
 cases x with
 | N=>cases r;rfl
 | T _=>cases r;rfl
 | int _=>obtain⟨t,rfl⟩:=r;rfl
 | str _=>obtain⟨t,rfl⟩:=r;rfl
 | byt _=>obtain⟨t,rfl⟩:=r;rfl
 | flt _=>obtain⟨t,rfl⟩:=r;rfl
 | ref _=>cases r;rfl
 | ty _=>cases r;rfl
def RelV.inj (r:RelV x u)(q:RelV y u):x=y:=aB (r.abs.symm.trans q.abs)
theorem Vals.inj:∀ {y ys} {us:yH},Vals y us->Vals ys us->y=ys
 | _,_,_,.nil,.nil=>rfl
 | _,_,_,.cons r t,.cons r' t'=>by rw[r.inj r',Vals.inj t t']
section
variable {X:Cx} {pins:yA} {W:St} {H:Hp} {s:af} {a:Addr} {xs ys:List V}
def SqL.of {K}(h:H a=some (.J xs)):SqL K H a xs:=.inl (.inl h)
def SqT.of {K}(h:H a=some (.tp xs)):SqT K H a xs:=.inl (.inl h)
def Inv.list (I:Inv X pins W H s)(h:SqL X.K H a xs):∃ its,Vals xs its/\PlainL s.heap a its.toArray/\xs.length<=aP:=by
 rcases h with h|⟨o,its,n,hk,hc,hd,hs,hz,r⟩
 .obtain⟨z,its,n,r,e⟩:=h.ok I.hok;exact⟨its,r,⟨_,n,e,rfl,rfl,rfl⟩,z⟩
 .refine⟨its.toList,r,⟨o,n,I.kIn a o hk,hc,hd,by simpa using hs⟩,?_⟩;have e:=r.length;simp only[fS]at e;lia
def Inv.tuple (I:Inv X pins W H s)(h:SqT X.K H a xs):∃ its,Vals xs its/\IsTup s.heap a its.toArray/\xs.length<=aP:=by
 rcases h with h|⟨o,its,n,hk,hc,hs,hz,r⟩
 .obtain⟨z,its,r,p⟩:=h.ok I.hok;exact⟨its,r,p,z⟩
 .refine⟨its.toList,r,⟨o,I.kIn a o hk,hc,n,by simpa using hs⟩,?_⟩;have e:=r.length;simp only[fS]at e;omega
def Inv.list_inj (I:Inv X pins W H s)(h:SqL X.K H a xs)(h':SqL X.K H a ys):xs=ys:=by
 obtain⟨its,r,⟨o,n,e,_,_,d⟩,_⟩:=I.list h;obtain⟨its',y,⟨z,F,e',_,_,d'⟩,_⟩:=I.list h';rw[e]at e';cases e';rw[d]at d';injection d' with d1 _;have:=by simpa using congrArg jP d1
 subst this;exact r.inj y
def Inv.tuple_inj (I:Inv X pins W H s)(h:SqT X.K H a xs)(h':SqT X.K H a ys):xs=ys:=by
 obtain⟨its,r,⟨o,e,_,n,d⟩,_⟩:=I.tuple h;obtain⟨its',y,⟨z,e',_,F,d'⟩,_⟩:=I.tuple h';rw[e]at e';cases e';rw[d]at d';injection d' with d1 _;have:=by simpa using congrArg jP d1
 subst this;exact r.inj y
end
noncomputable abbrev Cx.wish (X:Cx)(E:yB):Cx:={ X with xe:=E }
noncomputable abbrev Cx.nox (X:Cx):Cx:=X.wish λ _ _=>False
theorem Cx.Ok.wish {X:Cx}(ok:X.Ok)(E:yB):(X.wish E).Ok :=
 ⟨ok.mod,ok.kind,ok.glob,ok.blt,ok.above,ok.inj,ok.has,ok.cab,ok.hd,ok.frames,ok.stk,ok.exf,ok.bs,ok.bsz,ok.noex,ok.exfs,ok.funs,ok.frf⟩
def Cx.Ok.unwish {X:Cx}(ok:(X.wish E).Ok):X.Ok :=
 ⟨ok.mod,ok.kind,ok.glob,ok.blt,ok.above,ok.inj,ok.has,ok.cab,ok.hd,ok.frames,ok.stk,ok.exf,ok.bs,ok.bsz,ok.noex,ok.exfs,ok.funs,ok.frf⟩
section
variable {X:Cx} {pins:yA} {W:St} {H:Hp} {s:af} {E:yB}
theorem Inv.wish (I:Inv X pins W H s) E :Inv (X.wish E) pins W H s:=⟨I.ok.wish E,I.os,I.bare,I.base,I.loc,I.cell,I.free,I.freeC,I.pin,I.hok,I.len⟩
theorem Inv.unwish (I:Inv (X.wish E) pins W H s):Inv X pins W H s:=⟨I.ok.unwish,I.os,I.bare,I.base,I.loc,I.cell,I.free,I.freeC,I.pin,I.hok,I.len⟩
theorem SP.unwish (h:SP (X.wish E) pins D f s'):SP X pins D f s':=by
 cases f with
 | next=>obtain⟨W',H',I,q⟩:=h;exact⟨W',H',I.unwish,q⟩
 | brk=>obtain⟨W',H',I,q⟩:=h;exact⟨W',H',I.unwish,q⟩
 | cont=>obtain⟨W',H',I,q⟩:=h;exact⟨W',H',I.unwish,q⟩
 | ret u=>obtain⟨v,W',H',I,r,q⟩:=h;exact⟨v,W',H',I.unwish,r,q⟩
theorem PE.nox (h:PE X.nox e t):PE X e t:=λ y s W H Q I hw =>
 bf (h y s W H Q (I.wish _) hw) (λ _ _ ⟨v,H',F,r,q⟩=>⟨v,H',F.unwish,r,q⟩) λ _ _ z=>bn z
theorem PT.nox (h:PT X.nox e t):PT X e t:=λ y s W H Q I hw =>
 bf (h y s W H Q (I.wish _) hw) (λ _ _ ⟨H',F,q⟩=>⟨H',F.unwish,q⟩) λ _ _ z=>bn z
theorem PSs.nox {st}(h:PSs X.nox st t):PSs X st t:=λ y s W H D I hw =>
 bf (h y s W H D (I.wish _) hw) (λ _ _ q=>q.unwish) λ _ _ z=>bn z
end
section
variable {X:Cx} {st:Stmt} {rest:yM} {t u:TS} {e:Expr} {te:TE} {pos:Pos}
def bQ1:TS:=λ D W H=>D.nx W H
noncomputable def ce4 (t u:TS):TS:=λ D W H=>t { D with nx:=u D } W H
def az1:PSs X [] bQ1:=λ _ _ W H _ I h=>dw ⟨W,H,I,h⟩
def zB (J:PS X st t)(z:PSs X rest u):PSs X (st::rest) (ce4 t u):=by
 intro y s W H D I h;refine kh (thn (J y s W H { D with nx:=u D } I h) λ f G q=>?_);cases f with
 | next =>
  obtain⟨W',H',F,q⟩:=q;exact z y G W' H' D F q
 | ret v=>exact q
 | brk=>exact q
 | cont=>exact q
def ap9 (z:PS X st t):PSs X [st] t:=by
 intro y s W H D I h;refine kh (thn (z y s W H D I h) λ f F q=>?_);cases f with
 | next=>exact dw q
 | ret v=>exact q
 | brk=>exact q
 | cont=>exact q
def Inv.quiet {W:St}(I:Inv X y W H s):interactive X.env=false:=by simp[interactive,I.ok.kind]
def bN8 (te:TE):TS:=λ D W H=>te W H λ _ H1=>D.nx W H1
def ba7 (he:PE X e te)(hs:autoParam (eZ e none pos.line X.env=pure false) Zq4._auto_1):PS X (.Expr e pos) (bN8 te):=by
 intro y s W H D I h;exact wpAny_Expr_any (thn (he y s W H _ I h) λ v s1 ⟨x,F,z,r1,q1⟩=>⟨W,F,z,q1⟩) I.quiet hs
def ci3 (te:TE):TS:=λ D W H=>te W H D.rt
def al4 (he:PE X e te):PS X (.Return (some e) pos) (ci3 te):=by
 intro y s W H D I h;exact wpAny_Return_some (thn (he y s W H _ I h) λ v s1 ⟨x,F,z,r1,q1⟩=>⟨x,W,F,z,r1,q1⟩)
def cg5 (c:TT)(t u:TS):TS:=λ D W H=>c W H λ b H1=>if b=true then t D W H1 else u D W H1
def bh4 (hc:PT X c tc)(ha:PSs X a t)(hb:PSs X b u):PS X (.If c a b pos) (cg5 tc t u):=by
 intro y s W H D I h;refine wpAny_If (thn (hc y s W H _ I h) λ d s1 ⟨F,z,q1⟩=>?_);cases d with
 | true=>exact ha y s1 W F D z q1
 | false=>exact hb y s1 W F D z q1
def bt1:TS:=λ _ _ _=>False
def bn5:PS X st bt1:=λ _ _ _ _ _ _ h=>h.elim
def qk :PSs X y bt1:=λ _ _ _ _ _ _ h=>h.elim
end
abbrev TG:=V->St->Hp->(St->Hp->Prop)->Prop
abbrev TGs:=List V->St->Hp->(St->Hp->Prop)->Prop
def PG (X:Cx)(target:Expr)(t:TG):Prop :=
 ∀ pins s (W:St) H v u Q ,Inv X pins W H s->RelV v u->t v W H Q ->
  wpAny (model X.prog X.w) X.A (g9 target X.env u) (λ _ s'=>∃ W' H',Inv X pins W' H' s'/\Q W' H') X.xe s
def PGs (X:Cx)(ts:yL)(t:TGs):Prop :=
 ∀ pins s (W:St) H vs (us:yH) Q ,Inv X pins W H s->Vals vs us->t vs W H Q ->
  wpAny (model X.prog X.w) X.A (assignInOrder ((cP ts X.env).map (·.2)) us) (λ _ s'=>∃ W' H',Inv X pins W' H' s'/\Q W' H') X.xe s
abbrev bX2:=V->V->V->Hp->(Hp->Prop)->Prop
def cf1 (X:Cx)(t:bX2):Prop :=
 ∀ pins s (W:St) H o i v ov iv u Q ,Inv X pins W H s->RelV o ov->RelV i iv->RelV v u->t o i v H Q ->
  wpAny (model X.prog X.w) X.A (setItem ov iv u) (λ _ s'=>∃ H',Inv X pins W H' s'/\Q H') X.xe s
section
variable {X:Cx} {pos:Pos}
def aD4 (i:Nat):TG:=λ v W H Q=>Q (W.set i (some v)) H
def aY8 (hN:X.N.Nodup)(F:X.N[i]?=some x)(hx:Loc X.env.scope x)(hf:autoParam (X.fn x=true\/X.env.scope.names.lookup x=some .local) Zq0._auto_1):PG X (.Name x pos) (aD4 i):=by
 intro y s W H v u Q I r h;exact jQ (an3 I hN F hx r (λ s' z=>⟨_,H,z,h⟩) hf)
def ci5:TGs:=λ vs W H Q=>vs=[]/\Q W H
def bN9 (t:TG)(u:TGs):TGs:=λ vs W H Q=>∃ v r,vs=v::r/\t v W H λ W' H'=>u r W' H' Q
def bz2:PGs X [] ci5:=by
 intro y s W H vs us Q I r h;obtain⟨e,h⟩:=h;subst e;cases r;exact assignInOrder_nil ⟨W,H,I,h⟩
def bj2 (J:PG X e t)(z:PGs X es u)
  (hs:autoParam ((cP (e::es) X.env).map (·.2)=g9 e X.env::(cP es X.env).map (·.2)) Zq4._auto_1):PGs X (e::es) (bN9 t u):=by
 intro y s W H vs us Q I r h;obtain⟨v,Y,e1,h⟩:=h;subst e1;cases r with
 | cons r rr =>
  rw[hs];refine assignInOrder_cons (thn (J y s W H _ _ _ I r h) λ _ s1 ⟨W1,G,F,q1⟩=>?_);exact z y s1 W1 G _ _ Q F rr q1
def bY5 (K:ac)(n:Nat)(t:TGs):TG:=λ v W H Q=>∃ a xs,v=.ref a/\SqT K H a xs/\xs.length=n/\t xs W H Q
def bT3 {k}(hc:X.calm=true)(h:PGs X es t)
  (hn:autoParam ((cP es X.env).length=n) Zq4._auto_1) (z:autoParam ((cP es X.env).findIdx? (·.1)=none) Zq4._auto_1):PG X (.Tuple es k pos) (bY5 X.K n t):=by
 intro y s W H v u Q I r hw;obtain⟨a,J,e1,hq,hl,hw⟩:=hw;subst e1;cases r;obtain⟨its,F,ht,hz⟩:=I.tuple hq;refine assign_Tuple_tuple (I.ok.hd hc) ht (by simp[hn,<-hl,F.length]) z λ h' hx=>?_;have G:=I.kept (t':=s.toks) λ b o e=>hx b o (aC (aL e)) e;exact h y _ W H J _ Q G (by simpa using F) hw
def cg7 (to ti:TE)(t:bX2):TG:=λ v W H Q=>to W H λ o H1=>ti W H1 λ i H2=>t o i v H2 λ H3=>Q W H3
def bH7 (ho:PE X o J)(hi:PE X i Y)(hs:cf1 X t)
  (ha:autoParam (∀ v,g9 (.Subscript o i pos) X.env v=(do
   let F <- kX [v] (eval o X.env)
   let G <- kX [v,F] (eval i X.env)
   standAt pos
   kX [v,F,G] (setItem F G v)
   release [v,F,G] [])) Zq3._auto_1):PG X (.Subscript o i pos) (cg7 J Y t):=by
 intro z s W H v u Q I r h;rw[ha];refine ae (c8 (thn (ho z s W H _ I h) λ F s1 ⟨x,H1,Z,r1,q1⟩=>?_));refine ae (c8 (thn (hi z s1 W H1 _ Z q1) λ G s2 ⟨y,H2,I2,r2,q2⟩=>?_));refine ae (jq (ae (c8 (thn (hs z s2 W H2 x y v F G u _ I2 r1 r2 r q2) λ _ s3 ⟨H3,I3,q3⟩=>?_))));exact wpAny_release ⟨W,H3,I3,q3⟩
def bj1 (te:TE)(g:TG):TS:=λ D W H=>te W H λ x H1=>g x W H1 D.nx
def aX4 (he:PE X e te)(hg:PG X tg g)(hs:autoParam (swapsWithSole [tg] e pos.line X.env=pure false) Zq4._auto_1)(hw:autoParam (gI [tg] e X.env=pure none) Zq4._auto_1)
  (G:autoParam ((cP [tg] X.env).map (·.2)=[g9 tg X.env]) Zq4._auto_1):PS X (.Assign [tg] e pos) (bj1 te g):=by
 intro y s W H D I h;refine wpAny_Assign_stores (thn (he y s W H _ I h) λ v s1 ⟨x,F,z,r1,q1⟩=>?_) hs hw;rw[G];exact thn (hg y s1 W F x v _ z r1 q1) λ _ s2 q=>q
def aM7 (hN:X.N.Nodup)(Z:X.N[i]?=some x)(hx:Loc X.env.scope x)(he:PE X e te)(hs:autoParam (eZ e (some (.Name x z)) pos.line X.env=pure false) Zq4._auto_1)(hf:autoParam (X.fn x=true\/X.env.scope.names.lookup x=some .local) Zq0._auto_1) :
  PS X (.Assign [.Name x z] e pos) (bj1 te (aD4 i)):=by
 intro F s W H D I h;refine wpAny_Assign_Name (thn (he F s W H _ I h) λ v s1 ⟨y,Y,G,r1,q1⟩=>?_) hs;exact an3 G hN Z hx r1 (λ s2 J=>⟨_,Y,J,q1⟩) hf
end
section
variable {X:Cx} {pos:Pos}
def bq4 (c:TT)(tb:TS):TS:=λ D W H=>∃ Ww:Nat->St->Hp->Prop,(∃ m,Ww m W H)/\∀ m W H,Ww m W H ->
 c W H λ b H1=>if b=true then ∃ N,(∀ W' H',N W' H'->∃ m',m'<m/\Ww m' W' H')/\tb { D with nx:=N,ct:=N,bk:=D.nx } W H1 else D.nx W H1
def bk5 (hp:lI (model X.prog X.w) X.A X.env X.xe)(hc:PT X c tc)(hb:PSs X body tb):PS X (.While c body [] pos) (bq4 tc tb):=by
 intro y s W H D I h;obtain⟨Ww,⟨m0,w0⟩,turn⟩:=h;refine wpAny_While (codeAny_whileLoop (λ n s'=>∃ W' H',Inv X y W' H' s'/\Ww n W' H') ?_ m0 ⟨W,H,I,w0⟩)
 rintro n s1 ⟨W1,Z,I1,w1⟩
 refine cX hp (thn (hc y s1 W1 Z _ I1 (turn n W1 Z w1)) λ b s2 ⟨H2,Y,q2⟩=>?_);cases b with
 | true =>
  obtain⟨N,hN,q2⟩:=q2;rw[if_pos rfl];refine cX hp (thn (hb y s2 W1 H2 _ Y q2) λ f s3 q3=>?_);cases f with
  | next =>
   obtain⟨W3,z,G,F⟩:=q3;obtain⟨m',hm,J⟩:=hN W3 z F;exact⟨m',hm,W3,z,G,J⟩
  | cont =>
   obtain⟨W3,z,G,F⟩:=q3;obtain⟨m',hm,J⟩:=hN W3 z F;exact⟨m',hm,W3,z,G,J⟩
  | brk=>exact q3
  | ret v=>exact q3
 | false =>
  rw[if_neg aI];exact dw ⟨W1,H2,Y,q2⟩
end
structure It where
 go:Nat->Hp->Prop
 yld:Nat->Hp->V->Hp->Prop
 stop:Nat->Hp->Prop
def FpOk (X:Cx)(pins:yA)(H:Hp)(b:Addr):Prop :=
 H b=none/\b≠X.env.locals/\b ∉ X.fs/\(b∈X.ex\/X.s₀.heap.objs.size<=b)/\(∀ x c,X.env.cells.lookup x=some c->c≠b)/\∀ p∈X.pn++pins,p.1≠b
def Inv.fpOk {W:St}{b:Addr}(I:Inv X y W H s)(hb:s.heap.objs.size<=b)(hn:H' b=none):FpOk X y H' b:=by
 refine⟨hn,cK (aK I.lt hb),I.nofs hb,.inr (aq I.sz hb),λ x c e z=>?_,λ p hp z=>?_⟩
 .obtain⟨v,q⟩:=I.cell x c e;exact absurd (aK q.lt (by rw[z];exact hb)) (bX _)
 .exact absurd (aK (aL (I.pin p hp).1) (by rw[z];exact hb)) (bX _)
structure Turn (P:aJ)(w:World)(K:ac)(tg:Expr)(J:It)(fp:List Addr)(it:Addr)(tn:Nat->Heap->Prop):Prop where
 mem:it∈fp
 obj:∀ i h,tn i h->∀ b∈fp,∃ o,h.get? b=some o/\∀ v,o.data≠.cell v
 keep:∀ i h h',tn i h->(∀ b∈fp,∀ o,h.get? b=some o->h'.get? b=some o)->tn i h'
 item:∀(X:Cx),X.prog=P->X.w=w->X.K=K->X.calm=true->∀(i:Nat) (pins:yA) (s:af) (W:St) (H:Hp) (E:yB),Inv X pins W H s->(∀ b∈fp,FpOk X pins H b)->tn i s.heap->J.go i H ->
  wpAny (model P w) X.A (lh (.ref it)) (λ r s1=>∃ u,r=some u /\
   wpAny (model P w) X.A (fC tg (.ref it) u) (λ _ s2=>∃ x H',Inv X pins W H' s2/\RelV x u/\J.yld i H x H'/\tn (i+1) s2.heap/\∀ b∈fp,H' b=none) E s1) E s
 done:∀(X:Cx),X.prog=P->X.w=w->X.K=K->X.calm=true->∀(i:Nat) (pins:yA) (s:af) (W:St) (H:Hp) (E:yB),Inv X pins W H s->(∀ b∈fp,FpOk X pins H b)->tn i s.heap->J.stop i H ->
  wpAny (model P w) X.A (lh (.ref it)) (λ r s1=>r=none/\Inv X pins W H s1) E s
 self:∀(A:aS) (i:Nat) (s:af) (Q:yB) (E:yB),tn i s.heap->Q (.ref it) s->wpAny (model P w) A (ki (.ref it)) Q E s
abbrev TI:=St->Hp->(It->Hp->Prop)->Prop
def PIE (X:Cx)(pins:yA)(W:St)(tg:Expr)(R:It->Hp->Prop)(itv:Value)(s2:af):Prop :=
 ∃(it:Addr) (fp:List Addr) (tn:Nat->Heap->Prop) (J:It) (H':Hp),itv=.ref it/\Inv X pins W H' s2/\Turn X.prog X.w X.K tg J fp it tn/\tn 0 s2.heap/\(∀ b∈fp,FpOk X pins H' b)/\R J H'
def PI (X:Cx)(tg iter:Expr)(wi:TI):Prop :=
 ∀ pins s (W:St) H R ,Inv X pins W H s->wi W H R ->
  wpAny (model X.prog X.w) X.A (eval iter X.env) (λ v s1=>wpAny (model X.prog X.w) X.A (ki v) (PIE X pins W tg R) X.xe s1) X.xe s
def bj6 (ho : s.heap.get? it = some o) (hc : o.cls = .type n) (hd : o.data = .fields vs)
    (hn : ["enumerate", "zip", "dict_itemiterator", "dict_reverseitemiterator", "odict_iterator", "itertools.zip_longest", "itertools.pairwise"].contains n = false) (hQ : Q () s) : wpAny M A (fC tg (.ref it) u) Q E s := by
  unfold fC;cases tg <;> first
    | exact aA hQ
    | (cases u <;> first
        | exact aA hQ
        | (refine ae (wpAny_load ho ?_)
           rw[hc, hd];show wpAny M A (if(["enumerate", "zip", "dict_itemiterator", "dict_reverseitemiterator", "odict_iterator", "itertools.zip_longest", "itertools.pairwise"].contains n && vs[0]? == some (kj _)) = true then _ else _) Q E s;rw[if_neg (by intro h; rw[hn, li]at h; cases h)];exact aA hQ))
noncomputable def Itl (K:ac)(a:Addr):It :=
 ⟨λ i H=>∃ xs x,SqL K H a xs/\xs[i]?=some x,λ i H x H'=>H'=H/\∀ xs,SqL K H a xs->xs[i]?=some x,λ i H=>∃ xs,SqL K H a xs/\xs.length<=i⟩
noncomputable def Itt (K:ac)(a:Addr):It :=
 ⟨λ i H=>∃ xs x,SqT K H a xs/\xs[i]?=some x,λ i H x H'=>H'=H/\∀ xs,SqT K H a xs->xs[i]?=some x,λ i H=>∃ xs,SqT K H a xs/\xs.length<=i⟩
noncomputable def Itr (lo:Int)(n:Nat):It:=⟨λ i _=>i<n,λ i H x H'=>H'=H/\x=.int (lo+i),λ i _=>n<=i⟩
def aZ3 {K} a it :Turn P w K tg (Itl K a) [it] it (λ i h=>h.IsListIter it a i) where
 mem:=by simp
 obj:=λ i h st b hb=>by
  have e:=by simpa using hb
  subst e;obtain⟨o,e,c,d⟩:=st;exact⟨o,e,λ v z=>by rw[d]at z;cases z⟩
 keep:=λ i h h' st k=>st.at λ o e=>k it (by simp) o e
 item:=by
  intro X hP hw Z hc i y s W H E I hf st hg;subst hP hw Z;obtain⟨xs,x,hq,hx⟩:=hg;obtain⟨its,rv,p,hz⟩:=I.list hq;obtain⟨u,hu,ru⟩:=rv.get hx;obtain⟨Y,J,f2,f3,G,f5⟩:=hf it (by simp);refine wpAny_pyNext_list_item st p.isList (by simpa using hu) λ h' F sb=>?_;have I1:=I.turned (t':=s.toks) (λ b o hb e=>(sb.2 b hb).trans e) Y J f3 G f5;obtain⟨o,e,c,d⟩:=id F;exact⟨u,rfl,bj6 e c d (by decide) ⟨x,H,I1,ru,⟨rfl,λ ys hy=>by rw[I.list_inj hy hq];exact hx⟩,F,λ b hb=>(hf b hb).1⟩⟩
 done:=by
  intro X hP hw Z hc i y s W H E I hf st hg;subst hP hw Z;obtain⟨xs,hq,hx⟩:=hg;obtain⟨its,rv,p,hz⟩:=I.list hq;obtain⟨Y,J,f2,f3,G,f5⟩:=hf it (by simp);have hl:=rv.length;exact wpAny_pyNext_list_end (I.ok.hd hc) st p.isList (by simp;lia) λ h' eb=>⟨rfl,I.turned (λ b o hb e=>eb b o hb e) Y J f3 G f5⟩
 self:=λ _ _ _ _ _ st h=>wpAny_pyIter_listiter st h
def aR4 {K} a it :Turn P w K tg (Itt K a) [it] it (λ i h=>h.IsTupleIter it a i) where
 mem:=by simp
 obj:=λ i h st b hb=>by
  have e:=by simpa using hb
  subst e;obtain⟨o,e,c,d⟩:=st;exact⟨o,e,λ v z=>by rw[d]at z;cases z⟩
 keep:=λ i h h' st k=>st.at λ o e=>k it (by simp) o e
 item:=by
  intro X hP hw Z hc i y s W H E I hf st hg;subst hP hw Z;obtain⟨xs,x,hq,hx⟩:=hg;obtain⟨its,rv,p,hz⟩:=I.tuple hq;obtain⟨u,hu,ru⟩:=rv.get hx;obtain⟨Y,J,f2,f3,G,f5⟩:=hf it (by simp);refine wpAny_pyNext_tuple_item st (p) (by simpa using hu) λ h' F sb=>?_;have I1:=I.turned (t':=s.toks) (λ b o hb e=>(sb.2 b hb).trans e) Y J f3 G f5;obtain⟨o,e,c,d⟩:=id F;exact⟨u,rfl,bj6 e c d (by decide) ⟨x,H,I1,ru,⟨rfl,λ ys hy=>by rw[I.tuple_inj hy hq];exact hx⟩,F,λ b hb=>(hf b hb).1⟩⟩
 done:=by
  intro X hP hw Z hc i y s W H E I hf st hg;subst hP hw Z;obtain⟨xs,hq,hx⟩:=hg;obtain⟨its,rv,p,hz⟩:=I.tuple hq;obtain⟨Y,J,f2,f3,G,f5⟩:=hf it (by simp);have hl:=rv.length;exact wpAny_pyNext_tuple_end (I.ok.hd hc) st (p) (by simp;omega) λ h' eb=>⟨rfl,I.turned (λ b o hb e=>eb b o hb e) Y J f3 G f5⟩
 self:=λ _ _ _ _ _ st h=>wpAny_pyIter_tupleiter st h
def aT2 {K} it G n :Turn P w K tg (Itr G n) [it] it (λ i h=>IsRangeIter h it (G+(i)*1) ((n) - (i)) 1) where
 mem:=by simp
 obj:=λ i h st b hb=>by
  have e:=by simpa using hb
  subst e;exact⟨_,st,λ v z=>by
   have z':=z;cases z'⟩
 keep:=λ i h h' st k=>k it (by simp) _ st
 item:=by
  intro X hP hw hK hc i y s W H E I hf st hg;subst hP hw hK;obtain⟨Z,Y,f2,f3,J,f5⟩:=hf it (by simp);have Ww:=Walks.range (prog:=X.prog) (w:=X.w) (I.ok.hd hc) it G 1 n;refine Ww.item i s _ _ hg st λ v h' tk hv F kk=>?_;obtain⟨t,rfl⟩:=hv;have I1:Inv X y W H { s with heap:=h',toks:=tk }:=I.turned (λ b o hb e=>kk b o (by simpa using hb) e) Z Y f3 J f5;refine⟨_,rfl,bj6 F rfl rfl (by decide) ⟨.int (G+i),H,I1,⟨t,?_⟩,⟨rfl,rfl⟩,F,λ b hb=>(hf b hb).1⟩⟩;rw[Int.mul_one]
 done:=by
  intro X hP hw hK hc i y s W H E I hf st hg;subst hP hw hK;obtain⟨Z,Y,f2,f3,J,f5⟩:=hf it (by simp);exact wpAny_pyNext_range_end (I.ok.hd hc) st (by have:n<=i:=hg;lia) λ h' eb=>⟨rfl,I.turned (λ b o hb e=>eb b o hb e) Z Y f3 J f5⟩
 self:=λ _ _ _ _ _ st h=>wpAny_pyIter_rangeiter st h
section
variable {X:Cx} {tg:Expr}
def bD6 (K:ac)(tl:TE):TI:=λ W H R=>tl W H λ x H1=>∃ a,x=.ref a/\(∃ xs,SqL K H1 a xs)/\R (Itl K a) H1
def bZ8 (K:ac)(tl:TE):TI:=λ W H R=>tl W H λ x H1=>∃ a,x=.ref a/\(∃ xs,SqT K H1 a xs)/\R (Itt K a) H1
def bC5 (hl:PE X l F):PI X tg l (bD6 X.K F):=by
 intro y s W H R I h;refine thn (hl y s W H _ I h) λ v s1 ⟨x,G,z,r1,q1⟩=>?_;obtain⟨a,e,⟨J,hq⟩,q⟩:=q1;subst e;cases r1;obtain⟨its,Y,p,hz⟩:=z.list hq;refine eG p.isList ?_;refine⟨s1.heap.objs.size,[s1.heap.objs.size],_,_,G,rfl,z.kept λ b o e=>ak _ e,aZ3 a _,⟨_,aM _ rfl,rfl,rfl⟩,λ b hb=>?_,q⟩;have e:=by simpa using hb
 subst e;exact z.fpOk (av _) (z.hok.fresh (av _))
def bS7 (hl:PE X l F):PI X tg l (bZ8 X.K F):=by
 intro y s W H R I h;refine thn (hl y s W H _ I h) λ v s1 ⟨x,G,z,r1,q1⟩=>?_;obtain⟨a,e,⟨J,hq⟩,q⟩:=q1;subst e;cases r1;obtain⟨its,Y,p,hz⟩:=z.tuple hq;refine jx (p) ?_;refine⟨s1.heap.objs.size,[s1.heap.objs.size],_,_,G,rfl,z.kept λ b o e=>ak _ e,aR4 a _,⟨_,aM _ rfl,rfl,rfl⟩,λ b hb=>?_,q⟩;have e:=by simpa using hb
 subst e;exact z.fpOk (av _) (z.hok.fresh (av _))
def bj4 {W:St}{E:yB}(I:Inv X F W H s)(Y:-(2^62)<=y)(J:y<2^62)(h3:-(2^62)<=z)(h4:z<2^62)
  (q:R (Itr y (z - y).toNat) H):wpAny (model X.prog X.w) X.A (ki (.ref s.heap.objs.size)) (PIE X F W tg R) E { s with heap:=s.heap.push { cls:=.type "range",data:=.fields #[.int y t,.int z u,.int 1 v] },toks:=tk }:=by
 refine wpAny_pyIter_range (IsRange.new ..) (small_one Y J h3 h4) ?_;have G:Inv X F W H { s with heap:=s.heap.push { cls:=.type "range",data:=.fields #[.int y t,.int z u,.int 1 v] },toks:=tk }:=I.kept λ b o e=>ak _ e;refine⟨(s.heap.push { cls:=.type "range",data:=.fields #[.int y t,.int z u,.int 1 v] }).objs.size,[(s.heap.push { cls:=.type "range",data:=.fields #[.int y t,.int z u,.int 1 v] }).objs.size],_,_,H,rfl,
  G.kept (t':=tk) λ b o e=>ak _ e,aT2 _ y (z - y).toNat,?_,λ b hb=>?_,q⟩
 .have e1:y+((0:Nat):Int)*1=y:=by simp
  have e2:(((z - y).toNat:Nat):Int) - ((0:Nat):Int)=lJ y z 1:=by rw[rangeSize_one];split<;>lia
  show IsRangeIter _ _ (y+((0:Nat):Int)*1) ((((z - y).toNat:Nat):Int) - ((0:Nat):Int)) 1;rw[e1,e2];exact aM _ rfl
 .have e:b=(s.heap.push { cls:=.type "range",data:=.fields #[.int y t,.int z u,.int 1 v] }).objs.size:=by simpa using hb
  subst e;exact G.fpOk (av _) (G.hok.fresh (av _))
def bH2 (ta:TA):TI:=λ W H R=>ta W H λ vs H1=>∃ j,vs=[.int j]/\-(2^62)<=j/\j<2^62/\R (Itr 0 j.toNat) H1
def bf9 (hg:Gl X "range")(hm:X.mg "range"=none)(ha:PA X [a] z)(hs:autoParam (bD [a] X.env=[(false,eval a X.env)]) Zq4._auto_1):PI X tg (.Call (.Name "range" p) [a] [] pos) (bH2 z):=by
 intro y s W H R I h;refine Call_ (aB2 I hg hm boot_range (dG (thn (ha pos y s W H _ I h) λ us s1 ⟨vs,G,F,r1,q1⟩=>?_) hs rfl));obtain⟨j,e,q1,q2,q⟩:=q1;subst e;cases r1 with
 | cons r rr =>
  cases rr;obtain⟨t,rfl⟩:=r;exact call_range_1 (bj4 F (by lia) (by lia) q1 q2 (by simpa using q))
def ch3 (wi:TI)(g:TG)(tb:TS):TS:=λ D W H=>wi W H λ J H1=>∃ Ww:Nat->Nat->St->Hp->Prop,(∃ m,Ww 0 m W H1)/\∀ i m W H,Ww i m W H ->
 (J.stop i H/\D.nx W H)\/(J.go i H/\∃ N,(∀ W' H',N W' H'->∃ m',m'<m/\Ww (i+1) m' W' H')/\∀ x H',J.yld i H x H'->g x W H' λ W2 H2=>tb { D with nx:=N,ct:=N,bk:=D.nx } W2 H2)
noncomputable def aD7 (fp:List Addr)(h:Heap):List (Addr×Obj):=fp.filterMap λ b=>(h.get? b).map λ o=>(b,o)
def qJ (hb:b∈y)(e:h.get? b=some o):(b,o)∈aD7 y h:=ed.mpr ⟨b,hb,by rw[e];rfl⟩
def aY0 (hp:p∈aD7 y h):p.1∈y/\h.get? p.1=some p.2:=by
 obtain⟨b,hb,e⟩:=ed.mp hp;cases q:h.get? b with
 | none=>rw[q]at e;cases e
 | some o =>
  rw[q]at e;have e':=aB e;subst e';exact⟨hb,q⟩
def Inv.pinned {W:St}(I:Inv X y W H s)(hf:∀ b∈F,FpOk X y H b)(ho:∀ b∈F,∃ o,s.heap.get? b=some o/\∀ v,o.data≠.cell v):Inv X (y++aD7 F s.heap) W H s :=
 I.pins_of λ p hp=>(cH.mp hp).elim (λ z=>I.pin p (aO _ z)) λ z=>by
  obtain⟨hb,e⟩:=aY0 z;obtain⟨Y,J,G,_⟩:=hf p.1 hb;obtain⟨o,e',d⟩:=ho p.1 hb;rw[e]at e';cases e';exact⟨e,Y,J,G,d⟩
def Inv.unpinned {W:St}(I:Inv X (y++z) W H s):Inv X y W H s:=I.pins_of λ p hp=>I.pin p (aO _ (c5 _ hp))
def bP4 (hp:lI (model X.prog X.w) X.A X.env X.xe)(hc:X.calm=true)(hi:PI X tg iter wi)(hg:PG X tg g)(hb:PSs X body tb)
  (hs:autoParam (∀ x,cD iter X.env x=pure x) Zq3._auto_1):PS X (.For tg iter body [] pos) (ch3 wi g tb):=by
 intro y s W H D I h;refine wpAny_For (thn (hi y s W H _ I h) λ v s1 h1=>thn h1 λ a5 s2 h2=>?_) hs;obtain⟨it,Z,tn,J,H2,e,I2,T,a2,f2,Ww,⟨m0,w0⟩,turn⟩:=h2;subst e;have z:∀ {H'},(∀ b∈Z,H' b=none)->∀ b∈Z,FpOk X y H' b:=λ hn b hb=>⟨hn b hb,(f2 b hb).2⟩
 refine codeAny_forLoop_any (λ n s'=>∃ i W' H',Inv X y W' H' s'/\tn i s'.heap/\(∀ b∈Z,H' b=none)/\Ww i n W' H') ?_ m0 ⟨0,W,H2,I2,a2,λ b hb=>(f2 b hb).1,w0⟩
 rintro n s3 ⟨i,W3,H3,I3,a0,a1,w3⟩
 rcases turn i n W3 H3 w3 with⟨stop,qn⟩|⟨go,N,hN,step⟩
 .refine cX hp (thn (T.done X rfl rfl rfl hc i y s3 W3 H3 X.xe I3 (z a1) a0 stop) λ r s4 ⟨hr,I4⟩=>?_);subst hr;exact dw ⟨W3,H3,I4,qn⟩
 .refine cX hp (thn (T.item X rfl rfl rfl hc i y s3 W3 H3 X.xe I3 (z a1) a0 go) λ r s4 ⟨u,hr,h4⟩=>?_);subst hr;refine cX hp (thn h4 λ _ s5 ⟨x,H5,I5,r5,y5,Y,a3⟩=>?_);have a4:=I5.pinned (z a3) (T.obj _ _ Y);refine cX hp (thn (hg _ s5 W3 H5 x u _ a4 r5 (step x H5 y5)) λ _ s6 ⟨W6,H6,I6,q6⟩=>?_);refine cX hp (thn (hb _ s6 W6 H6 _ I6 q6) λ f s7 q7=>?_);have again:∀ {W7} {G},Inv X (y++aD7 Z s5.heap) W7 G s7->N W7 G->∃ m,m<n/\∃ i W' H',Inv X y W' H' s7/\tn i s7.heap/\(∀ b∈Z,H' b=none)/\Ww i m W' H':=λ {W7 G} F n7=>by
   obtain⟨m',hm,w7⟩:=hN W7 G n7;refine⟨m',hm,i+1,W7,G,F.unpinned,T.keep _ _ _ Y λ b hb o e=>(F.pin (b,o) (aO _ (aO _ (qJ hb e)))).1,λ b hb=>?_,w7⟩;obtain⟨o,e,d⟩:=T.obj _ _ Y b hb;exact(F.pin (b,o) (aO _ (aO _ (qJ hb e)))).2.1
  cases f with
  | next=>obtain⟨W7,G,F,n7⟩:=q7;exact again F n7
  | cont=>obtain⟨W7,G,F,n7⟩:=q7;exact again F n7
  | brk=>obtain⟨W7,G,F,q7⟩:=q7;exact⟨W7,G,F.unpinned,q7⟩
  | ret v=>obtain⟨x7,W7,G,F,r7,q7⟩:=q7;exact⟨x7,W7,G,F.unpinned,r7,q7⟩
end
abbrev R2:=V->V->Hp->VK->Prop
def OpR (X:Cx)(f:Value->Value->Sem Value)(r:R2):Prop :=
 ∀ pins s (W:St) H x y v u Q ,Inv X pins W H s->RelV x v->RelV y u->r x y H Q ->
  wpAny (model X.prog X.w) X.A (f v u) (EP X pins W Q) X.xe s
def UnR (X:Cx)(f:Value->Sem Value)(r:V->Hp->VK->Prop):Prop :=
 ∀ pins s (W:St) H x v Q ,Inv X pins W H s->RelV x v->r x H Q ->
  wpAny (model X.prog X.w) X.A (f v) (EP X pins W Q) X.xe s
def ae3 (X:Cx)(f:Value)(r:List V->Hp->VK->Prop):Prop :=
 ∀ pins s (W:St) H xs (us:yH) Q ,Inv X pins W H s->Vals xs us->r xs H Q ->
  wpAny (model X.prog X.w) X.A (call f us) (EP X pins W Q) X.xe s
def tOp (r:R2)(ta tb:TE):TE:=λ W H Q=>ta W H λ x H1=>tb W H1 λ y H2=>r x y H2 Q
def tUn (r:V->Hp->VK->Prop)(ta:TE):TE:=λ W H Q=>ta W H λ x H1=>r x H1 Q
def rI (Cc:Int->Int->Prop)(g:Int->Int->V):R2:=λ x y H Q=>∃ i j,x=.int i/\y=.int j/\Cc i j/\Q (g i j) H
def rI0 (g:Int->Int->V):R2:=λ x y H Q=>∃ i j,x=.int i/\y=.int j/\Q (g i j) H
def rU (g:Int->V):V->Hp->VK->Prop:=λ x H Q=>∃ i,x=.int i/\Q (g i) H
section
variable {X:Cx} {a b c:Expr} {ta tb tc:TE} {pos:Pos}
def cc9 (ha:PE X a ta)(hb:PE X b tb){W:St}{R:V->V->Hp->Prop}(I:Inv X z W H s)
  (h:ta W H λ x G=>tb W G λ y F=>R x y F) {Q:yB} {f:Value->Value->Sem Value}
  (hf:∀ v u s2 x y F,Inv X z W F s2->RelV x v->RelV y u->R x y F->wpAny (model X.prog X.w) X.A (f v u) Q X.xe s2) :
  wpAny (model X.prog X.w) X.A (eval a X.env) (λ v Z=>wpAny (model X.prog X.w) X.A (eval b X.env) (λ u s₂=>wpAny (model X.prog X.w) X.A (f v u) Q X.xe s₂) X.xe Z) X.xe s:=by
 refine thn (ha z s W H _ I h) λ v s1 ⟨x,G,J,r1,q1⟩=>?_;refine thn (hb z s1 W G _ J q1) λ u s2 ⟨y,F,Y,r2,q2⟩=>?_;exact hf v u s2 x y F Y r1 r2 q2
def bU3 (ho:OpR X (cx op) r)(ha:PE X a ta)(hb:PE X b tb):PE X (.BinOp a op b pos) (tOp r ta tb):=by
 intro z s W H Q I h;exact wpAny_BinOp (cc9 ha hb I h λ v u s2 x y Y G F J q=>ho z s2 W Y x y v u Q G F J q)
def cc0 (ho:UnR X (unaryOp op) r)(ha:PE X a ta):PE X (.UnaryOp op a pos) (tUn r ta):=by
 intro y s W H Q I h;exact UnaryOp_ (thn (ha y s W H _ I h) λ v s1 ⟨x,F,z,r1,q1⟩=>ho y s1 W F x v Q z r1 q1)
def opI {g:Int->Int->Int}
  (z:∀(i j:Int) (t u:Tok) (s:af) (Q:yB) (E:yB),Cc i j->Q (.int (g i j) s.toks) { s with toks:=s.toks+1 }->wpAny (model X.prog X.w) X.A (f (.int i t) (.int j u)) Q E s) :
  OpR X f (rI Cc λ i j=>.int (g i j)):=by
 intro F s W H x y v u Q I G J h;obtain⟨i,j,rfl,rfl,hc,q⟩:=h;obtain⟨t,rfl⟩:=G;obtain⟨t',rfl⟩:=J;exact z i j t t' s _ _ hc ⟨.int (g i j),H,I.tok _,⟨_,rfl⟩,q⟩
def ci9 {g:Int->Int->Int}
  (z:∀(i j:Int) (t u:Tok) (s:af) (Q:yB) (E:yB),Q (.int (g i j) s.toks) { s with toks:=s.toks+1 }->wpAny (model X.prog X.w) X.A (f (.int i t) (.int j u)) Q E s) :
  OpR X f (rI0 λ i j=>.int (g i j)):=by
 intro F s W H x y v u Q I G J h;obtain⟨i,j,rfl,rfl,q⟩:=h;obtain⟨t,rfl⟩:=G;obtain⟨t',rfl⟩:=J;exact z i j t t' s _ _ ⟨.int (g i j),H,I.tok _,⟨_,rfl⟩,q⟩
def ca2 {g:Int->Int->Bool}
  (z:∀(i j:Int) (t u:Tok) (s:af) (Q:yB) (E:yB),Q (.bool (g i j)) s->wpAny (model X.prog X.w) X.A (f (.int i t) (.int j u)) Q E s) :
  OpR X f (rI0 λ i j=>.T (g i j)):=by
 intro F s W H x y v u Q I G J h;obtain⟨i,j,rfl,rfl,q⟩:=h;obtain⟨t,rfl⟩:=G;obtain⟨t',rfl⟩:=J;exact z i j t t' s _ _ ⟨.T (g i j),H,I,rfl,q⟩
def ci0 (i j:Int):Prop:=0<=j/\j<=1000000/\i.natAbs<2^64
def bW0 (i j:Int):Prop:=(-(2^64)<i/\i<2^64)\/(-(2^64)<j/\j<2^64)
def bW0.ok (h:bW0 i j):IntMulOk i j:=by
 rcases h with⟨z,y⟩|⟨z,y⟩
 .exact .of_left (intBits_le_64 z y)
 .exact .of_right (intBits_le_64 z y)
def bL8:OpR X (cx .Add) (rI0 λ i j=>.int (i+j)):=ci9 λ _ _ _ _ _ _ _ q=>add_int q
def bS3:OpR X (cx .Sub) (rI0 λ i j=>.int (i - j)):=ci9 λ _ _ _ _ _ _ _ q=>sub_int q
def bT4:OpR X (cx .Mod) (rI (λ _ j=>0<j) λ i j=>.int (i % j)):=opI λ i j _ _ _ _ _ hc q=>by
 have y:=hc;exact mod_int' (by lia) (by rw[Int.fmod_eq_emod_of_nonneg i (by lia)];exact q)
def bL2:OpR X (cx .Pow) (rI ci0 λ i j=>.int (i^j.toNat)):=opI λ _ _ _ _ _ _ _ hc q=>pow_int_small hc.1 hc.2.1 hc.2.2 q
def bJ5:OpR X (cx .LShift) (rI ci0 λ i j=>.int (i*2^j.toNat)):=opI λ _ _ _ _ _ _ _ hc q=>lshift_int_small hc.1 hc.2.1 hc.2.2 q
def unI {g:Int->Int}
  (y:∀(i:Int) (t:Tok) (s:af) (Q:yB) (E:yB),Q (.int (g i) s.toks) { s with toks:=s.toks+1 }->wpAny (model X.prog X.w) X.A (f (.int i t)) Q E s) :
  UnR X f (rU λ i=>.int (g i)):=by
 intro z s W H x v Q I F h;obtain⟨i,rfl,q⟩:=h;obtain⟨t,rfl⟩:=F;exact y i t s _ _ ⟨.int (g i),H,I.tok _,⟨_,rfl⟩,q⟩
def bS6:UnR X (unaryOp .USub) (rU λ i=>.int (-i)):=unI λ _ _ _ _ _ q=>neg_int q
end
noncomputable def ck3:V->V->Bool
 | .N,.N=>true|.N,.int _=>true|.int _,.N=>true|.N,.T _=>true|.T _,.N=>true|.N,.str _=>true|.str _,.N=>true
 | .int _,.int _=>true|.T _,.T _=>true|.str _,.str _=>true|.byt _,.byt _=>true
 | .int _,.str _=>true|.str _,.int _=>true|.T _,.str _=>true|.str _,.T _=>true
 | _,_=>false
def rNe:R2:=λ x y H Q=>ck3 x y=true/\Q (.T (!decide (x=y))) H
def ba8 :decide (V.int i=V.int j)=(i==j):=by
 rw[cI];simp
def bV6 :decide (V.T i=V.T j)=(i==j):=by
 rw[cI];simp
def bE1 :decide (V.str i=V.str j)=(i==j):=by
 rw[cI];simp
def bu7 :decide (V.byt i=V.byt j)=(i.toList==j.toList):=by
 rw[cI];cases i;cases j;simp
section
variable {X:Cx} {a b c:Expr} {ta tb tc:TE} {pos:Pos}
def qc {W:St}(I:Inv X y W H s)(q:Q (.T k) H)(e:k=z):EP X y W Q (.bool z) s:=by
 subst e;exact⟨.T k,H,I,rfl,q⟩
def cd9:OpR X (cW .NotEq) rNe:=by
 intro G s W H x y v u Q I F z h;obtain⟨hs,q⟩:=h;cases x with
 | N =>
  cases F;cases y with
  | N=>cases z;exact PySem.EqNone.ne_none_none (qc I q (by simp))
  | T j=>cases z;exact PySem.EqNone.ne_none_bool (qc I q (by simp))
  | int j=>obtain⟨t',rfl⟩:=z;exact PySem.EqNone.ne_none_int (qc I q (by simp))
  | str j=>obtain⟨t',rfl⟩:=z;exact PySem.EqNone.ne_none_str (qc I q (by simp))
  | _=>exact absurd (hs) aI
 | T i =>
  cases F;cases y with
  | N=>cases z;exact PySem.EqNone.ne_bool_none (qc I q (by simp))
  | T j=>cases z;exact ne_bool (qc I q (congrArg not bV6))
  | str j=>obtain⟨t',rfl⟩:=z;exact lw (qc I q (by simp))
  | _=>exact absurd (hs) aI
 | int i =>
  obtain⟨t,rfl⟩:=F;cases y with
  | N=>cases z;exact PySem.EqNone.ne_int_none (qc I q (by simp))
  | int j=>obtain⟨t',rfl⟩:=z;exact ne_int (qc I q (congrArg not ba8))
  | str j=>obtain⟨t',rfl⟩:=z;exact lE (qc I q (by simp))
  | _=>exact absurd (hs) aI
 | str i =>
  obtain⟨t,rfl⟩:=F;cases y with
  | N=>cases z;exact PySem.EqNone.ne_str_none (qc I q (by simp))
  | T j=>cases z;exact lx (qc I q (by simp))
  | int j=>obtain⟨t',rfl⟩:=z;exact lF (qc I q (by simp))
  | str j=>obtain⟨t',rfl⟩:=z;exact ne_str (qc I q (congrArg not bE1))
  | _=>exact absurd (hs) aI
 | byt i =>
  obtain⟨t,rfl⟩:=F;cases y with
  | byt j=>obtain⟨t',rfl⟩:=z;exact PySem.W.ne_bytes (qc I q (congrArg not bu7))
  | _=>exact absurd (hs) aI
 | _=>cases y<;>exact absurd (hs) aI
def bZ0:OpR X (cW .Lt) (rI0 λ i j=>.T (decide (i<j))):=ca2 λ _ _ _ _ _ _ _ q=>lt_int q
def cd4:OpR X (cW .LtE) (rI0 λ i j=>.T (decide (i<=j))):=ca2 λ _ _ _ _ _ _ _ q=>le_int q
def ca7:OpR X (cW .Gt) (rI0 λ i j=>.T (decide (j<i))):=ca2 λ _ _ _ _ _ _ _ q=>gt_int q
def bw1 (ho:OpR X (cW op) r)(ha:PE X a ta)(hb:PE X b tb)(hm:c7 op b=false):PE X (.Compare a [op] [b] pos) (tOp r ta tb):=by
 intro z s W H Q I h;exact wpAny_Compare1 (cc9 ha hb I h λ v u s2 x y Y G F J q=>ho z s2 W Y x y v u Q G F J q) hm
def bD0 (t:TE):TT:=λ W H Q=>t W H λ x H'=>∃ k,x=.T k/\Q k H'
def bc9 (ho:OpR X (cW op) r)(ha:PE X a ta)(hb:PE X b tb)(hm:c7 op b=false):PT X (.Compare a [op] [b] pos) (bD0 (tOp r ta tb)):=by
 intro F s W H Q I h;refine iw (thn (ha F s W H _ I h) λ v s1 ⟨x,Z,G,r1,q1⟩=>thn (hb F s1 W Z _ G q1) λ u s2 ⟨y,H2,J,r2,q2⟩ =>
  thn (ho F s2 W H2 x y v u _ J r1 r2 q2) λ c s3 ⟨z,H3,Y,r3,k,e,q3⟩=>?_) hm
 subst e;cases r3;exact bO ⟨H3,Y,q3⟩
def aX8 (r r':R2)(ta tb tc:TE):TE:=λ W H Q=>ta W H λ x H1=>tb W H1 λ y H2=>r x y H2 λ z H3=>∃ k,z=.T k /\
 (if k=true then tc W H3 λ w' H4=>r' y w' H4 Q else Q (.T false) H3)
def bh9 (ho:OpR X (cW op) r)(J:OpR X (cW G) Z)(ha:PE X a ta)(hb:PE X b tb)(hc:PE X c tc)
  (hm:autoParam (lK [op,G] [b,c]=false) Zq5._auto_1):PE X (.Compare a [op,G] [b,c] pos) (aX8 r Z ta tb tc):=by
 intro F s W H Q I h;refine Compare_chain (thn (ha F s W H _ I h) λ v s1 ⟨x,H1,I1,r1,q1⟩=>chain_link (thn (hb F s1 W H1 _ I1 q1) λ u s2 ⟨y,H2,I2,r2,q2⟩ =>
  thn (ho F s2 W H2 x y v u _ I2 r1 r2 q2) λ d s3 ⟨z,H3,Y,r3,k,e,q3⟩=>?_)) hm
 subst e;cases r3;refine bO ?_;cases k with
 | false=>exact ite_ff ⟨.T false,H3,Y,rfl,q3⟩
 | true=>exact ite_tt (chain_last (thn (hc F s3 W H3 _ Y q3) λ w' s4 ⟨z',H4,I4,r4,q4⟩=>J F s4 W H4 y z' u w' Q I4 r2 r4 q4))
def bm7 (ho:OpR X (cW op) r)(J:OpR X (cW G) Z)(ha:PE X a ta)(hb:PE X b tb)(hc:PE X c tc)
  (hm:autoParam (lK [op,G] [b,c]=false) Zq5._auto_1):PT X (.Compare a [op,G] [b,c] pos) (bD0 (aX8 r Z ta tb tc)):=by
 intro F s W H Q I h;refine isTrue_chain (thn (ha F s W H _ I h) λ v s1 ⟨x,H1,I1,r1,q1⟩=>test_link (thn (hb F s1 W H1 _ I1 q1) λ u s2 ⟨y,H2,I2,r2,q2⟩ =>
  thn (ho F s2 W H2 x y v u _ I2 r1 r2 q2) λ d s3 ⟨z,H3,Y,r3,k,e,q3⟩=>?_)) hm
 subst e;cases r3;refine bO ?_;cases k with
 | false =>
  obtain⟨k',e',q'⟩:=q3;cases e';exact ite_ff ⟨H3,Y,q'⟩
 | true =>
  refine ite_tt (test_last (thn (hc F s3 W H3 _ Y q3) λ w' s4 ⟨z',H4,I4,r4,q4⟩=>thn (J F s4 W H4 y z' u w' _ I4 r2 r4 q4) λ d' s5 ⟨z2,H5,I5,r5,k2,e2,q5⟩=>?_));subst e2;cases r5;exact bO ⟨H5,I5,q5⟩
def ap1:(aP)<2^63:=by rw[gy];decide
def aT0:OpR X (cx .Add) (λ x y H Q=>∃ i j,x=.str i/\y=.str j/\i.length+j.length<=aP/\Q (.str (i++j)) H):=by
 intro z s W H x y v u Q I F G h;obtain⟨i,j,rfl,rfl,hz,q⟩:=h;obtain⟨t,rfl⟩:=F;obtain⟨t',rfl⟩:=G;exact add_str (λ t' tk=>⟨.str (i++j),H,I.tok _,⟨_,rfl⟩,q⟩) hz
def ai2 {us:yH}(r:Vals [x] us):∃ u,us=[u]/\RelV x u:=by
 cases r with
 | cons r1 r2=>cases r2;exact⟨_,rfl,r1⟩
def bf6 {us:yH}(r:Vals [x,y] us):∃ u w',us=[u,w']/\RelV x u/\RelV y w':=by
 cases r with
 | cons r1 r2 =>
  cases r2 with
  | cons r3 r4=>cases r4;exact⟨_,_,rfl,r1,r3⟩
def bj5:ae3 X (.builtin "abs") (λ z H Q=>∃ i,z=[.int i]/\Q (.int (if i<0 then -i else i)) H):=by
 intro y s W H z us Q I r h;obtain⟨i,rfl,q⟩:=h;obtain⟨u,rfl,t,rfl⟩:=ai2 r;exact call_abs_int λ u tk=>⟨.int (if i<0 then -i else i),H,I.tok _,⟨_,rfl⟩,q⟩
def aW0 (hc:X.calm=true):ae3 X (.builtin "max") (λ z H Q=>∃ i j,z=[.int i,.int j]/\Q (.int (if j > i then j else i)) H):=by
 intro y s W H z us Q I r h;obtain⟨i,j,rfl,q⟩:=h;obtain⟨u,w',rfl,⟨t,rfl⟩,⟨t',rfl⟩⟩:=bf6 r;refine max_two_ints (I.ok.hd hc) λ h' tk k=>⟨_,H,I.kept k,?_,q⟩
 by_cases hj:j > i
 .rw[if_pos hj,if_pos hj];exact⟨_,rfl⟩
 .rw[if_neg hj,if_neg hj];exact⟨_,rfl⟩
def bf4 (hc:X.calm=true):ae3 X (.builtin "min") (λ z H Q=>∃ i j,z=[.int i,.int j]/\Q (.int (if j<i then j else i)) H):=by
 intro y s W H z us Q I r h;obtain⟨i,j,rfl,q⟩:=h;obtain⟨u,w',rfl,⟨t,rfl⟩,⟨t',rfl⟩⟩:=bf6 r;refine min_two_ints (I.ok.hd hc) λ h' tk k=>⟨_,H,I.kept k,?_,q⟩
 by_cases hj:j<i
 .rw[if_pos hj,if_pos hj];exact⟨_,rfl⟩
 .rw[if_neg hj,if_neg hj];exact⟨_,rfl⟩
def be0:ae3 X (.type "int") (λ y H Q=>(∃ i,y=[.int i]/\Q (.int i) H)\/∃ k,y=[.T k]/\Q (.int (if k then 1 else 0)) H):=by
 intro z s W H y us Q I r h;rcases h with⟨i,rfl,q⟩|⟨k,rfl,q⟩
 .obtain⟨u,rfl,t,rfl⟩:=ai2 r;exact call_int_int ⟨.int i,H,I,⟨_,rfl⟩,q⟩
 .obtain⟨u,rfl,r1⟩:=ai2 r;cases r1;exact call_int_bool ⟨.int (if k then 1 else 0),H,I.tok _,⟨_,rfl⟩,q⟩
end
structure ObjM (h:Heap)(x dx Cc:Addr)(mA:yD):Prop where
 obj:h.get? x=some (kO Cc dx)
 ns:h.Ns1 dx mA
 ne:dx≠x
def bc1 {h:Heap}{J:yD}(n:h.Ns1 G J):∃ od,h.get? G=some od/\∀ name,iE name od=some (J name):=by
 obtain⟨o,es,Z,ho,hd,hk,_,hm⟩:=n;refine⟨o,ho,λ name=>?_⟩;have e:=hm name;unfold nsFind findBy at e;rw[<-Array.find?_toList]at e;unfold iE;rw[hd];dsimp only;split
 .rename_i y q;rw[q]at e;exact congrArg some e
 .rename_i q;rw[q]at e;have a:es.toList.any (·.refKey)=false:=by
   rw[jR];intro y hy;obtain⟨z,t,F⟩:=hk y (Array.mem_toList_iff.mp hy);simp[DictEntry.refKey,F]
  have Y:¬ es.toList.any (·.refKey)=true:=by rw[a];exact aI
  rw[if_neg Y];exact congrArg some e
def ObjM.look (I:ObjM h x y Cc z):∃ od,PySem.W.InstAt h x (kO Cc y) Cc (some od)/\∀ name,iE name od=some (z name) :=
 let⟨od,ho,hl⟩:=bc1 I.ns
 ⟨od,⟨I.obj,rfl,rfl,ho⟩,hl⟩
section
variable {prog:aJ} {w:World} {A:aS} {E:yB} {s:af} {K:ac} {x dx Cc f:Addr} {mA:yD} {name:Str} {v:Value}
end
section
variable {P:aJ} {w:World} {H H':Hp} {h h':Heap} {a Cc dx:Addr} {fs fs':List (Str×V)}
end
structure Cls (K:ac)(Cc:Addr):Prop where
 pg:kl K Cc Str.empty=true
 hd:PySem.W.hasDictIn K Cc=true
 po:PySem.W.plainOver K Cc=true
 sa:bZ K (.ref Cc) "__setattr__"=some (some (.builtin "object.__setattr__"))
def Cls.get {K}(c:Cls K Cc) f :kl K Cc f=true:=c.pg
section
variable {X:Cx} {pins:yA} {W:St} {H:Hp} {s:af} {a Cc dx:Addr} {fs:List (Str×V)} {f:Str} {v:V} {A:aS} {E:yB}
end
section
variable {X:Cx} {o e value:Expr} {f:Str} {pos pos' tpos:Pos} {ta tv:TE}
end
section
variable {X:Cx} {pins:yA} {W:St} {H:Hp} {s:af} {A:aS} {E:yB} {Q:yB} {c:Value} {b:Bool}
inductive TyOf (K:ac)(H:Hp):V->Value->Prop where
 | N:TyOf K H .N (.type "NoneType")
 | T (x:Bool):TyOf K H (.T x) (.type "bool")
 | int (i:Int):TyOf K H (.int i) (.type "int")
 | str (x:Str):TyOf K H (.str x) (.type "str")
 | flt (x:UInt64):TyOf K H (.flt x) (.type "float")
 | J {a:Addr} {xs:List V} (e:H a=some (.J xs)):TyOf K H (.ref a) (.type "list")
 | frz {a:Addr} {o:Obj} {xs:List V} (e:H a=some (.frz o (.J xs))):TyOf K H (.ref a) (.type "list")
 | tp {a:Addr} {xs:List V} (e:H a=some (.tp xs)):TyOf K H (.ref a) (.type "tuple")
def qC (I:Inv X pins W H s)(F:RelV x u)(Y:TyOf X.K H x t)(e:bc X.K t c=some b)(h:∀ tk,Q (.bool b) { s with toks:=tk }) :
  wpAny (model X.prog X.w) A (call (.builtin "isinstance") [u,c]) Q E s:=by
 cases Y with
 | N=>cases(show u=Value.none from F);exact bS PySem.W.kitx_none I.kIn True.intro e (λ z=>nomatch z) h
 | T y=>cases(show u=Value.bool y from F);exact bS PySem.W.kitx_bool I.kIn True.intro e (λ z=>nomatch z) h
 | int i=>obtain⟨t,q⟩:=(show ∃ t,u=Value.int i t from F);cases q;exact bS PySem.W.kitx_int I.kIn True.intro e (λ z=>nomatch z) h
 | str y=>obtain⟨t,q⟩:=(show ∃ t,u=Value.str y t from F);cases q;exact bS PySem.W.kitx_str I.kIn True.intro e (λ z=>nomatch z) h
 | flt y=>obtain⟨t,q⟩:=(show ∃ t,u=Value.float y t from F);cases q;exact bS PySem.W.kitx_float I.kIn True.intro e (λ z=>nomatch z) h
 | @J a xs ea =>
  cases(show u=Value.ref a from F);obtain⟨_,_,n,_,G⟩:=(show af6 X.prog X.w H s.heap a (.J xs)from I.hok a _ ea)
  exact bS jS I.kIn ⟨_,G,rfl⟩ e (λ z=>nomatch z) h
 | @frz a ob xs ea =>
  cases(show u=Value.ref a from F);obtain⟨_,_,_,n,_,G⟩:=(show af6 X.prog X.w H s.heap a (.frz ob (.J xs))from I.hok a _ ea)
  exact bS jS I.kIn ⟨_,G,rfl⟩ e (λ z=>nomatch z) h
 | @tp a xs ea =>
  cases(show u=Value.ref a from F);obtain⟨_,_,_,p⟩:=(show af6 X.prog X.w H s.heap a (.tp xs)from I.hok a _ ea)
  obtain⟨o,G,J,_⟩:=p;exact bS jy I.kIn ⟨o,G,J⟩ e (λ z=>nomatch z) h
end
structure Room (k:Nat)(A:aS):Prop where
 hd:A.handled=none
 dp:A.depth+3*k+5<recursionLimit
 un:A.units+16*k+200<cLine
def Room.mono (r:Room k A)(h:j<=k):Room j A:=⟨r.hd,by have:=r.dp;lia,by have:=r.un;lia⟩
theorem Room.deeper (r:Room (k+1) A) env :Room k (A.deeper env) :=
 ⟨r.hd,by have:=r.dp;show A.depth+1+3*k+5<_;lia,by have:=r.un;show A.units+3+16*k+200<_;lia⟩
theorem Room.in1 (r:Room (k+1) A):Room k A.in1 :=
 ⟨r.hd,by have:=r.dp;show A.depth+3*k+5<_;lia,by have:=r.un;show A.units+1+16*k+200<_;lia⟩
theorem Room.depth (r:Room k A):A.depth<recursionLimit:=by have:=r.dp;lia
theorem Room.units (r:Room k A):A.units+64<cLine:=by have:=r.un;lia
def Room.units0 (r:Room k A):A.units<cLine:=by have:=r.un;lia
def bg8:TA:=λ _ H Q=>Q [] H
def ao2 (ta:TE)(tr:TA):TA:=λ W H Q=>ta W H λ x H1=>tr W H1 λ xs H2=>Q (x::xs) H2
section
variable {X:Cx} {e:Expr} {es:yL} {te:TE} {t:TA} {pos:Pos}
def ad4:PA X [] bg8:=λ _ _ _ _ H Q I h=>Calls.spliced_nil ⟨[],H,I,.nil,h⟩
def zq (ha:PE X e te)(hr:PA X es t)(hs:autoParam (bD (e::es) X.env=(false,eval e X.env)::bD es X.env) Zq4._auto_1):PA X (e::es) (ao2 te t):=by
 intro pos y s W H Q I h;rw[hs];refine Calls.spliced_cons (thn (ha y s W H _ I h) λ u s1 ⟨x,G,z,r1,q1⟩=>?_);exact thn (hr pos y s1 W G _ z q1) λ us s2 ⟨J,Y,F,r2,q2⟩=>⟨x::J,Y,F,.cons r1 r2,q2⟩
def cg8 (t:TA):TE:=λ W H Q=>t W H λ xs H1=>xs.length<=aP/\∀ p,H1 p=none->Q (.ref p) (upd H1 p (.tp xs))
def ck9 (t:TA):TE:=λ W H Q=>t W H λ xs H1=>xs.length<=aP/\∀ p,H1 p=none->Q (.ref p) (upd H1 p (.J xs))
def br3 (h:PA X es t):PE X (.Tuple es x1 pos) (cg8 t):=by
 intro y s W H Q I hq;refine wpAny_Tuple_spliced (thn (h pos y s W H _ I hq) λ us s1 ⟨J,G,F,r,z,q⟩=>⟨by rw[<-r.length];exact z,?_⟩);have hf:=F.hok.fresh (av _);refine⟨.ref s1.heap.objs.size,upd G s1.heap.objs.size (.tp J),F.laid (λ b u e=>ak _ e) (av _) ?_,rfl,q _ hf⟩;exact⟨z,us,r,⟨_,aM _ rfl,rfl,_,rfl⟩⟩
def av7 (h:PA X es t):PE X (.List es pos) (ck9 t):=by
 intro y s W H Q I hq;refine wpAny_List_spliced (thn (h pos y s W H _ I hq) λ us s1 ⟨J,G,F,r,z,q⟩=>⟨by rw[<-r.length];exact z,?_⟩);have hf:=F.hok.fresh (av _);refine⟨.ref s1.heap.objs.size,upd G s1.heap.objs.size (.J J),F.laid (λ b u e=>ak _ e) (av _) ?_,rfl,q _ hf⟩;exact⟨z,us,0,r,aM _ rfl⟩
end
abbrev Sp:=List V->Hp->VK->XK->Prop
abbrev CXT:=List Env->Hp->af->XK->Value->af->Prop
structure Env0 (P:aJ)(w:World)(K:ac)(mg:yD)(base:Heap)(A:aS)(outer:List Env)(s:af)(H:Hp):Prop where
 frames:A.frames=some outer
 mod:Mod K mg base
 bs:∀ b o,base.get? b=some o->s.heap.get? b=some o/\H b=none
 bsz:base.objs.size<=s.heap.objs.size
 funs:s.heap.FunFrames base outer
 frf:∀ b∈frs outer,H b=none
 hok:HOk P w H s.heap
 bare:fU s.gens
def CE (outer:List Env)(P:aJ)(w:World)(H:Hp)(s:af)(Q:VK)(u:Value)(s':af):Prop :=
 ∃ v H',s'.os=s.os/\fU s'.gens/\Un (frs outer) [] H H' s.heap s'.heap/\HOk P w H' s'.heap/\RelV v u/\Q v H'
def CR (CX:CXT)(outer:List Env)(P:aJ)(w:World)(H:Hp)(s:af)(Q:VK)(E:XK)(r:km)(s':af):Prop :=
 match r with
 | .ok (.ret u)=>CE outer P w H s Q u s'
 | .ok _=>False
 | .error e=>CX outer H s E e s'
structure FnOk (P:aJ)(w:World)(K:ac)(mg:yD)(base:Heap)(CX:CXT)(k:Nat)(f:Addr)(fd:bW)(ps:yI)(sp:Sp):Prop where
 len:∀ vs H Q E,sp vs H Q E->vs.length=ps.length
 run:∀(A:aS) (outer:List Env) (s:af) (H:Hp) (args:Args) (us:yH) (vs:List V) (Q:VK) (E:XK),Room k A->Env0 P w K mg base A outer s H->kY s fd args (ps.zip us)->Vals vs us->sp vs H Q E ->
  iY (model P w) A (.call (.ref f) args) (CR CX outer P w H s Q E) s
def FnOk.imp {K}(F:FnOk P w K J base G k f Y ps sp)
  (h:∀ vs H Q E,z vs H Q E->sp vs H Q E):FnOk P w K J base G k f Y ps z :=
 ⟨λ vs H Q E q=>F.len vs H Q E (h _ _ _ _ q),λ A y s H args us vs Q E hr he hb hv hs=>F.run A y s H args us vs Q E hr he hb hv (h _ _ _ _ hs)⟩
section
variable {X:Cx} {pins:yA} {W:St} {H:Hp} {s s':af}
def Inv.env0 (I:Inv X pins W H s):Env0 X.prog X.w X.K X.mg X.base X.A X.stack s H :=
 ⟨I.ok.frames,I.ok.mod,I.bs,aq I.ok.bsz I.sz,I.stack,I.stkFree,I.hok,I.bare⟩
def Inv.after (I:Inv X pins W H s)(h:CE X.stack X.prog X.w H s Q u s'):EP X pins W Q u s':=by
 obtain⟨v,H',os,bare,un,hok,r,q⟩:=h;obtain⟨hh,g,d,t,y⟩:=s';obtain rfl:y=s.os:=os;exact⟨v,H',I.call un hok bare (λ b z=>absurd z (by simp)),r,q⟩
end
def aU8 (sp:Sp)(dvs:List V)(E:XK)(t:TA):TE:=λ W H Q=>t W H λ vs H1=>sp (vs++dvs) H1 Q E
def Binds (K:ac)(fd:bW)(ps:yI)(ds:yH):Prop :=
 ∀ s us ,K.In s.heap->(us++ds).length=ps.length->kY s fd ⟨us,[]⟩ (ps.zip (us++ds))
def Binds.all {K}(h:∀ us:List Value,us.length=ps.length->bindArgs y ⟨us,[]⟩=pure (ps.zip us)):Binds K y ps []:=λ s us _ hl=>by
 rw[az]at hl ⊢;exact .of_eq (h us hl)
def qt (CX:CXT)(X:Cx)(E:XK):Prop:=∀ pins (W:St) H s e s' ,Inv X pins W H s->CX X.stack H s E e s'->X.xe e s'
section
variable {X:Cx} {CX:CXT} {k:Nat} {f Cc:Addr} {fd:bW} {ps:yI} {sp:Sp} {dvs:List V} {ds:yH} {E:XK} {x m:Str} {p pos apos:Pos} {e o:Expr} {es:yL} {ta:TE} {t:TA}
def bs8 {W:St}{us:yH}(F:FnOk X.prog X.w X.K X.mg X.base CX k f fd ps sp)(hr:Room k X.A)(hb:Binds X.K fd ps ds)(hd:Vals dvs ds)(hx:qt CX X E)
  (I:Inv X y W H s) (r:Vals vs us) (h:sp (vs++dvs) H Q E):wpAny (model X.prog X.w) X.A (call (.ref f) us) (EP X y W Q) X.xe s:=by
 have r2:Vals (vs++dvs) (us++ds):=r.append hd;have hl:(us++ds).length=ps.length:=by rw[<-r2.length];exact F.len _ _ _ _ h
 refine jz (hJ (F.run X.A X.stack s H ⟨us,[]⟩ (us++ds) (vs++dvs) Q E hr I.env0 (hb s us I.kIn hl) r2 h) λ r s' hq=>?_);cases r with
 | error e=>exact hx y W H s e s' I hq
 | ok fl =>
  cases fl with
  | ret u=>exact I.after hq
  | next=>exact bn hq
  | brk=>exact bn hq
  | cont=>exact bn hq
def bd7 (F:FnOk X.prog X.w X.K X.mg X.base CX k f fd ps sp)(hr:Room k X.A)(hg:Gl X x)(hm:X.mg x=some (.ref f))(hk:cy X.K (.ref f)=true)(hb:Binds X.K fd ps ds)(hd:Vals dvs ds)(hx:qt CX X E)
  (ha:PA X (e::es) t) (G:autoParam ((x==("__debug__":Str))=false) Zq1._auto_1) (he:autoParam (bD (e::es) X.env=(false,eval e X.env)::bD es X.env) Zq4._auto_1) (z:autoParam ((eY pos (bD es X.env)).any (·.1)=false) Zq4._auto_1) :
  PE X (.Call (.Name x p) (e::es) [] pos) (aU8 sp dvs E t):=by
 intro y s W H Q I h;refine di (aA1 I hg hm ?_ G);refine jA I.ok.mod.kin hk (thn (ha pos y s W H _ I h) λ us s1 ⟨vs,Y,J,r,q⟩=>⟨J.kIn,?_⟩) he z;exact bs8 F hr hb hd hx J r q
def bn1 (F:FnOk X.prog X.w X.K X.mg X.base CX k f fd ps sp)(hr:Room k X.A)(hg:Gl X x)(hm:X.mg x=some (.ref f))(hk:cy X.K (.ref f)=true)(hb:Binds X.K fd ps ds)(hd:Vals dvs ds)(hx:qt CX X E)
  (y:autoParam ((x==("__debug__":Str))=false) Zq1._auto_1):PE X (.Call (.Name x p) [] [] pos) (aU8 sp dvs E bg8):=by
 intro z s W H Q I h;refine di (aA1 I hg hm ?_ y);exact PySem.W.callWith_K0 I.kIn hk (bs8 F hr hb hd hx I .nil h)
structure Mk (K:ac)(Cc f:Addr):Prop where
 makes:PySem.W.makesIn K Cc=true
 init:bZ K (.ref Cc) "__init__"=some (some (.ref f))
 fn:PySem.W.isFn K (.ref f)=true
 kp:cy K (.ref Cc)=true
end
section
variable {X:Cx} {CX:CXT} {k:Nat} {f Cc:Addr} {fd:bW} {ps ks:yI} {sp:Sp} {E:XK} {x m:Str} {p pos apos kpos:Pos} {e o:Expr} {es:yL} {kws:List iZ} {te ta:TE} {t tk:TA} {nm:Option Str}
variable {g:List Value->List Value->List Value} {gV:List V->List V->List V}
end
structure FnScope (N P:yI)(sc:Scope):Prop where
 kind:sc.kind=.function
 co:sc.isCoroutine=false
 gen:sc.isGenerator=false
 nd:N.Nodup
 pre:N.take P.length=P
 par:∀ x∈P,sc.names.lookup x=some .local\/sc.names.lookup x=some .cell
 nofree:∀ y∈sc.names,y.2≠.free
def Zsc {N P:yI}{sc:Scope}(a:autoParam (sc.kind=.function) Zq4._auto_1)(b:autoParam (sc.isCoroutine=false) Zq4._auto_1)(c:autoParam (sc.isGenerator=false) Zq4._auto_1)(d:autoParam (N.Nodup) Zq6._auto_1)(e:autoParam (N.take P.length=P) Zq4._auto_1)(f:autoParam (∀ x∈P,sc.names.lookup x=some .local\/sc.names.lookup x=some .cell) Zq6._auto_1)(g:autoParam (∀ y∈sc.names,y.2≠.free) Zq6._auto_1):FnScope N P sc:=⟨a,b,c,d,e,f,g⟩
theorem aE5 {fc}:∀ {binds} {m:yD},(∀ v,(x,v) ∉ binds)->bindL fc binds m x=m x
 | [],_,_=>rfl
 | (n,v)::r,m,h=>by
  unfold bindL;rw[aE5 λ w hw=>h w (ai _ hw)];split
  .have:x≠n:=by rintro rfl;exact h v au
   simp[this]
  .rfl
theorem aB7 {fc}:∀ {binds} {m:yD},(∀ v,(x,v) ∉ binds)->bindC fc binds m x=m x
 | [],_,_=>rfl
 | (n,v)::r,m,h=>by
  unfold bindC;rw[aB7 λ w hw=>h w (ai _ hw)];split
  .rfl
  .have:x≠n:=by rintro rfl;exact h v au
   simp[this]
theorem aE3 {fc}:∀ {P:yI} {vs:yH} {i:Nat} {m:yD},P.Nodup->P[i]?=some x->vs[i]?=some v->fc x=some .local ->
  bindL fc (P.zip vs) m x=some v
 | [],_,_,_,_,h,_,_=>by simp at h
 | _::_,[],_,_,_,_,h,_=>by simp at h
 | p::P,w::vs,0,m,nd,h1,h2,hk=>by
  simp at h1 h2;subst h1;subst h2;show bindL fc ((p,w)::P.zip vs) m p=_;unfold bindL;rw[aE5 λ v hv=>(fD.mp nd).1 (fF hv).1,if_pos hk];simp
 | p::P,w::vs,i+1,m,nd,h1,h2,hk=>by
  unfold bindL;exact aE3 (fD.mp nd).2 (by simpa using h1) (by simpa using h2) hk
theorem aG2 {fc}:∀ {P:yI} {vs:yH} {i:Nat} {m:yD},P.Nodup->P[i]?=some x->vs[i]?=some v->fc x≠some .local ->
  bindC fc (P.zip vs) m x=some v
 | [],_,_,_,_,h,_,_=>by simp at h
 | _::_,[],_,_,_,_,h,_=>by simp at h
 | p::P,w::vs,0,m,nd,h1,h2,hk=>by
  simp at h1 h2;subst h1;subst h2;show bindC fc ((p,w)::P.zip vs) m p=_;unfold bindC;rw[aB7 λ v hv=>(fD.mp nd).1 (fF hv).1,if_neg hk];simp
 | p::P,w::vs,i+1,m,nd,h1,h2,hk=>by
  unfold bindC;exact aG2 (fD.mp nd).2 (by simpa using h1) (by simpa using h2) hk
noncomputable def qv (N:yI)(vs:List V):St:=vs.map some++ax (N.length - vs.length) none
noncomputable def al6 (CX:CXT)(P:aJ)(w:World)(K:ac)(mg:yD)(base:Heap)(N:yI)(qual:Str)(scope:Scope)(f:Addr)(cd:Value)(A:aS)(outer:List Env)(s:af)(H:Hp)(E:XK):Cx where
 prog:=P
 w:=w
 K:=K
 mg:=mg
 base:=base
 A:=A.deeper (fG qual scope s.heap.objs.size f cd)
 N:=N
 s₀:=s
 H₀:=H
 env:=fG qual scope s.heap.objs.size f cd
 outer:=outer
 stack:=fG qual scope s.heap.objs.size f cd::outer
 ex:=[]
 calm:=true
 fn:=λ _=>true
 pn:=[]
 xe:=λ e s'=>wpAny (model P w) (A.deeper (fG qual scope s.heap.objs.size f cd)) (kZ (fG qual scope s.heap.objs.size f cd) e) (λ _ s''=>CX outer H s E e s'') (λ e' s''=>CX outer H s E e' s'') s'
def am8 {sc:Scope}(h:sc.names.lookup x=some .cell):∃ c,(bz n sc.names []).lookup x=some c:=by
 have q:=eH sc.names n [] (.inl h);exact gJ.mp q
def aA3 {K:ac}{us:yH}{vs:List V}
  (S:FnScope N ps scope) (hd:A.handled=none) (e0:Env0 P w K mg base A F s H) (hl:vs.length=ps.length) (r:Vals vs us)
  (x:InCallC s s.heap.objs.size (bindL (fG qual scope s.heap.objs.size f cd).kindOf (ps.zip us) λ _=>none) (bz (s.heap.objs.size+1) scope.names []) (bindC (fG qual scope s.heap.objs.size f cd).kindOf (ps.zip us) λ _=>none) s1) :
  Inv (al6 CX P w K mg base N qual scope f cd A F s H E) [] (qv N vs) H s1:=by
 have a0:ps.length<=N.length:=by have:=congrArg et S.pre;rw[aQ]at this;lia
 obtain⟨Z,tk,rfl,hk⟩:=x.done;have J:∀ b:Addr,b ∉ (al6 CX P w K mg base N qual scope f cd A F s H E).ex:=λ b z=>absurd (show b∈([]:List Addr)from z) (by simp);refine⟨⟨e0.mod,S.kind,rfl,rfl,av _,λ y z c Z G=>?_,λ y hy=>?_,λ y c _ h=>?_,λ _=>hd,Around.frames_deeper e0.frames,.inr ⟨rfl,rfl⟩,λ b z=>absurd z (J b),e0.bs,e0.bsz,λ b _ _=>J b,λ b z=>absurd z (J b),e0.funs,e0.frf⟩,
  rfl,e0.bare,Un.kept hk,⟨_,x.toInCall.ns,λ i y v Z G h3=>?_⟩,λ y c h=>⟨_,x.cell y c h⟩,e0.hok.fresh (av _),λ y c h=>?_,λ p hp=>absurd (show p∈([]:yA)from hp) (by simp),e0.hok.kept hk,?_⟩
 .exact name_of_addr x.apart (bu Z) (bu G)
 .have hy:scope.names.lookup y=some .cell\/scope.names.lookup y=some .free:=hy;rcases hy with hy|hy
  .exact am8 hy
  .exact absurd rfl (S.nofree _ (bu hy))
 .exact fW (x.above y c (bu h))
 .have hi:i<vs.length:=by
   unfold qv at G;by_cases hi:i<vs.length
   .exact hi
   .rw[bR (by simpa using hi)]at G;rw[gS]at G;split at G<;>cases G
  have ha:vs[i]?=some v:=by
   unfold qv at G;rw[bh (by simpa using hi),aY]at G;cases e:vs[i]? with
   | none=>rw[e]at G;cases G
   | some a=>rw[e]at G;cases G;rfl
  obtain⟨u,hu,rv⟩:=r.get ha;have hp:ps[i]?=some y:=by
   rw[<-S.pre,List.getElem?_take_of_lt (by lia)];exact Z
  have Y:ps.Nodup:=by rw[<-S.pre];exact S.nd.sublist (List.take_sublist _ _)
  refine⟨u,rv,?_⟩;rcases S.par y (aG hp)with k|k
  .exact .inl ⟨k,aE3 Y hp hu k⟩
  .obtain⟨c,e⟩:=am8 (n:=s.heap.objs.size+1) k;refine .inr ⟨.inl k,c,e,?_⟩;have q:=x.cell y c e;rw[aG2 Y hp hu (by show scope.names.lookup y≠_;rw[k];decide)]at q;exact q
 .exact e0.hok.fresh (fW (x.above y c (bu h)))
 .unfold qv;show _=N.length;rw[ar,ao,List.length_replicate];lia
def bN3 {K:ac}{body:yM}{ kV a0 pm F ct oc:Value}{an od:yJ}
  {a1:yF} (lk:K.lookup f=some ⟨oc,od,.func (dj name qual params body scope dV kV a0 pm an F ct),a1⟩) (a3:f9 K F qual=true) (S:FnScope N ps scope)
  (len:∀ vs H Q E,sp vs H Q E->vs.length=ps.length)
  (Y:∀(A:aS) (z:List Env) (s:af) (H:Hp) (vs:List V) (Q:VK) (E:XK),Room k (A.deeper (fG qual scope s.heap.objs.size f F))->sp vs H Q E ->
   ∃ t,PSs (al6 CX P w K mg base N qual scope f F A z s H E) body t/\t { nx:=λ _ H'=>Q .N H',rt:=Q } (qv N vs) H) :
  FnOk P w K mg base CX (k+1) f (dj name qual params body scope dV kV a0 pm an F ct) ps sp:=by
 refine⟨len,λ A z s H args us vs Q E hr e0 hb r Z=>?_⟩;have hl:=len _ _ _ _ Z;have KX:K.In s.heap:=e0.mod.kin.keeps λ b o e=>(e0.bs b o e).1;have a2:s.heap.NoLimit:=e0.mod.nolimit.keeps λ b o e=>(e0.bs b o e).1;have G:∀ y∈ps.zip us,scope.names.lookup y.1=some .local\/(scope.names.lookup y.1=some .cell/\((bz (s.heap.objs.size+1) scope.names []).lookup y.1).isSome=true):=λ⟨n,v⟩ hy=>by
  rcases S.par n (fF hy).1 with q|q
  .exact .inl q
  .exact .inr ⟨q,eH _ _ _ (.inl q)⟩
 refine iy hr.depth (KX _ _ lk) rfl S.co S.gen rfl (jB KX a3) (hb _ _ _ _ ?_);refine gb S.kind G λ env he s1 x=>?_;subst he;refine⟨a2.keeps x.toInCall.keep,codeAny_func ?_⟩;obtain⟨t,ht,hq⟩:=Y A z s H vs Q E (hr.deeper _) Z;have I:Inv (al6 CX P w K mg base N qual scope f F A z s H E) [] (qv N vs) H s1:=aA3 S hr.hd e0 hl r x;refine bf (ht [] s1 (qv N vs) H _ I hq) (λ fl s' hs=>?_) λ e s' hs=>hs;have fin:∀ {W':St} {H':Hp} {v:V} {u:Value},Inv (al6 CX P w K mg base N qual scope f F A z s H E) [] W' H' s'->RelV v u->Q v H'->CE z P w H s Q u s' :=
  λ {W' H' v u} J rv q=>⟨v,H',J.os,J.bare,J.base,J.hok,rv,q⟩
 cases fl with
 | ret u =>
  obtain⟨v,W',H',J,rv,q⟩:=hs;exact fin J rv q
 | next =>
  obtain⟨W',H',J,q⟩:=hs;exact fin (v:=V.N) (u:=Value.none) J rfl q
 | brk =>
  obtain⟨_,_,_,q⟩:=hs;exact bn q
 | cont =>
  obtain⟨_,_,_,q⟩:=hs;exact bn q
section
variable {X:Cx} {x:Str} {p pos:Pos} {e:Expr} {es:yL} {t:TA} {id T:String} {r:List V->Hp->VK->Prop}
def tCB (r:List V->Hp->VK->Prop)(t:TA):TE:=λ W H Q=>t W H λ vs H1=>r vs H1 Q
def ai9 (hc:ae3 X (.builtin id) r)(hg:Gl X x)(hm:X.mg x=none)(hv:br x=some (.builtin id))(ha:PA X (e::es) t)(hn:autoParam (x ≠ "__name__") Zq1._auto_1)(F:autoParam ((x==("__debug__":Str))=false) Zq1._auto_1)
  (he:autoParam (bD (e::es) X.env=(false,eval e X.env)::bD es X.env) Zq4._auto_1) (z:autoParam ((eY pos (bD es X.env)).any (·.1)=false) Zq4._auto_1):PE X (.Call (.Name x p) (e::es) [] pos) (tCB r t):=by
 intro y s W H Q I h;refine di (aB2 I hg hm hv ?_ hn F);exact PyProof.Rows.callWith_builtin1 (thn (ha pos y s W H _ I h) λ us s1 ⟨vs,J,G,r1,q1⟩=>hc y s1 W J vs us Q G r1 q1) he z
def aj8 (hc:ae3 X (.type T) r)(hg:Gl X x)(hm:X.mg x=none)(hv:br x=some (.type T))(ha:PA X (e::es) t)(hn:autoParam (x ≠ "__name__") Zq1._auto_1)(F:autoParam ((x==("__debug__":Str))=false) Zq1._auto_1)
  (he:autoParam (bD (e::es) X.env=(false,eval e X.env)::bD es X.env) Zq4._auto_1) (z:autoParam ((eY pos (bD es X.env)).any (·.1)=false) Zq4._auto_1):PE X (.Call (.Name x p) (e::es) [] pos) (tCB r t):=by
 intro y s W H Q I h;refine di (aB2 I hg hm hv ?_ hn F);exact dG (thn (ha pos y s W H _ I h) λ us s1 ⟨vs,J,G,r1,q1⟩=>hc y s1 W J vs us Q G r1 q1) he z
end
end L2
end
noncomputable section
namespace HT
open PySem PyProof.Rows
section
open PySem.SeqAt
open PySem.AutoSeq1 (wpAny_loadPart')
open PySem.MeetsSeq PySem.MeetsSeq2 PySem.MeetsSeq3
end
section
variable {prog:aJ} {w:World} {A:aS} {E:yB} {s:af}
def cat_tup {vs ws:yH}{Q:yB}(ht:IsTup s.heap t vs.toArray)(hb:IsTup s.heap b ws.toArray)(hv:vs≠[])
  (h1:ws=[]->Q (.ref t) s) (h2:ws≠[]->Q (.ref s.heap.objs.size) { s with heap:=s.heap.push { cls:=.type "tuple",data:=.seq (vs++ws).toArray } })
  (Y:vs.length+ws.length<=aP):wpAny (model prog w) A (cx .Add (.ref t) (.ref b)) Q E s:=by
 obtain⟨⟨cls,dd,data,sl⟩,ho,hc,n,hd⟩:=id ht;obtain⟨⟨a0,J,Z,F⟩,y,z,n2,G⟩:=id hb;simp only at hc hd z G;subst hc hd z G;have e:vs.toArray++ws.toArray=(vs++ws).toArray:=by simp
 by_cases hw:ws=[]
 .exact jT ⟨_,ho,rfl⟩ ⟨_,y,rfl⟩ gU jr eJ eB (dW _ _)
   (tuple_addW1 t b vs.toArray ws.toArray n n2 dd J sl F (by simpa using hv) (by simp[hw])) ⟨ho,y,h1 hw⟩
 .refine jT ⟨_,ho,rfl⟩ ⟨_,y,rfl⟩ gU jr eJ eB (dW _ _)
   (tuple_addW2 t b vs.toArray ws.toArray n n2 dd J sl F (by simpa using hv) (by simpa using hw) (by rw[ay,ay];exact Y)) ⟨ho,y,?_⟩
  rw[e];exact h2 hw
noncomputable def sIx (n d:Nat):Option Int->Nat
 | none=>d
 | some v=>if v<0 then(v+(n)).toNat else min v.toNat n
def sIx_le n d (hd:d<=n) o :sIx n d o<=n:=by
 cases o with
 | none=>exact hd
 | some v =>
  show(if v<0 then(v+(n)).toNat else min v.toNat n)<=n;by_cases hv:v<0
  .rw[if_pos hv];lia
  .rw[if_neg hv];exact ko _ _
def clip_eq v (n d:Nat):(if v<0 then max (v+(n:Int)) 0 else min v (n))=((sIx n d (some v))):=by
 show(if v<0 then max (v+(n)) 0 else min v (n))=(((if v<0 then(v+(n)).toNat else min v.toNat n)));by_cases hv:v<0
 .simp only[if_pos hv];lia
 .simp only[if_neg hv];lia
def adjust_gen y z (n:Nat):dR y z 1 (n)=(((sIx n 0 y):Int),((sIx n n z):Int)):=by
 have F:=by omega
 unfold dR;simp only[if_false];refine jO ?_ ?_
 .cases y with
  | none=>rfl
  | some v=>exact clip_eq v n 0
 .cases z with
  | none=>rfl
  | some v=>exact clip_eq v n n
def places_gen (i j:Nat):cV (i) (j) 1=j - i:=by
 unfold cV;have y:=by omega
 simp only[Int.ediv_one];split<;>lia
def slicePart_ (p:gK v o)(h:Q o s):wpAny (model prog w) A (kP v) Q E s:=by
 cases p with
 | none=>exact slicePart_none h
 | int i t=>exact slicePart_int h
def sliceApplied_gen {Q:Int×Int×Nat->af->Prop}(hs:s.heap.IsSliceOf sl vl vu .none)(Y:gK vl y)(J:gK vu G)
  (h:Q (((sIx n 0 y:Nat):Int),1,sIx n n G - sIx n 0 y) s):wpAny (model prog w) A (gc (.ref sl) (pure (n))) Q E s:=by
 obtain⟨os,F,Z,z⟩:=id hs;unfold gc ly;refine ae (ae (bG F z rfl (ae (bG F z rfl (ae (bG F z rfl (aA ?_)))))));refine ae (slicePart_none ?_);rw[if_neg (by decide)];refine ae (slicePart_ Y (ae (slicePart_ J (ae (aA ?_)))));show wpAny _ _ (match dR y G 1 (n)with|(y,G)=>pure (y,(1:Int),cV y G 1)) _ _ s;rw[adjust_gen y G n];show wpAny _ _ (pure (((sIx n 0 y):Int),(1),cV ((sIx n 0 y)) ((sIx n n G)) 1)) _ _ s;rw[places_gen];exact aA h
def pick_gen (y:yK)(i k:Nat):((bE k).filterMap λ(m:Nat)=>y[((i)+(m:Int)*1).toNat]?).toArray=((y.toList.drop i).take k).toArray:=by
 have e:(λ(m:Nat)=>y[((i)+(m:Int)*1).toNat]?)=λ m=>y[i+m]?:=by
  funext m
  have:((i)+(m:Int)*1).toNat=i+m:=by lia
  rw[this]
 rw[e];have:=pick_run y i k;rw[gd]at this;have e2:((λ x=>y[x]?) ∘ λ x=>i+x)=λ m=>y[i+m]?:=rfl;rw[e2]at this;rw[this]
def getItem_tuple_cut {y:yK}{Q:yB}(ht:IsTup s.heap t y)(hs:s.heap.IsSliceOf sl vl vu .none)(pl:gK vl F)(pu:gK vu G)
  (hw:¬(sIx y.size 0 F=0/\sIx y.size y.size G=y.size))
  (h:Q (.ref s.heap.objs.size) { s with heap:=s.heap.push { cls:=.type "tuple",data:=.seq ((y.toList.drop (sIx y.size 0 F)).take (sIx y.size y.size G - sIx y.size 0 F)).toArray } })
  (a2:y.size<=aP):wpAny (model prog w) A (ja (.ref t) (.ref sl)) Q E s:=by
 have z:sizeOk (.seq ((y.toList.drop (sIx y.size 0 F)).take (sIx y.size y.size G - sIx y.size 0 F)).toArray):=by
  show((y.toList.drop (sIx y.size 0 F)).take (sIx y.size y.size G - sIx y.size 0 F)).toArray.size<=aP;rw[ay,aQ,be,fS];omega
 have hj:sIx y.size y.size G<=y.size:=sIx_le _ _ (av _) G;obtain⟨os,Z,a0,a1⟩:=id hs;have J:s.TypeIs (.ref sl) "slice":=⟨os,Z,a0⟩
 unfold ja
 try with_reducible refine c8 ?_
 first|refine ae (aA ?_)|skip
 refine ae (jU ht.typeIs (by decide) ?_);refine ae (cf (name:=bp "__getitem__") ht.typeIs bw
  (cw bw ht.typeIs jh ?_ (jC _ _)))
 show wpAny _ _ (dI (.ref t) >>= _) _ _ s;refine ae (js ht ?_);refine ae (hX J ?_);rw[if_pos (by decide)];refine ae (sliceApplied_gen hs pl pu ?_);have Y:¬((((sIx y.size 0 F:Nat):Int)==0&&(1:Int)==1&&(sIx y.size y.size G - sIx y.size 0 F)==y.size)=true):=by
  intro q;rw[am,am]at q;have q1:((sIx y.size 0 F:Nat):Int)=0:=eq_of_beq q.1.1;have q2:sIx y.size y.size G - sIx y.size 0 F=y.size:=eq_of_beq q.2;exact hw ⟨by lia,by omega⟩
 show wpAny _ _ (if(((sIx y.size 0 F:Nat):Int)==0&&(1:Int)==1&&(sIx y.size y.size G - sIx y.size 0 F)==y.size)=true then _ else _) _ _ s;rw[if_neg Y,pick_gen]
 first
  | exact ae (m:=c9 _) (bP (aA ⟨_,rfl,aA h⟩) z)
  | exact ae (m:=c9 _) (bP (ae (aA (aA ⟨_,rfl,aA h⟩))) z)
  | exact ae (ae (m:=c9 _) (bP (aA (aA ⟨_,rfl,aA h⟩)) z))
  | exact ae (ae (m:=c9 _) (bP (aA ⟨_,rfl,aA h⟩) z))
end
end HT
noncomputable section
namespace L2
open PySem PySem.Spec PyProof.Rows
abbrev TO:=St->Hp->(Option Int->Hp->Prop)->Prop
def PO (X:Cx)(e:Option Expr)(t:TO):Prop :=
 ∀ pins s (W:St) H Q ,Inv X pins W H s->t W H Q ->
  wpAny (model X.prog X.w) X.A (evalPart e X.env) (λ u s'=>∃ o H',Inv X pins W H' s'/\gK u o/\Q o H') X.xe s
noncomputable def aK4:TO:=λ _ H Q=>Q none H
noncomputable def be6 (t:TE):TO:=λ W H Q=>t W H λ x H1=>∃ i,x=.int i/\Q (some i) H1
section
variable {X:Cx} {e:Expr} {te:TE} {lo hi:Option Expr} {tl th:TO} {pos p2:Pos}
def aX9:PO X none aK4:=by
 intro y s W H Q I h;rw[evalPart_none];exact aA ⟨none,H,I,.none,h⟩
def aW4 (h:PE X e te):PO X (some e) (be6 te):=by
 intro y s W H Q I hw;rw[evalPart_some];refine thn (h y s W H _ I hw) λ u s1 ⟨x,F,z,r1,q1⟩=>?_;obtain⟨i,rfl,q⟩:=q1;obtain⟨t,rfl⟩:=r1;exact⟨some i,F,z,.int i t,q⟩
def SlR (X:Cx)(r:V->Option Int->Option Int->Hp->VK->Prop):Prop :=
 ∀ pins s (W:St) H x v vl vu lo hi sl Q ,Inv X pins W H s->RelV x v->s.heap.IsSliceOf sl vl vu .none->gK vl lo->gK vu hi->r x lo hi H Q ->
  ∃ T id,typeLookup (.type T) "__getitem__"=pure (some (.builtin id))/\s.TypeIs v T/\wpAny (model X.prog X.w) X.A (ja v (.ref sl)) (EP X pins W Q) X.xe s
def tSl (r:V->Option Int->Option Int->Hp->VK->Prop)(te:TE)(tl th:TO):TE:=λ W H Q=>te W H λ x H1=>tl W H1 λ l H2=>th W H2 λ u H3=>r x l u H3 Q
def aQ2 (hr:SlR X r)(he:PE X e te)(hl:PO X lo tl)(hu:PO X hi th):PE X (.Subscript e (.Slice lo hi none p2) pos) (tSl r te tl th):=by
 intro y s W H Q I h;refine Subscript_ (thn (he y s W H _ I h) λ v s1 ⟨x,Y,F,r1,q1⟩=>?_);refine wpAny_Slice (thn (hl y s1 W Y _ F q1) λ vl s2 ⟨l,H2,G,pl,q2⟩=>thn (hu y s2 W H2 _ G q2) λ vu s3 ⟨u,z,J,pu,q3⟩=>?_);rw[evalPart_none];refine aA ?_;have Z:Inv X y W z { s3 with heap:=s3.heap.push { cls:=.type "slice",data:=.fields #[vl,vu,.none] } }:=J.kept λ b ob q=>ak _ q;obtain⟨T,id,hT,ht,hg⟩:=hr y { s3 with heap:=s3.heap.push { cls:=.type "slice",data:=.fields #[vl,vu,.none] } } W z x v vl vu l u s3.heap.objs.size Q Z r1 (l7 ..) pl pu q3;exact tail_any ht hT hg (by with_unfolding_all rfl)
noncomputable def aV0 (xs:List V)(lo hi:Option Int):List V:=(xs.drop (HT.sIx xs.length 0 lo)).take (HT.sIx xs.length xs.length hi - HT.sIx xs.length 0 lo)
def ao6 y z F :(aV0 y z F).length<=y.length:=by
 unfold aV0;rw[aQ,be];lia
def cl3 (K:ac):V->Option Int->Option Int->Hp->VK->Prop:=λ x lo hi H Q=>∃ a xs,x=.ref a/\SqT K H a xs /\
 ¬(HT.sIx xs.length 0 lo=0/\HT.sIx xs.length xs.length hi=xs.length)/\∀ p,H p=none->Q (.ref p) (upd H p (.tp (aV0 xs lo hi)))
def bL6:SlR X (cl3 X.K):=by
 intro J s W H x v vl vu F G sl Q I Y hs Z pu h;obtain⟨a,z,rfl,hx,hw,q⟩:=h;cases Y;obtain⟨its,r,ht,hz⟩:=I.tuple hx;have y:its.toArray.size=z.length:=by rw[ay];exact r.length.symm
 refine⟨"tuple",_,bw.lookup,ht.typeIs,?_⟩;refine HT.getItem_tuple_cut ht hs Z pu (by rw[y];exact hw) ?_ (by rw[y];exact hz);rw[y];refine⟨.ref s.heap.objs.size,_,I.laid (λ b ob q=>ak _ q) (av _) ?_,rfl,q _ (I.hok.fresh (av _))⟩;exact⟨aq (ao6 z F G) hz,_,(r.drop (HT.sIx z.length 0 F)).take (HT.sIx z.length z.length G - HT.sIx z.length 0 F),kq _ _⟩
def bZ5 (K:ac):R2:=λ x y H Q=>∃ a b xs ys,x=.ref a/\y=.ref b/\SqT K H a xs/\SqT K H b ys/\xs≠[]/\xs.length+ys.length<=aP /\
 (ys=[]->Q (.ref a) H)/\(ys≠[]->∀ p,H p=none->Q (.ref p) (upd H p (.tp (xs++ys))))
def Vals.nil_iff {us:yH}(r:Vals y us):us=[]↔y=[]:=by
 cases r with
 | nil=>simp
 | cons _ _=>simp
def bA7:OpR X (cx .Add) (bZ5 X.K):=by
 intro G s W H x y v u Q I J Z h;obtain⟨a,b,Y,ys,rfl,rfl,ha,hb,hx,hz,q1,q2⟩:=h;cases J;cases Z;obtain⟨its,r1,p1,_⟩:=I.tuple ha;obtain⟨F,r2,p2,_⟩:=I.tuple hb;refine HT.cat_tup p1 p2 (λ z=>hx (r1.nil_iff.mp z)) (λ z=>⟨.ref a,H,I,rfl,q1 (r2.nil_iff.mp z)⟩) (λ z=>?_) (by rw[<-r1.length,<-r2.length];exact hz);refine⟨.ref s.heap.objs.size,_,I.laid (λ b ob q=>ak _ q) (av _) ?_,rfl,q2 (λ w=>z (r2.nil_iff.mpr w)) _ (I.hok.fresh (av _))⟩;exact⟨by rw[ar];exact hz,_,r1.append r2,kq _ _⟩
end
noncomputable def ixN (n:Nat)(i:Int):Option Nat:=if 0<=i then(if i<n then some i.toNat else none)else if -(n)<=i then some (i+n).toNat else none
def atI {α:Type}(xs:List α)(i:Int):Option α:=(ixN xs.length i).bind λ j=>xs[j]?
def aW9 (h:ixN n i=some j):seqIndex? i n=some j/\j<n/\-(n)<=i/\i<n:=by
 unfold ixN at h;by_cases h0:0<=i
 .rw[if_pos h0]at h;by_cases h1:i<n
  .rw[if_pos h1]at h;have e:=aB h;exact⟨by rw[kK h0 h1,e],by lia,by lia,h1⟩
  .rw[if_neg h1]at h;cases h
 .rw[if_neg h0]at h;by_cases h1:-(n)<=i
  .rw[if_pos h1]at h;have e:=aB h;exact⟨by rw[jV (by lia) h1,e],by lia,h1,by lia⟩
  .rw[if_neg h1]at h;cases h
def aI0 (h:atI y i=some v):∃ j,seqIndex? i y.length=some j/\y[j]?=some v/\j<y.length/\-(y.length)<=i/\i<y.length:=by
 unfold atI at h;cases e:ixN y.length i with
 | none=>rw[e]at h;cases h
 | some j =>
  rw[e]at h;obtain⟨F,z,h3,h4⟩:=aW9 e;exact⟨j,F,h,z,h3,h4⟩
def ba5 (b:Expr):Prop:=∀ o i,subscripted b false o i=operate [o,i] (ja o i)
def IxR (X:Cx)(r:R2):Prop :=
 ∀ value slice pins s (W:St) H x y v u Q ,Inv X pins W H s->RelV x v->RelV y u->r x y H Q ->
  subscripted slice false v u=operate [v,u] (ja v u)->wpAny (model X.prog X.w) X.A (subscriptTail value slice v u) (EP X pins W Q) X.xe s
def MtR (X:Cx)(id:String)(r:V->List V->Hp->VK->Prop):Prop :=
 ∀ pins s (W:St) H x xs v (us:yH) Q ,Inv X pins W H s->RelV x v->Vals xs us->r x xs H Q ->
  wpAny (model X.prog X.w) X.A (call (.builtin id) (v::us)) (EP X pins W Q) X.xe s
section
variable {X:Cx} {a b:Expr} {ta tb:TE} {pos:Pos}
def bH1 (hr:IxR X r)(ha:PE X a ta)(hb:PE X b tb)(hs:ba5 b):PE X (.Subscript a b pos) (tOp r ta tb):=by
 intro z s W H Q I h;exact Subscript_ (cc9 ha hb I h λ v u s2 x y Y G F J q=>hr a b z s2 W Y x y v u Q G F J q (hs _ _))
def cg2 (K:ac):R2:=λ x y H Q=>∃ p xs i v,x=.ref p/\y=.int i/\SqL K H p xs/\atI xs i=some v/\Q v H
def ci6 (K:ac):R2:=λ x y H Q=>∃ p xs i v,x=.ref p/\y=.int i/\SqT K H p xs/\atI xs i=some v/\Q v H
def cj7:R2:=λ x y H Q=>∃ z i c,x=.str z/\y=.int i/\z.length<=aP/\atI z.cps.toList i=some c/\Q (.str ⟨#[c]⟩) H
def bf5:IxR X (cg2 X.K):=by
 intro a0 Y F s W H x y v u Q I rx ry h hs;obtain⟨p,xs,i,z,rfl,rfl,hq,he,q⟩:=h;cases rx;obtain⟨t,rfl⟩:=ry;obtain⟨its,r,Z,hz⟩:=I.list hq;obtain⟨j,G,h2,h3,h4,h5⟩:=aI0 he;obtain⟨w,ew,J⟩:=r.get h2;have hl:=r.length;have hn:=ap1;have fin:EP X F W Q w s:=⟨z,H,I,J,q⟩
 by_cases h0:0<=i
 .have hj:=by
   rw[kK h0 h5]at G;exact aB G
  exact item_listR Z.isList h0 (by lia) (by rw[hj];simpa using ew) fin hs
 .have hj:(i+(its.toArray.size)).toNat=j:=by
   rw[jV (by lia) h4]at G;rw[ay,<-hl];exact aB G
  exact ia Z.isList.typeIs jW.lookup
   (wpAny_getItem_list_neg Z.isList (by omega) (by rw[ay]<;>lia) (by lia) (by rw[hj];simpa using ew) ⟨rfl,fin⟩) hs
def ix_tup:IxR X (ci6 X.K):=by
 intro Y J F s W H x y v u Q I rx ry h hs;obtain⟨p,xs,i,z,rfl,rfl,hq,he,q⟩:=h;cases rx;obtain⟨t,rfl⟩:=ry;obtain⟨its,r,Z,hz⟩:=I.tuple hq;obtain⟨j,h1,h2,h3,h4,h5⟩:=aI0 he;obtain⟨w,ew,G⟩:=r.get h2;have hl:=r.length;have hn:=ap1;have fin:EP X F W Q w s:=⟨z,H,I,G,q⟩
 exact ia Z.typeIs bw.lookup
  (getItem_tuple Z (by lia) (by lia) (by rw[ay,<-hl];exact h1) (by simpa using ew) ⟨rfl,fin⟩) hs
def ix_str:IxR X cj7:=by
 intro G F J s W H x y v u Q I rx ry h hs;obtain⟨z,i,c,rfl,rfl,hz,he,q⟩:=h;obtain⟨t,rfl⟩:=rx;obtain⟨t',rfl⟩:=ry;obtain⟨j,Y,Z,h3,h4,h5⟩:=aI0 he;have hl:z.cps.toList.length=z.length:=by simp[ib]
 rw[hl]at Y h4 h5;have hn:=ap1;exact tail_any (fg s z t) slot_str_getitem.lookup (getItem_str (by
  have e1:decide (i < -(2^63))=false:=decide_eq_false (by lia);have e2:decide (i ≥ 2^63)=false:=decide_eq_false (by lia);rw[e1,e2,gM]) (by rw[Y];simpa using Z) ⟨.str ⟨#[c]⟩,H,I.tok _,⟨_,rfl⟩,q⟩) hs
def aS4 (its:yH) n j  u :ic (·.setIfInBounds j u) { cls:=.type "list",data:=.seq its.toArray n }={ cls:=.type "list",data:=.seq (its.set j u).toArray n }:=by
 simp[ic]
def Inv.lst {W:St}(I:Inv X y W H s)(h:H p=some (.J F)) :
  ∃(its:yH) (n:Nat),Vals F its/\s.heap.get? p=some { cls:=.type "list",data:=.seq its.toArray n }/\F.length<=aP:=by
 obtain⟨z,its,n,r,e⟩:=I.hok p _ h;exact⟨its,n,r,e,z⟩
def Inv.lstUpd {W:St}{its its':yH}(I:Inv X y W H s)(h:H p=some (.J F))
  (ho:s.heap.get? p=some { cls:=.type "list",data:=.seq its.toArray n }) (hf:f { cls:=.type "list",data:=.seq its.toArray n }={ cls:=.type "list",data:=.seq its'.toArray z }) (r:Vals ys its') (hz:ys.length<=aP)  t  :
  Inv X y W (upd H p (.J ys)) { s with heap:=s.heap.update p f,toks:=t }:=by
 have e:(s.heap.update p f).get? p=some { cls:=.type "list",data:=.seq its'.toArray z }:=by
  rw[eS f ho (by rw[hf]<;>rfl),hf]
 refine I.write (by rw[h];trivial) (.inl rfl) (λ b u hb q=>(ie _ _ (d7 hb)).trans q) ⟨_,e⟩ ?_;exact⟨hz,its',z,r,e⟩
def ca5:V->V->V->Hp->(Hp->Prop)->Prop:=λ o i v H Q=>∃ p xs k j,o=.ref p/\i=.int k/\H p=some (.J xs)/\ixN xs.length k=some j/\Q (upd H p (.J (xs.set j v)))
def bk9:cf1 X ca5:=by
 intro y s W H o i v ov iv u Q I Y G Z h;obtain⟨p,J,k,j,rfl,rfl,hp,hj,q⟩:=h;cases Y;obtain⟨t,rfl⟩:=G;obtain⟨its,n,r,ho,hz⟩:=I.lst hp;obtain⟨z,h2,h3,h4⟩:=aW9 hj;have hl:=r.length;have hn:=ap1;have F :=
  I.lstUpd hp ho (aS4 its n j u) (r.set Z j) (by rw[bt];exact hz) s.toks
 by_cases h0:0<=k
 .have hk:=by
   rw[kK h0 h4]at z;exact aB z
  exact PySem.W.ki_setAt ho h0 (by lia) (by rw[ay,<-hl];exact h4) (by rw[hk];exact⟨_,F,q⟩)
 .have hk:(k+(its.toArray.size)).toNat=j:=by
   rw[jV (by lia) h3]at z;rw[ay,<-hl];exact aB z
  exact PySem.W.ki_setBack ho (by omega) (by rw[ay,<-hl];exact h3) (by lia) (by rw[hk];exact⟨_,F,q⟩)
def aC7 y z n :(eD y z none n).1=((HT.sIx n 0 y))/\(eD y z none n).2.1=((HT.sIx n n z))/\(eD y z none n).2.2=1:=by
 refine⟨?_,?_,rfl⟩
 .cases y with
  | none=>simp[eD,HT.sIx]
  | some i =>
   simp only[eD,HT.sIx,kr,if_true];by_cases h:i<0
   .simp only[h,if_true]<;>lia
   .simp only[h,if_false]<;>lia
 .cases z with
  | none=>simp[eD,HT.sIx]
  | some i =>
   simp only[eD,HT.sIx,kr,if_true];by_cases h:i<0
   .simp only[h,if_true]<;>omega
   .simp only[h,if_false]<;>omega
def aw3 (its:yH) y z :slicePick its.toArray y z none=((its.drop (HT.sIx its.length 0 y)).take (HT.sIx its.length its.length z - HT.sIx its.length 0 y)).toArray:=by
 obtain⟨G,F,h3⟩:=aC7 y z its.toArray.size;unfold slicePick;rw[G,F,h3];simp only[sliceRange_one,pick_run]<;>rfl
def ci1 (K:ac):V->Option Int->Option Int->Hp->VK->Prop:=λ x lo hi H Q=>∃ a xs,x=.ref a/\SqL K H a xs/\∀ p,H p=none->Q (.ref p) (upd H p (.J (aV0 xs lo hi)))
def bz5:SlR X (ci1 X.K):=by
 intro J s W H x v vl vu F G sl Q I Y hs Z pu h;obtain⟨a,y,rfl,hx,q⟩:=h;cases Y;obtain⟨its,r,ht,hz⟩:=I.list hx;have z:=r.length;refine⟨"list",_,jW.lookup,ht.isList.typeIs,?_⟩;refine wpAny_getItem_list_slice ht.isList hs Z pu .none (by simp) ?_ (by rw[ay]<;>lia);rw[aw3,<-z];refine⟨.ref s.heap.objs.size,_,I.laid (λ b ob q=>ak _ q) (av _) ?_,rfl,q _ (I.hok.fresh (av _))⟩;exact⟨aq (ao6 y F G) hz,_,0,(r.drop (HT.sIx y.length 0 F)).take (HT.sIx y.length y.length G - HT.sIx y.length 0 F),aM _ rfl⟩
def aC4:ae3 X (.builtin "len") (λ J H Q=>∃ p ys,J=[.ref p]/\(SqL X.K H p ys\/SqT X.K H p ys)/\Q (.int ys.length) H):=by
 intro G s W H J us Q I r h;obtain⟨p,ys,rfl,hq,q⟩:=h;obtain⟨u,rfl,Y⟩:=ai2 r;cases Y;have hn:=ap1;rcases hq with hq|hq
 .obtain⟨its,z,F,hz⟩:=I.list hq;have y:=z.length;exact Calls.call_len_list F.isList (by simp only[ay]<;>lia) ⟨.int ys.length,H,I.tok _,⟨s.toks+1,by rw[ay,y]⟩,q⟩
 .obtain⟨its,z,F,hz⟩:=I.tuple hq;have y:=z.length;exact len_tuple F (by simp only[ay]<;>omega) ⟨.int ys.length,H,I.tok _,⟨s.toks+1,by rw[ay,y]⟩,q⟩
def aC2:ae3 X (.builtin "len") (λ F H Q=>∃ z,F=[.str z]/\z.length<=aP/\Q (.int z.length) H):=by
 intro y s W H F us Q I r h;obtain⟨z,rfl,hz,q⟩:=h;obtain⟨u,rfl,t,rfl⟩:=ai2 r;have hn:=ap1;exact len_str (by lia) ⟨.int z.length,H,I.tok _,⟨_,rfl⟩,q⟩
def ae3.or (h:ae3 X f r)(h':ae3 X f F):ae3 X f (λ z H Q=>r z H Q\/F z H Q):=by
 intro y s W H z us Q I rs q;rcases q with q|q
 .exact h y s W H z us Q I rs q
 .exact h' y s W H z us Q I rs q
def aA6:ae3 X (.type "list") (λ Y H Q=>∃ p ys,Y=[.ref p]/\(SqL X.K H p ys\/SqT X.K H p ys)/\∀ l,H l=none->Q (.ref l) (upd H l (.J ys))):=by
 intro G s W H Y us Q I r h;obtain⟨p,ys,rfl,hq,q⟩:=h;obtain⟨u,rfl,rx⟩:=ai2 r;cases rx;have fin:∀ its ,Vals ys its->ys.length<=aP->∀ h' y ,(∀ b Z,s.heap.get? b=some Z->h'.get? b=some Z) ->
   h'.get? s.heap.objs.size=some { cls:=.type "list",dict:=none,data:=.seq its.toArray y,slots:=#[] }->EP X G W Q (.ref s.heap.objs.size) { s with heap:=h' }:=λ its z hz h' y kp e =>
  ⟨.ref s.heap.objs.size,_,I.laid kp (av _) (show af6 X.prog X.w _ h' _ (.J ys)from⟨hz,its,y,z,e⟩),rfl,q _ (I.hok.fresh (av _))⟩
 rcases hq with hq|hq
 .obtain⟨its,z,J,hz⟩:=I.list hq;have F:=z.length;obtain⟨o,ho,hc,n,hd⟩:=J.isList;exact call_list_seq p (.inl rfl) ho hc hd (λ h' y kp e=>fin its z hz h' y kp e) (by simp only[ay]<;>omega)
 .obtain⟨its,z,J,hz⟩:=I.tuple hq;have F:=z.length;obtain⟨o,ho,hc,n,hd⟩:=J;exact call_list_seq p (.inr rfl) ho hc hd (λ h' y kp e=>fin its z hz h' y kp e) (by simp only[ay]<;>omega)
def az3:ae3 X (.type "tuple") (λ Y H Q=>∃ p ys,Y=[.ref p]/\((SqL X.K H p ys/\∀ l,H l=none->Q (.ref l) (upd H l (.tp ys)))\/(SqT X.K H p ys/\Q (.ref p) H))):=by
 intro y s W H Y us Q I r h;obtain⟨p,ys,rfl,h⟩:=h;obtain⟨u,rfl,Z⟩:=ai2 r;cases Z;rcases h with⟨hq,q⟩|⟨hq,q⟩
 .obtain⟨its,F,z,hz⟩:=I.list hq;have J:=F.length;refine call_tuple_list z.isList (λ h' kp=>?_) (by simp only[ay]<;>omega);have G:=I.kept (t':=s.toks) kp;have I2 :=
   G.laid (t':=s.toks) (λ b o e=>ak _ e) (av _) (show af6 X.prog X.w _ _ _ (.tp ys)from⟨hz,its,F,kq _ _⟩)
  exact⟨.ref h'.objs.size,_,I2,rfl,q _ (G.hok.fresh (av _))⟩
 .obtain⟨its,F,z,hz⟩:=I.tuple hq;exact call_tuple_same z ⟨.ref p,H,I,rfl,q⟩
def tyV (K:ac)(T:String)(x:V)(H:Hp):Prop:=match x with
 | .str _=>T = "str"
 | .int _=>T = "int"
 | .ref p=>(T = "list"/\∃ xs,SqL K H p xs)\/(T = "tuple"/\∃ o,K.lookup p=some o/\o.cls=.type "tuple"/\o.dict=none)
 | _=>False
def bs4 {W:St}(I:Inv X y W H s)(r:RelV x v)(F:tyV X.K T x H) :
  s.TypeIs v T/\∀ a,v=.ref a->∃ ob,s.heap.get? a=some ob/\ob.dict=none:=by
 cases x with
 | str z =>
  obtain⟨t,rfl⟩:=r;cases(F);exact⟨fg s z t,λ _ e=>nomatch e⟩
 | int i =>
  obtain⟨t,rfl⟩:=r;cases(F);exact⟨ig s i t,λ _ e=>nomatch e⟩
 | ref p =>
  cases r;rcases F with⟨rfl,J,hq⟩|⟨rfl,o,hk,hc,hd⟩
  .obtain⟨its,_,G,_⟩:=I.list hq;refine⟨G.isList.typeIs,λ a e=>?_⟩;cases e;obtain⟨o,n,e,c,hd,_⟩:=G;exact⟨o,e,hd⟩
  .refine⟨⟨o,I.kIn p o hk,hc⟩,λ a e=>?_⟩;cases e;exact⟨o,I.kIn _ o hk,hd⟩
 | _=>exact bn F
def cj0 (K:ac)(T:String)(r:V->List V->Hp->VK->Prop)(to:TE):TE:=λ W H Q=>to W H λ x H1=>tyV K T x H1/\r x [] H1 Q
def tBM (K:ac)(T:String)(r:V->List V->Hp->VK->Prop)(to:TE)(t:TA):TE:=λ W H Q=>to W H λ x H1=>tyV K T x H1/\t W H1 λ xs H2=>r x xs H2 Q
variable {o e:Expr} {es:yL} {to:TE} {t:TA} {name:Str} {apos cpos:Pos} {T id:String} {r:V->List V->Hp->VK->Prop}
def bT8 (Z:lj T)(slot:Slot T name id)(G:jD (.builtin id)=pure (.type "method_descriptor"))(hm:MtR X id r)(ho:PE X o to)
  (F:autoParam (gN o name X.env (eval o X.env)=eval o X.env) Zq4._auto_1) (z:autoParam ((apos.endLine==cpos.line)=true) Zq4._auto_1):PE X (.Call (.Attribute o name apos) [] [] cpos) (cj0 X.K T r to):=by
 intro y s W H Q I h;refine wpAny_Call_method0_late F z (thn (ho y s W H _ I h) λ v s1 ⟨x,H1,J,r1,ty,q1⟩=>?_);obtain⟨h1,Y⟩:=bs4 J r1 ty;exact⟨T,id,Z,slot,G,h1,Y,ii rfl (PySem.evalArgs_none (hm y s1 W H1 x [] v [] Q J r1 .nil q1))⟩
def bl8 (pa:lj T)(slot:Slot T name id)(Y:jD (.builtin id)=pure (.type "method_descriptor"))(hm:MtR X id r)(ho:PE X o to)(ha:PA X (e::es) t)
  (G:autoParam (gN o name X.env (eval o X.env)=eval o X.env) Zq4._auto_1)
  (J:autoParam (((eY cpos (bD (e::es) X.env)).all (λ x=>!x.1)&&(backToKw cpos (kL [] X.env)).all (λ x=>x.1.isSome)
   && decide ((e::es).length+([]:List iZ).length+(if([]:List iZ).isEmpty then 0 else 1)<30))=true) Zq4._auto_1)
  (F:autoParam ((apos.endLine==cpos.line)=true) Zq4._auto_1) (hs:autoParam (bD (e::es) X.env=(false,eval e X.env)::bD es X.env) Zq4._auto_1) (z:autoParam ((eY cpos (bD es X.env)).any (·.1)=false) Zq4._auto_1) :
  PE X (.Call (.Attribute o name apos) (e::es) [] cpos) (tBM X.K T r to t):=by
 intro y s W H Q I h;refine wpAny_Call_method_late G J F rfl (thn (ho y s W H _ I h) λ v s1 ⟨x,H1,Z,r1,ty,q1⟩=>?_);obtain⟨h1,h2⟩:=bs4 Z r1 ty;refine⟨T,id,pa,slot,Y,h1,h2,?_⟩;have hA:=ha cpos y s1 W H1 _ Z q1;rw[hs]at hA ⊢;refine ii (by show(false||(eY cpos (bD es X.env)).any (·.1))=false;rw[z]<;>rfl) (iG ?_);exact thn hA λ us s2 ⟨vs,H2,I2,r2,q2⟩=>hm y s2 W H2 x vs v us Q I2 r1 r2 q2
end
def MtM (X:Cx)(id:String)(r:V->List V->Hp->VK->Prop):Prop :=
 ∀ pins s (W:St) H x xs v (us:yH) Q ,Inv X pins W H s->RelV x v->Vals xs us->r x xs H Q ->
  wpAny (model X.prog X.w) X.A (call (.builtin id) (v::us)) (EP X pins W Q) X.xe s
def Vals.one:∀ {x} {us:yH},Vals [x] us->∃ u,us=[u]/\RelV x u
 | _,_,.cons r .nil=>⟨_,rfl,r⟩
def Vals.zero:∀ {us:yH},Vals [] us->us=[]
 | _,.nil=>rfl
theorem Vals.rep {us:yH}(h:Vals y us):∀ k:Nat,Vals (ax k y).flatten (ax k us).flatten
 | 0=>.nil
 | k+1=>by
  rw[bM,bM,cE,cE];exact Vals.append h (Vals.rep h k)
theorem aA4 (its:yH):∀ k (y:yH),
  ln (λ x1 z=>x1++z) y.toArray (ax k its.toArray)=(y++(ax k its).flatten).toArray
 | 0,y=>by simp
 | k+1,y=>by
  have e:y.toArray++its.toArray=(y++its).toArray:=by simp
  have e2:(y++its)++(ax k its).flatten=y++(ax (k+1) its).flatten:=by
   rw[bM,cE,ag]
  rw[<-e2,<-aA4 its k (y++its),<-e,bM,d8]
section
variable {X:Cx} {pins:yA} {W:St} {H:Hp} {s:af} {l b:Addr} {xs ys zs:List V}
def Inv.lset {its its':yH}(I:Inv X pins W H s)(y:H l=some (.J xs))
  (e:s.heap.get? l=some { cls:=.type "list",data:=.seq its.toArray n }) (hf:f its.toArray=its'.toArray) (hv:Vals ys its') (hz:ys.length<=aP) :
  Inv X pins W (upd H l (.J ys)) { s with heap:=s.heap.update l (ic f),toks:=t' }:=by
 have q:=PySem.IsL.update e f;rw[hf]at q;refine I.write (by rw[y];exact trivial) (.inl rfl) (λ z u hb hu=>(ie s.heap (ic f) (d7 hb)).trans hu) ⟨_,q⟩ ?_;exact⟨hz,its',_,hv,q⟩
def Inv.lnew {its:yH}(I:Inv X pins W H s)(hv:Vals ys its)(hz:ys.length<=aP) :
  Inv X pins W (upd H s.heap.objs.size (.J ys)) { s with heap:=s.heap.push { cls:=.type "list",data:=.seq its.toArray },toks:=t' } :=
 I.laid (λ _ _ q=>ak _ q) (av _) ⟨hz,its,0,hv,aM _ rfl⟩
theorem Inv.fresh (I:Inv X pins W H s):H s.heap.objs.size=none:=I.hok.fresh (av _)
def Inv.lstM (I:Inv X pins W H s)(y:H l=some (.J xs)):xs.length<=aP/\∃(its:yH) (n:Nat),Vals xs its/\xs.length=its.length/\s.heap.get? l=some { cls:=.type "list",data:=.seq its.toArray n }:=by
 obtain⟨z,its,n,r,e⟩:=I.hok l _ y;exact⟨z,its,n,r,r.length,e⟩
def bn8 (h:n<=aP):dX n=false:=by
 unfold dX;exact decide_eq_false (by lia)
end
section
variable {X:Cx}
def bu4:V->List V->Hp->VK->Prop:=λ x vs H Q=>∃ l xs y,x=.ref l/\vs=[y]/\H l=some (.J xs)/\xs.length<aP/\Q .N (upd H l (.J (xs++[y])))
def aq1:MtM X "list.append" bu4:=by
 intro G s W H x vs v us Q I Y rv h;obtain⟨l,xs,y,rfl,rfl,J,hz,q⟩:=h;cases Y;obtain⟨u,rfl,Z⟩:=rv.one;obtain⟨z,its,n,r,hl,e⟩:=I.lstM J;refine dk eK ⟨_,e,rfl⟩ F.entry_list_append (F.args_list_append_2 _ _) (PySem.list_append l its.toArray n u (by rw[ay];lia)) ⟨e,?_⟩;refine⟨.N,_,I.lset J e (by simp) (r.append (.cons Z .nil)) ?_,rfl,q⟩;rw[ar,dA];lia
def cl1:R2:=λ x y H Q=>∃ l b xs zs,x=.ref l/\y=.ref b/\H l=some (.J xs)/\H b=some (.J zs)/\xs.length+zs.length<=aP/\∀ p,H p=none->Q (.ref p) (upd H p (.J (xs++zs)))
def bq1:OpR X (cx .Add) cl1:=by
 intro G s W H x y v u Q I J ry h;obtain⟨l,b,xs,zs,rfl,rfl,hH,Z,hz,q⟩:=h;cases J;cases ry;obtain⟨z,its,n,r,hl,e⟩:=I.lstM hH;obtain⟨z2,F,n2,r2,Y,e2⟩:=I.lstM Z;refine PySem.P.add_list e e2 ?_ (by rw[ay,ay];lia);have ea:its.toArray++F.toArray=(its++F).toArray:=by simp
 rw[ea];exact⟨.ref _,_,I.lnew (r.append r2) (by rw[ar];omega),rfl,q _ I.fresh⟩
def cl2:R2:=λ x y H Q=>∃ l k xs,x=.ref l/\y=.int k/\H l=some (.J xs)/\-(2^63)<=k/\k<2^63/\xs.length*k.toNat<=aP /\
 ∀ p,H p=none->Q (.ref p) (upd H p (.J (ax k.toNat xs).flatten))
def bw4 {α:Type}(y:List α) k :(ax k y).flatten.length=k*y.length:=by
 induction k with
 | zero=>simp
 | succ k ih=>rw[bM,cE,ar,ih,jX,eL]
def bT6:OpR X (cx .Mult) cl2:=by
 intro a1 s W H x y v u Q I rx ry h;obtain⟨l,k,xs,rfl,rfl,hH,h1,h2,hz,q⟩:=h;cases rx;obtain⟨t,rfl⟩:=ry;obtain⟨z,its,n,r,hl,e⟩:=I.lstM hH;have J:its.toArray.size*k.toNat<=aP:=by rw[ay,<-hl];exact hz
 have Y:¬ its.toArray.size*k.toNat > (2^63 - 1) / 8:=by
  have:(aP)<=(2^63 - 1) / 8:=by decide
  lia
 have a0:¬(!Builtin.List.listFitsIndex k)=true:=by
  rw[fitsIndex_both h1 h2];exact aI
 have G:¬ dX (its.toArray.size*k.toNat)=true:=by
  rw[bn8 J];exact aI
 have Z:ln (λ x1 x2=>x1++x2) #[] (ax (if its.toArray.isEmpty=true then 0 else k.toNat) its.toArray)=(ax k.toNat its).flatten.toArray:=by
  have f0:=λ m=>by
   have:=aA4 its m [];rw[fI]at this;exact this
  rw[f0];cases its with
  | nil=>simp
  | cons a r'=>rw[if_neg (by simp)]
 refine gv (by decide) ⟨_,e,rfl⟩ (λ s'=>ig s' k t) noFill_list_mul jE ee repeat_list ji.lookup
  (dk ee (ig s k t) jj (iH _ _) (int___rmul___int_list k t l its.toArray n)
   ⟨e,rfl,⟨_,e,rfl⟩,dk F.slot_list_mul ⟨_,e,rfl⟩ F.entry_list_mul (F.args_list_mul_2 _ _) (AutoListH.list___mul___list_int_3 l its.toArray n k t a0 Y G) ⟨e,?_⟩⟩)
 rw[Z];exact⟨.ref _,_,I.lnew (r.rep k.toNat) (by rw[bw4,lM];exact hz),rfl,q _ I.fresh⟩
end
section
variable {prog:aJ} {w:World} {A:aS} {E:yB} {s:af}
end
section
variable {X:Cx}
end
end L2
end
noncomputable section
namespace Att
open PySem PySem.W PySem.Calls PyProof.Rows
def ints_of_wellAll :∀ ns (vs:yH),WellAll P h vs (ns.map WData.int)->k7 vs ns:=by
 intro ns
 induction ns with
 | nil =>
  intro vs w;rw[eM]at w;cases w;exact .nil
 | cons n ns ih =>
  intro vs w;rw[aF]at w;cases w with
  | cons a b =>
   cases a;exact .cons _ _ (ih _ b)
def script_of {l:OpenLaw}(hn:l.most=some n){y:yH}
  (z:l.row.toRowW.claim.pre args=true) (G:WellAll P h y args) :
  ∃ a vs ns,y=[Value.ref a]/\args=[WData.list (ns.map WData.int)]/\h.get? a=some { cls:=.type "list",data:=.seq vs.toArray }/\k7 vs ns/\ns.length<=n:=by
 have J:=(pre_splitW z).1;have hc:l.pre.holds [] { args:=args }=true:=(pre_splitW z).2;obtain⟨d,r,rfl,h1,Y⟩:=hasAllW_cons J;obtain rfl:=hasAllW_nil Y;obtain⟨xs,rfl,h3⟩:=hasW_list h1;obtain⟨ns,rfl⟩:=items_int h3;have F:ns.length<=n:=by
  unfold OpenLaw.pre at hc;have h4:=by
   have h4:=(holds_andW hc).1;rw[hn]at h4;exact h4
  have h5:=condW_of h4 (w_not (w_lt w_lit (w_len_list (w_arg rfl))));rw[ao]at h5;refine ku λ q=>?_;have Z:=by omega
  first
   | (rw[decide_eq_true Z]at h5;exact absurd h5 (by decide))
   | (simp at h5;omega)
 cases G with
 | cons w1 w2 =>
  cases w2;cases w1 with
  | list ho hall=>exact⟨_,_,ns,rfl,rfl,ho,ints_of_wellAll ns _ hall,F⟩
def post_true (l:OpenLaw) args :l.row.toRowW.claim.post args (.bool true) args=true :=
 postW_of 
  (show WShape.has [] (.bool true) .bool=true by first|rfl|decide|simp[WShape.armsAll])
  (w_eq_bool (w_res rfl) w_lit) rfl
def attach_call {l:OpenLaw}{loose:yI}
  (hn:l.most=some n) (a2:d.params.defaults=[])
  (call:∀(w:World) (s₀ y:af) (mg mb:yD) (fa:Addr) (o:Obj) (pm cd z:Value) (a:Addr) (vs:yH) (ns:List Int),
   Ground q loose [] XP w s₀ mg mb y.heap->YP w y.heap ->
   y.heap.get? fa=some o->o.data=.func (docDef d.name d.params d.body d.scope pm cd z)->y.heap.CodeRec cd d.name->mg d.name=some (.ref fa) ->
   y.heap.get? a=some { cls:=.type "list",data:=.seq vs.toArray }->k7 vs ns->ns.length<=n->y.gens=#[] ->
   iY (model l.prog w) jb (.call (.ref fa) ⟨[.ref a],[]⟩) (λ r s'=>r=.ok (.ret (.bool true))/\OldK y.heap s'.heap/\s'.os=y.os/\fU s'.gens) y) :
  WalkO q loose XP YP l.row.toRowW d [] (λ f vs=>k9 f vs):=by
 intro w s₀ y mg mb G Y fa o pm cd z dV kV ho hd a4 hD a3 hg args a6 as a0 a5 a7 a1 a8;obtain rfl:dV=.none:=Dflts.none hD a2;obtain rfl:kV=.none:=Dflts.noKw hD;obtain⟨a,vs,ns,rfl,rfl,Z,F,J⟩:=script_of hn a0 a1;refine enter_call (hJ (call w s₀ y mg mb fa o pm cd z a vs ns G Y ho (fd_plain hd) a4 a3 Z F J hg) λ r s' hq=>?_);obtain⟨rfl,h2,h3,h4⟩:=hq;exact⟨.inl ⟨.bool true,.bool true,[],rfl,λ _=>rfl,.bool true,post_true l _,λ _=>⟨List.Pairwise.nil,λ _ hm=>(nomatch hm)⟩⟩,h2,h3,h4⟩
section
variable {prog:aJ} {w:World} {A:aS} {E:yB} {s:af} {K:Frag}
end
end Att
noncomputable section
namespace L2
open PySem PySem.Spec PyProof.Rows
theorem aF1:∀ {vs:yH} {ns},k7 vs ns->Vals (ns.map V.int) vs
 | _,_,.nil=>.nil
 | _,_,.cons n t h=>.cons ⟨t,rfl⟩ (aF1 h)
noncomputable def defArgs (s:Stmt):fe:=match s with
 | .FunctionDef _ a _ _ _ _ _ _ _ _=>a
 | _=>{ posonlyargs:=[],args:=[],vararg:=none,kwonlyargs:=[],kw_defaults:=[],kwarg:=none,defaults:=[] }
noncomputable def zD (s:Stmt):List Stmt:=match s with
 | .FunctionDef _ _ b _ _ _ _ _ _ _=>b
 | _=>[]
noncomputable def defScope (s:Stmt):Scope:=match s with
 | .FunctionDef _ _ _ _ _ _ sc _ _ _=>sc
 | _=>{ kind:=.function,names:=[],isGenerator:=false,isCoroutine:=false }
noncomputable abbrev CX0:CXT:=λ _ _ _ _ _ _=>False
abbrev E0:XK:=λ _ _ _=>False
def bI4 :qt CX0 X E0:=λ _ _ _ _ _ _ _ h=>h.elim
structure Fun (K:ac)(x qual:Str)(st:Stmt)(f:Addr)(fd:bW):Prop where
 ex:∃(oc:Value) (od:yJ) (kV doc pm:Value) (an:yJ) (cdv ct:Value) (osl:yF),
  fd=dj x qual (defArgs st) (zD st) (defScope st) .none kV doc pm an cdv ct/\K.lookup f=some ⟨oc,od,.func fd,osl⟩/\f9 K cdv qual=true
 kp:cy K (.ref f)=true
section
variable {P:aJ} {w:World} {K:ac} {mg:yD} {base:Heap}
def Fun.ok {st}(F:Fun K x qual st f Z)(S:FnScope N ps (defScope st))(len:∀ vs H Q E,sp vs H Q E->vs.length=ps.length)
  (G:∀(z:Value) (A:aS) (y:List Env) (s:af) (H:Hp) (vs:List V) (Q:VK) (E:XK),Room k (A.deeper (fG qual (defScope st) s.heap.objs.size f z))->sp vs H Q E ->
   ∃ t,PSs (al6 CX0 P w K mg base N qual (defScope st) f z A y s H E).nox (zD st) t/\t { nx:=λ _ H'=>Q .N H',rt:=Q } (qv N vs) H):FnOk P w K mg base CX0 (k+1) f Z ps sp:=by
 obtain⟨oc,od,kV,a1,pm,an,z,ct,a0,rfl,lk,Y⟩:=F.ex;refine bN3 lk Y S len λ A y s H vs Q E hr J=>?_;obtain⟨t,h,q⟩:=G z A y s H vs Q E hr J;exact⟨t,h.nox,q⟩
def Fun.binds {st}(F:Fun K x qual st f Y)
  (h:∀(kV z G:Value) (J:yJ) (y ct:Value) (us:yH),us.length=ps.length->bindArgs (dj x qual (defArgs st) (zD st) (defScope st) .none kV z G J y ct) ⟨us,[]⟩=pure (ps.zip us)):Binds K Y ps []:=by
 obtain⟨oc,od,kV,z,G,J,y,ct,Z,rfl,lk,a0⟩:=F.ex;exact .all (h kV z G J y ct)
def bs5 {st}{od J:yJ}{F:yF}{kV }(l:K.lookup f=some ⟨oc,od,.func (dj x qual (defArgs st) (zD st) (defScope st) .none kV z G J y ct),F⟩)
  (c:f9 K y qual=true) (k:cy K (.ref f)=true):Fun K x qual st f (dj x qual (defArgs st) (zD st) (defScope st) .none kV z G J y ct):=⟨⟨oc,od,kV,z,G,J,y,ct,F,rfl,l,c⟩,k⟩
end
def ar1 (h:n<=1000):n<aP:=jF h (by decide)
section
variable {X:Cx}
end
def ck7 { B:Prop}(h:B):if false=true then A else B:=by
 rw[if_neg aI];exact h
def iteT { B:Prop}(h:A):if true=true then A else B:=by
 rw[if_pos rfl];exact h
def af2 (H H':Hp):Prop:=∀ b o,H b=some o->H' b=some o
def af2.refl H :af2 H H:=λ _ _ h=>h
def af2.trans (a:af2 H y)(b:af2 y z):af2 H z:=λ c o h=>b c o (a c o h)
def bf2 {z:yL}(I:Nat->af->Prop)
  (turn:∀ n s,I n s->wpAny (model prog w) A (lh it) (λ r Y=>match r with
   | none=>R (.ok .next) Y
   | some v=>wpAny (model prog w) A (fC y it v) (λ _ G=>wpAny (model prog w) A (g9 y env v) (λ _ s₂ =>
     wpAny (model prog w) A (forIn z true λ c r=>if r=true then do let ok <- gH c env (eval c env);pure (ForInStep.yield ok)else pure (ForInStep.yield r)) (λ ok J =>
      if ok=true then wpAny (model prog w) A (eval elt env) (λ x s₄ =>
       wpAny (model prog w) A (call (.builtin "list.append") [F,x]) (λ _ s₅=>∃ m,m<n/\I m s₅) (d9 (model prog w) A env λ e s'=>R (.error e) s') s₄) (d9 (model prog w) A env λ e s'=>R (.error e) s') J
      else ∃ m,m<n/\I m J) (d9 (model prog w) A env λ e s'=>R (.error e) s') s₂) (d9 (model prog w) A env λ e s'=>R (.error e) s') G) (d9 (model prog w) A env λ e s'=>R (.error e) s') Y) (d9 (model prog w) A env λ e s'=>R (.error e) s') s)
   n (h:I n s) :
  iY (model prog w) A (.compLoop (.ListComp elt [⟨y,iter,z,0⟩] scope pos) 0 it F env) R s:=by
 refine codeAny_loop rfl I (λ n s hI=>?_) n h;refine wpAny_noted ?_;rw[compTurn_list];refine ae (jq (ae (bf (turn n s hI) (λ r Y h₁=>?_) λ _ _ h'=>h')));cases r with
 | none=>exact aA h₁
 | some v =>
  refine ae (bf h₁ (λ _ G Z=>?_) λ _ _ h'=>h');refine ae (bf Z (λ _ s₂ h₂=>ae (bf h₂ (λ ok J h₃=>?_) λ _ _ h'=>h')) λ _ _ h'=>h');cases ok with
  | false=>exact aA ⟨rfl,h₃⟩
  | true =>
   exact ae (ae (bf h₃ (λ x s₄ h₄=>ae (bf h₄ (λ _ s₅ h₅=>aA (aA ⟨rfl,h₅⟩)) λ _ _ h'=>h')) λ _ _ h'=>h'))
noncomputable def ar8 (cells:yC):List (Str×cz)->List (Str×Addr)->List (Str×Addr)
 | [],acc=>acc
 | (n,k)::r,acc=>ar8 cells r (if k==.free then(match cells.lookup n with|some c=>(n,c)::acc|none=>acc)else acc)
theorem ai8 :∀ names z ,(∀ y∈names,y.2=.free->∃ c,env.cells.lookup y.1=some c) ->
  (forIn names z λ(x) (F:yC)=>(if x.2==.free then do let c <- cellOf env x.1;pure (ForInStep.yield ((x.1,c)::F))else pure (ForInStep.yield F):Sem (ForInStep (List (Str×Addr)))))=pure (ar8 env.cells names z)
 | [],z,_=>by rw[gi];rfl
 | (n,k)::r,z,h=>by
  have G:=λ a=>ai8 r a λ y hy=>h y (ai _ hy);rw[ir];unfold ar8;cases e:(k==NameKind.free)with
  | false =>
   simp only[if_false];exact G z
  | true =>
   have hk:=by simpa using e
   obtain⟨c,hc⟩:=h (n,k) au hk;have e1:cellOf env n=pure c:=by unfold cellOf;rw[hc]
   simp only[e1,hc];exact G _
def aj5 (h:∀ y∈scope.names,y.2=.free->∃ c,env.cells.lookup y.1=some c):closureFor scope env=pure (ar8 env.cells scope.names []):=by
 have:=ai8 scope.names [] h;show(forIn scope.names [] (λ(x) (z)=>(if x.2==.free then do let c <- cellOf env x.1;pure (ForInStep.yield ((x.1,c)::z))else pure (ForInStep.yield z):Sem (ForInStep (List (Str×Addr))))) >>= λ z=>pure z)=_;rw[this];rfl
theorem clOf_mem :∀ {names} {F:yC},(n,c)∈ar8 cells names F->cells.lookup n=some c\/(n,c)∈F
 | [],_,h=>.inr h
 | (m,k)::r,F,h=>by
  unfold ar8 at h;rcases clOf_mem h with z|z
  .exact .inl z
  .cases e:(k==NameKind.free)with
   | false=>simp only[e,if_false]at z;exact .inr z
   | true =>
    simp only[e]at z;cases q:cells.lookup m with
    | none=>rw[q]at z;exact .inr z
    | some d =>
     rw[q]at z;rcases aw.mp z with y|y
     .cases y;exact .inl q
     .exact .inr y
theorem aQ7 (hc:cells.lookup n=some c):∀ {names} {y:yC},((n,NameKind.free)∈names\/(n,c)∈y)->(n,c)∈ar8 cells names y
 | [],_,h=>by rcases h with h|h;(exact absurd h (by simp));exact h
 | (m,k)::r,y,h=>by
  unfold ar8;refine aQ7 hc ?_;rcases h with h|h
  .rcases aw.mp h with e|h
   .cases e
    right
    simp[hc]
   .exact .inl h
  .right
   cases e:(k==NameKind.free)with
   | false=>simpa using h
   | true =>
    simp only[];cases q:cells.lookup m with
    | none=>exact h
    | some d=>exact ai _ h
theorem aj0 {α:Type}{c}:∀ {l:List (Str×α)},(n,c)∈l->(∀ d,(n,d)∈l->d=c)->l.lookup n=some c
 | (m,d)::r,h,u=>by
  rw[bo];cases e:n==m with
  | true =>
   have e':=beq_iff_eq.mp e;subst e';rw[u d au]
  | false =>
   rcases aw.mp h with z|z
   .cases z;simp at e
   .exact aj0 z λ d' h'=>u d' (ai _ h')
def aG9 (hc:cells.lookup n=some c)(h:(n,NameKind.free)∈names):(ar8 cells names []).lookup n=some c:=by
 refine aj0 (aQ7 hc (.inl h)) λ d hd=>?_;rcases clOf_mem hd with z|z
 .rw[hc]at z;exact(aB z).symm
 .exact absurd z (by simp)
theorem zG:∀ names n (y:yC),bz n names y=bz n names []++y
 | [],_,y=>by simp[bz]
 | (x,k)::r,n,y=>by
  unfold bz;split
  .rw[zG r (n+1) ((x,n)::y),zG r (n+1) [(x,n)]];simp
  .exact zG r n y
theorem zP:∀ {names} {n} {F:yC} {x} {c},(x,c)∈bz n names F->(x,NameKind.cell)∈names\/(x,c)∈F
 | [],_,_,_,_,h=>.inr h
 | (y,k)::r,n,F,x,c,h=>by
  unfold bz at h;split at h
  .rename_i hk;rcases zP h with z|z
   .exact .inl (ai _ z)
   .rcases aw.mp z with e|z
    .cases e;have:=by simpa using hk
     subst this;exact .inl au
    .exact .inr z
  .rcases zP h with z|z
   .exact .inl (ai _ z)
   .exact .inr z
theorem qE {α:Type} x :∀(l r:List (Str×α)),(l++r).lookup x=(l.lookup x).or (r.lookup x)
 | [],r=>by simp
 | (y,v)::l,r=>by
  rw[fh,bo,bo];cases x==y with
  | true=>rfl
  | false=>exact qE x l r
noncomputable def zF (N':yI)(src:yE)(scope:Scope)(XN:yI)(xs:Scope):Bool :=
 (scope.kind==.function) &&
 (scope.names.all λ y=>!(y.2==.free)||(xs.names.lookup y.1==some .cell||xs.names.lookup y.1==some .free)) &&
 (scope.names.all λ y=>!(y.2==.local)||scope.names.lookup y.1==some .local) &&
 (scope.names.all λ y=>!(y.2==.cell)||(scope.names.all λ z=>!(z.1==y.1)||z.2==.cell)) &&
 (src.length==N'.length) &&
 ((N'.zip src).all λ y=>match y.2 with|none=>true|some j=>XN[j]?==some y.1&&scope.names.lookup y.1==some .free)
structure CompCk (N':yI)(src:yE)(scope:Scope)(XN:yI)(xs:Scope):Prop where
 kind:scope.kind=.function
 fr:∀ y∈scope.names,y.2=.free->xs.names.lookup y.1=some .cell\/xs.names.lookup y.1=some .free
 loc:∀ y∈scope.names,y.2=.local->scope.names.lookup y.1=some .local
 cel:∀ y∈scope.names,y.2=.cell->∀ z∈scope.names,z.1=y.1->z.2=.cell
 len:src.length=N'.length
 sr:∀(i j:Nat) (x:Str),src[i]?=some (some j)->N'[i]?=some x->XN[j]?=some x/\scope.names.lookup x=some .free
def bs9 (h:zF F src scope J G=true):CompCk F src scope J G:=by
 unfold zF at h;simp only[am]at h;obtain⟨⟨⟨⟨⟨h1,Y⟩,h3⟩,h4⟩,h5⟩,h6⟩:=h;refine⟨by simpa using h1,λ y hy e=>?_,λ y hy e=>?_,λ y hy e z hz Z=>?_,by simpa using h5,λ i j x e1 e2=>?_⟩
 .have:=aD.mp Y y hy;simpa [e]using this
 .have:=aD.mp h3 y hy;simpa [e]using this
 .have:=aD.mp h4 y hy;simp only[e,lG]at this;have:=aD.mp this z hz;simpa [Z]using this
 .have hm:(x,some j)∈F.zip src:=by
   refine aG (i:=i) ?_;rw[List.getElem?_zip_eq_some];exact⟨e2,e1⟩
  have:=aD.mp h6 _ hm;simpa using this
noncomputable abbrev zv (X:Cx)(N':yI)(scope:Scope)(Cc:Addr)(cells:yC)(s:af)(H:Hp)(ex:List Addr):Cx where
 prog:=X.prog
 w:=X.w
 K:=X.K
 mg:=X.mg
 base:=X.base
 A:=X.A
 N:=N'
 s₀:=s
 H₀:=H
 env:={ scope:=fm scope X.env,locals:=Cc,globals:=X.env.globals,cells:=cells,qual:=X.env.qual,func:=none,code:=X.env.code,frame:=X.env.frame,builtins:=X.env.builtins }
 outer:=X.stack
 stack:=X.stack
 ex:=ex
 fn:=λ x=>scope.names.lookup x==some .cell
 calm:=X.calm
 pn:=[]
 xe:=λ _ _=>False
def PIf (X:Cx)(ifs:yL)(t:TT):Prop :=
 ∀ pins s (W:St) H Q ,Inv X pins W H s->t W H Q ->
  wpAny (model X.prog X.w) X.A (forIn ifs true λ c r=>if r=true then do let ok <- gH c X.env (eval c X.env);pure (ForInStep.yield ok)else pure (ForInStep.yield r)) (TP X pins W Q) X.xe s
def bX4:TT:=λ _ H Q=>Q true H
def bf0 :PIf X [] bX4:=λ _ _ _ H _ I h=>wpAny_tests_nil ⟨H,I,h⟩
def bx5 (h:PT X c t):PIf X [c] t:=λ y s W H Q I hw=>wpAny_tests_one (h y s W H Q I hw)
noncomputable def aE0 (src:yE)(W:St):St:=src.map λ o=>match o with|none=>none|some j=>(W[j]?).join
def tComp (src:yE)(wi:TI)(g:TG)(tc:TT)(te:TE):TE:=λ W H Q=>wi W H λ J H1=>∀ D,H1 D=none ->
 ∃ Ww:Nat->Nat->St->Hp->Prop,(∃ m,Ww 0 m (aE0 src W) (upd H1 D (.J [])))/\∀ i m W' H',Ww i m W' H' ->
  (J.stop i H'/\Q (.ref D) H')\/(J.go i H'/\∃ N:St->Hp->Prop,(∀ W2 H2,N W2 H2->∃ m',m'<m/\Ww (i+1) m' W2 H2) /\
   ∀ x H2,J.yld i H' x H2->g x W' H2 λ W3 H3=>tc W3 H3 λ b H4=>if b=true then te W3 H4 λ v H5=>∃ ys,H5 D=some (.J ys)/\ys.length<aP/\N W3 (upd H5 D (.J (ys++[v])))else N W3 H4)
theorem qf {env:Env}:∀ {names:List (Str×cz)} {x:Str} {k:cz},names.lookup x=some k ->
  (names.map λ(n,k)=>if(k==NameKind.free&&env.scope.kind==.function&&env.kindOf n==some .cell)then(n,NameKind.cell)else(n,k)).lookup x =
   some (if(k==NameKind.free&&env.scope.kind==.function&&env.kindOf x==some .cell)then NameKind.cell else k)
 | [],_,_,h=>by simp at h
 | (n,k)::r,x,k',h=>by
  have y:=@qf env r x k';show lX x ((if(k==NameKind.free&&env.scope.kind==.function&&env.kindOf n==some .cell)=true then(n,NameKind.cell)else(n,k))::_)=_;cases hx:x==n with
  | true =>
   have e:=beq_iff_eq.mp hx;subst e;simp only[bo,hx]at h;cases h;by_cases hc:(k==NameKind.free&&env.scope.kind==.function&&env.kindOf x==some .cell)=true
   .rw[if_pos hc,if_pos hc];simp only[bo,hx]
   .rw[if_neg hc,if_neg hc];simp only[bo,hx]
  | false =>
   simp only[bo,hx]at h;by_cases hc:(k==NameKind.free&&env.scope.kind==.function&&env.kindOf n==some .cell)=true
   .rw[if_pos hc];simp only[bo,hx];exact y h
   .rw[if_neg hc];simp only[bo,hx];exact y h
theorem zZ {env:Env}:∀ {names:List (Str×cz)} {x},names.lookup x=none ->
  (names.map λ(n,k)=>if(k==NameKind.free&&env.scope.kind==.function&&env.kindOf n==some .cell)then(n,NameKind.cell)else(n,k)).lookup x=none
 | [],_,_=>rfl
 | (n,k)::r,x,h=>by
  have y:=@zZ env r x;show lX x ((if(k==NameKind.free&&env.scope.kind==.function&&env.kindOf n==some .cell)=true then(n,NameKind.cell)else(n,k))::_)=_;cases hx:x==n with
  | true=>simp only[bo,hx]at h;cases h
  | false =>
   simp only[bo,hx]at h;by_cases hc:(k==NameKind.free&&env.scope.kind==.function&&env.kindOf n==some .cell)=true
   .rw[if_pos hc];simp only[bo,hx];exact y h
   .rw[if_neg hc];simp only[bo,hx];exact y h
def av5 {W:St}{s s4:af}{fp:List Addr}
  (F:CompCk N' src scope X.N X.env.scope) (I:Inv X a5 W H s) (hf:∀ b∈fp,FpOk X a5 H b) (b1:∀ b∈fp,b<s.heap.objs.size)
  (e4:∃ tk,s4={ s with heap:=fi (s.heap.push { cls:=.type "dict",data:=.dict #[] }) scope.names,toks:=tk }) :
  Inv (zv X N' scope s.heap.objs.size (bz (s.heap.objs.size+1) scope.names (ar8 X.env.cells scope.names [])) s H fp) [] (aE0 src W) H s4:=by
 obtain⟨tk,rfl⟩:=e4;have hk:∀ b o,s.heap.get? b=some o->(fi (s.heap.push { cls:=.type "dict",data:=.dict #[] }) scope.names).get? b=some o:=λ b o e=>fJ _ _ b o (ak _ e);have ok:=cellsFrom_ok scope.names (s.heap.push { cls:=.type "dict",data:=.dict #[] }) (s.heap.objs.size+1) [] ⟨λ _ _ hm=>(nomatch hm),List.Pairwise.nil⟩ (by rw[cn];exact av _);rw[cn]at ok;have a0:=zG scope.names (s.heap.objs.size+1) (ar8 X.env.cells scope.names []);have lk:∀ x c,(bz (s.heap.objs.size+1) scope.names (ar8 X.env.cells scope.names [])).lookup x=some c ->
   ((x,c)∈bz (s.heap.objs.size+1) scope.names []/\(x,NameKind.cell)∈scope.names)\/(X.env.cells.lookup x=some c/\(bz (s.heap.objs.size+1) scope.names []).lookup x=none):=λ x c e=>by
  rw[a0,qE]at e;cases q:(bz (s.heap.objs.size+1) scope.names []).lookup x with
  | some d =>
   rw[q]at e;have e':d=c:=aB e;subst e';have hm:=bu q;refine .inl ⟨hm,?_⟩;rcases zP hm with z|z
   .exact z
   .exact absurd z (by simp)
  | none =>
   rw[q]at e;have e':(ar8 X.env.cells scope.names []).lookup x=some c:=e;rcases clOf_mem (bu e')with z|z
   .exact .inr ⟨z,rfl⟩
   .exact absurd z (by simp)
 have up:∀ x c,(x,c)∈bz (s.heap.objs.size+1) scope.names []->s.heap.objs.size+1<=c:=λ x c h=>(ok.empty x c h).2;have a9:∀ x c,X.env.cells.lookup x=some c->c<s.heap.objs.size:=λ x c h=>by
  obtain⟨v,q⟩:=I.cell x c h;exact q.lt
 have a4:∀ b,b<s.heap.objs.size->b≠s.heap.objs.size:=λ b h=>aC h;have a8:∀ b∈fp,H b=none/\b≠X.env.locals/\b ∉ X.fs:=λ b hb=>⟨(hf b hb).1,(hf b hb).2.1,(hf b hb).2.2.1⟩
 have b2:(fi (s.heap.push { cls:=.type "dict",data:=.dict #[] }) scope.names).Ns s.heap.objs.size (λ _=>none):=(Heap.Ns.new s.heap (.type "dict")).keeps (fJ _ _);have Z:∀ x k,scope.names.lookup x=some k->(fm scope X.env).names.lookup x=some (if(k==NameKind.free&&X.env.scope.kind==.function&&X.env.kindOf x==some .cell)then NameKind.cell else k):=λ x k e=>qf (env:=X.env) e;have a3:∀ x,scope.names.lookup x=none->(fm scope X.env).names.lookup x=none:=λ x e=>zZ (env:=X.env) e;have b0:∀ x c,(x,NameKind.free)∈scope.names->X.env.cells.lookup x=some c->(bz (s.heap.objs.size+1) scope.names (ar8 X.env.cells scope.names [])).lookup x=some c:=λ x c hx hc=>by
  rw[a0,qE];cases q:(bz (s.heap.objs.size+1) scope.names []).lookup x with
  | some d =>
   rcases zP (bu q)with z|z
   .have:=F.cel _ z rfl _ hx rfl;cases this
   .exact absurd z (by simp)
  | none=>exact aG9 hc hx
 have a6:∀ x,(x,NameKind.free)∈scope.names->∃ c,X.env.cells.lookup x=some c:=λ x hx=>I.ok.has x (F.fr _ hx rfl);refine⟨⟨I.ok.mod,F.kind,I.ok.glob,I.ok.blt,av _,λ x y c e1 e2=>?_,λ x hx=>?_,λ x c hx e=>?_,I.ok.hd,I.ok.frames,.inl rfl,λ b hb=>⟨a4 b (b1 b hb),λ x c e z=>?_⟩,I.bs,aq I.ok.bsz I.sz,λ b o e hb=>?_,λ b hb z=>?_,I.stack,I.stkFree⟩,
  rfl,I.bare,Un.kept hk,⟨_,b2,λ i x v e1 e2 e3=>?_⟩,λ x c e=>?_,I.hok.fresh (av _),λ x c e=>?_,λ p hp=>absurd (show p∈([]:yA)from hp) (by simp),I.hok.kept hk,by unfold aE0;rw[ao];exact F.len⟩
 .rcases lk x c e1 with⟨a1,_⟩|⟨a1,_⟩<;>rcases lk y c e2 with⟨a2,_⟩|⟨a2,_⟩
  .exact name_of_addr ok.apart a1 a2
  .exact absurd (aK (a9 _ _ a2) (gz (up _ _ a1))) (bX _)
  .exact absurd (aK (a9 _ _ a1) (gz (up _ _ a2))) (bX _)
  .exact I.ok.inj x y c a1 a2
 .cases q:scope.names.lookup x with
  | none =>
   have J:(fm scope X.env).names.lookup x=some .cell\/(fm scope X.env).names.lookup x=some .free:=hx;rw[a3 x q]at J;rcases J with z|z<;>cases z
  | some k =>
   have J:(fm scope X.env).names.lookup x=some .cell\/(fm scope X.env).names.lookup x=some .free:=hx;rw[Z x k q]at J;cases k with
   | free =>
    obtain⟨c,hc⟩:=a6 x (bu q);exact⟨c,b0 x c (bu q) hc⟩
   | cell =>
    obtain⟨c,hc⟩:=am8 (n:=s.heap.objs.size+1) q;exact⟨c,by show(bz _ _ _).lookup x=_;rw[a0,qE,hc];rfl⟩
   | _=>rcases J with z|z<;>cases z
 .have J:(scope.names.lookup x==some .cell)=true:=hx;have q:scope.names.lookup x=some .cell:=by simpa using J
  rcases lk x c e with⟨a,_⟩|⟨a,b⟩
  .have:=up _ _ a;show s.heap.objs.size<=c;lia
  .obtain⟨d,hd⟩:=am8 (n:=s.heap.objs.size+1) q;rw[hd]at b;cases b
 .subst z;rcases lk x c e with⟨a,_⟩|⟨a,_⟩
  .exact absurd (aK (b1 c hb) (gz (up _ _ a))) (bX _)
  .exact(hf c hb).2.2.2.2.1 x c a rfl
 .rcases(hf b hb).2.2.2.1 with z|z
  .exact I.ok.noex b o e z
  .exact absurd (aK (aL e) (aq I.ok.bsz z)) (bX _)
 .rcases aw.mp (I.stkSub b z)with y|y
  .exact(a8 b hb).2.1 y
  .exact(a8 b hb).2.2 y
 .have G:(aE0 src W)[i]?=some (some v):=e2;unfold aE0 at G;rw[aY]at G;cases q:src[i]? with
  | none=>rw[q]at G;cases G
  | some o =>
   rw[q]at G;cases o with
   | none=>cases G
   | some j =>
    have Y:(W[j]?).join=some v:=aB G;have ej:W[j]?=some (some v):=by
     cases q2:W[j]? with
     | none=>rw[q2]at Y;cases Y
     | some o2=>rw[q2]at Y;exact congrArg some Y
    obtain⟨h1,h2⟩:=F.sr i j x q e1;have hm:=bu h2;obtain⟨mX,b4,b3⟩:=I.loc;have a7:Vis X.env.scope x:=by
     rcases F.fr _ hm rfl with z|z
     .exact .inr (.inl z)
     .exact .inr (.inr z)
    obtain⟨u,ru,look⟩:=b3 j x v h1 ej a7;refine⟨u,ru,.inr ?_⟩;have hcell:∃ c,X.env.cells.lookup x=some c/\s.heap.IsCell c (some u):=by
     rcases look with⟨z,_⟩|⟨_,c,z1,z2⟩
     .have z':X.env.scope.names.lookup x=some .local:=z;rcases F.fr _ hm rfl with y|y<;>(rw[z']at y;cases y)
     .exact⟨c,z1,z2⟩
    obtain⟨c,c1,c2⟩:=hcell;refine⟨?_,c,b0 x c hm c1,c2.keeps hk⟩;show(fm scope X.env).names.lookup x=some .cell\/(fm scope X.env).names.lookup x=some .free;rw[Z x _ h2];by_cases hc:(NameKind.free==NameKind.free&&X.env.scope.kind==.function&&X.env.kindOf x==some .cell)=true
    .rw[if_pos hc];exact .inl rfl
    .rw[if_neg hc];exact .inr rfl
 .rcases lk x c e with⟨a,_⟩|⟨a,_⟩
  .exact⟨_,(ok.empty x c a).1⟩
  .obtain⟨v,q⟩:=I.cell x c a;exact⟨v,q.keeps hk⟩
 .rcases lk x c e with⟨a,_⟩|⟨a,_⟩
  .exact I.hok.fresh (by have:=up _ _ a;lia)
  .exact I.freeC x c a
def ay0 {W W':St}
  (I:Inv X y W H s) (hf:∀ b∈G,FpOk X y H b) (J:Inv (zv X N' scope s.heap.objs.size cells s H G) [] W' Y s5) (hs:bN s.heap.objs.size s5.heap h') :
  Inv X y W Y { s5 with heap:=h' }:=by
 have F:∀ b o,s.heap.get? b=some o->b≠s.heap.objs.size:=λ b o e=>aC (aL e);have u:=J.base;refine I.call' J.os ⟨λ b o e n hb hx=>?_,λ b o e n hb hx=>?_,λ b o e n hx=>u.free b o e n hx,λ b o e hx=>?_,u.tups,u.frzs,u.tbls⟩ (λ b o e=>?_) J.bare λ b hb=>⟨(hf b hb).2.2.2.1,(hf b hb).2.1,(hf b hb).2.2.2.2.1,(hf b hb).2.2.2.2.2⟩
 .exact(hs.2 b (F b o e)).trans (u.keep b o e n hb hx)
 .obtain⟨sl,q⟩:=u.slot b o e n hb hx;exact⟨sl,(hs.2 b (F b o e)).trans q⟩
 .obtain⟨Z,q⟩:=u.there b o e hx;exact⟨Z,(hs.2 b (F b o e)).trans q⟩
 .have fr:=J.free;refine(J.hok b o e).stay (λ c w' hc q=>(hs.2 c ?_).trans q) (λ _ q=>q) λ _ _ q=>q
  rintro rfl
  rcases hc with z|hc
  .rw[<-z,fr]at e;cases e
  .rw[fr]at hc;cases hc
def aj3 {E:yB}{z:yC}
  (h:Q { scope:=scope,locals:=s.heap.objs.size,globals:=globals,cells:=bz (s.heap.objs.size+1) scope.names z,qual:=qual,func:=none,code:=y.code,frame:=y.frame,builtins:=y.builtins }
   { s with heap:=fi (s.heap.push { cls:=.type "dict",data:=.dict #[] }) scope.names }) :
  wpAny M A (newFunctionEnv scope globals z [] qual none .none (some y)) Q E s:=by
 simp only[newFunctionEnv,if_true];refine ae (wpAny_alloc ?_);refine ae (wpAny_layCells _ (λ name kind cells=>by cases hkc:kind==NameKind.cell<;>simp[]) _ _ _ _ ?_);rw[cn ..];refine ae ?_;rw[gi];exact aA (aA h)
def aF5 {Ww:Nat->Nat->St->Hp->Prop}
  {QD:Hp->Prop} {W0:St} (hx:∀ e s',X'.xe e s'->d9 (model X'.prog X'.w) X'.A X'.env (λ e s'=>R (.error e) s') e s') (F:X'.calm=true) (I4:Inv X' [] W0 H0 s4) (T:Turn X'.prog X'.w X'.K tg J fp it tn) (a6:tn 0 s4.heap)
  (z:∀ H':Hp,(∀ b∈fp,H' b=none)->∀ b∈fp,FpOk X' [] H' b) (a4:∀ b∈fp,H0 b=none) (w0:Ww 0 m0 W0 H0)
  (turn:∀ i m W' H',Ww i m W' H'->(J.stop i H'/\QD H')\/(J.go i H'/\∃ N:St->Hp->Prop,(∀ W2 H2,N W2 H2->∃ m',m'<m/\Ww (i+1) m' W2 H2) /\
   ∀ x H2,J.yld i H' x H2->g x W' H2 λ W3 G=>tc W3 G λ b H4=>if b=true then te W3 H4 λ v H5=>∃ ys,H5 D=some (.J ys)/\ys.length<aP/\N W3 (upd H5 D (.J (ys++[v])))else N W3 H4))
  (hg:PG X' tg g) (hif:PIf X' a0 tc) (he:PE X' elt te) (a1:∀ W' H' s',Inv X' [] W' H' s'->QD H'->R (.ok .next) s') :
  iY (model X'.prog X'.w) X'.A (.compLoop (.ListComp elt [⟨tg,iter,a0,0⟩] scope pos) 0 (.ref it) (.ref D) X'.env) R s4:=by
 have nox:∀ {α:Type} {t:Sem α} {Q Q':α->af->Prop} {s:af},wpAny (model X'.prog X'.w) X'.A t Q X'.xe s->(∀ a s,Q a s->Q' a s)->wpAny (model X'.prog X'.w) X'.A t Q' (d9 (model X'.prog X'.w) X'.A X'.env λ e s'=>R (.error e) s') s :=
  λ h hQ=>bf h hQ hx
 refine bf2 (λ n s'=>∃ i W' H',Inv X' [] W' H' s'/\tn i s'.heap/\(∀ b∈fp,H' b=none)/\Ww i n W' H') ?_ m0 ⟨0,W0,H0,I4,a6,a4,w0⟩
 rintro n s3 ⟨i,W3,G,I3,a3,a2,w3⟩
 rcases turn i n W3 G w3 with⟨stop,qn⟩|⟨go,N,hN,step⟩
 .refine nox (T.done X' rfl rfl rfl F i [] s3 W3 G X'.xe I3 (z G a2) a3 stop) λ r s4 ⟨hr,I4⟩=>?_;subst hr;exact a1 W3 G s4 I4 qn
 .refine nox (T.item X' rfl rfl rfl F i [] s3 W3 G X'.xe I3 (z G a2) a3 go) λ r s4 ⟨u,hr,h4⟩=>?_;subst hr;refine nox h4 λ _ s5 ⟨x,H5,I5,r5,y5,Y,a7⟩=>?_;have a5:=I5.pinned (z H5 a7) (T.obj _ _ Y);refine nox (hg _ s5 W3 H5 x u _ a5 r5 (step x H5 y5)) λ _ s6 ⟨W6,H6,I6,q6⟩=>?_;have again:∀ {W7:St} {Z:Hp} {s7:af},Inv X' ([]++aD7 fp s5.heap) W7 Z s7->N W7 Z->∃ m,m<n/\∃ i W' H',Inv X' [] W' H' s7/\tn i s7.heap/\(∀ b∈fp,H' b=none)/\Ww i m W' H':=λ {W7 Z s7} I7 n7=>by
   obtain⟨m',hm,w7⟩:=hN W7 Z n7;refine⟨m',hm,i+1,W7,Z,I7.unpinned,T.keep _ _ _ Y λ b hb o e=>(I7.pin (b,o) (aO _ (aO _ (qJ hb e)))).1,λ b hb=>?_,w7⟩;obtain⟨o,e,d⟩:=T.obj _ _ Y b hb;exact(I7.pin (b,o) (aO _ (aO _ (qJ hb e)))).2.1
  refine nox (hif _ s6 W6 H6 _ I6 q6) λ b s7 ⟨Z,I7,q7⟩=>?_;cases b with
  | false =>
   rw[if_neg aI]at q7 ⊢;exact again I7 q7
  | true =>
   rw[if_pos rfl]at q7 ⊢;refine nox (he _ s7 W6 Z _ I7 q7) λ v s8 ⟨y,H8,I8,r8,ys,hy,hz,q8⟩=>?_;refine nox (aq1 _ s8 W6 H8 (.ref D) [y] (.ref D) [v] (λ _ H9=>N W6 H9) I8 rfl (.cons r8 .nil) ⟨D,ys,y,rfl,rfl,hy,hz,q8⟩) λ v9 s9 ⟨_,H9,I9,_,q9⟩=>?_;exact again I9 q9
def cm0 (X:Cx)(Cc:Addr)(e:Value)(s':af):Prop:=∃ m,s'.heap.Ns Cc m/\∀ h',bN Cc s'.heap h'->∀ cenv:Env,cenv.locals=Cc->wpAny (model X.prog X.w) X.A (lN (α:=Value) "comprehension.variables-let-go" e cenv) (λ _ _=>False) X.xe { s' with heap:=h' }
def aO8 G src 
  (a5:zF G src scope X.N X.env.scope=true) (hi:PI X tg iter wi) (Z:X.calm=true)
  (a7:∀(cells:yC) (s:af) (H:Hp) (ex:List Addr) (z:yA) (W:St),Inv X z W H s->(∀ b∈ex,FpOk X z H b)->∃ Ww,(∀ e s',Ww e s'->d9 (model X.prog X.w) X.A (zv X G scope s.heap.objs.size cells s H ex).env (cm0 X s.heap.objs.size) e s')/\PG ((zv X G scope s.heap.objs.size cells s H ex).wish Ww) tg g/\PIf ((zv X G scope s.heap.objs.size cells s H ex).wish Ww) a1 tc/\PE ((zv X G scope s.heap.objs.size cells s H ex).wish Ww) elt te)
  (hs:autoParam (∀ x,cD iter X.env x=pure x) Zq3._auto_1):PE X (.ListComp elt [⟨tg,iter,a1,0⟩] scope pos) (tComp src wi g tc te):=by
 intro z s W H Q I h;have ck:=bs9 a5;rw[eval_ListComp];have hcl:=aj5 λ y hy e=>I.ok.has y.1 (ck.fr y hy e);refine gO rfl hs hcl ck.kind ck.loc (thn (hi z s W H _ I h) λ v s1 h1=>thn h1 λ b1 s2 h2=>?_);obtain⟨it,F,tn,J,H2,e,I2,T,a0,f2,Ww⟩:=h2;subst e;have hD:=I2.fresh;obtain⟨Wt,⟨m0,w0⟩,turn⟩:=Ww _ hD;have I3:=I2.lnew (t':=s2.toks) .nil (cA _);have a3:∀ b∈F,b<s2.heap.objs.size:=λ b hb=>by obtain⟨o,q,_⟩:=T.obj _ _ a0 b hb;exact aL q
 have f3:∀ b∈F,FpOk X z (upd H2 s2.heap.objs.size (.J [])) b:=λ b hb=>⟨by rw[zu (aC (a3 b hb))];exact(f2 b hb).1,(f2 b hb).2⟩
 refine bP (aj3 ?_);generalize Y:({ s2 with heap:=s2.heap.push { cls:=.type "list",data:=.seq ([]).toArray },toks:=s2.toks })=s3 at I3;have b0:=Y;have a6:∀ b∈F,b<s3.heap.objs.size:=λ b hb=>by
  rw[<-Y];rw[cn];exact gA (a3 b hb)
 have I4:=av5 (s4:={ s3 with heap:=fi (s3.heap.push { cls:=.type "dict",data:=.dict #[] }) scope.names }) ck I3 f3 a6 ⟨_,rfl⟩;have a4:tn 0 (fi (s3.heap.push { cls:=.type "dict",data:=.dict #[] }) scope.names):=T.keep _ _ _ a0 λ b hb o e=>fJ _ _ b o (ak _ (by rw[<-Y];exact ak _ e));obtain⟨Ww,hW,hg,hif,he⟩:=a7 (bz (s3.heap.objs.size+1) scope.names (ar8 X.env.cells scope.names [])) s3 (upd H2 s2.heap.objs.size (.J [])) F z W I3 f3;have I4:=I4.wish Ww;have a2:∀ H':Hp,(∀ b∈F,H' b=none)->∀ b∈F,FpOk ((zv X G scope s3.heap.objs.size (bz (s3.heap.objs.size+1) scope.names (ar8 X.env.cells scope.names [])) s3 (upd H2 s2.heap.objs.size (.J [])) F).wish Ww) [] H' b:=λ H' hn b hb =>
  ⟨hn b hb,(I4.ok.exf b hb).1,I4.ok.exfs b hb,.inl hb,λ x c e=>(I4.ok.exf b hb).2 x c e,λ p hp=>absurd (hp) (by simp)⟩
 have T':=T;have a9:=λ b hb=>(f3 b hb).1;have L:=aF5 (X':=((zv X G scope s3.heap.objs.size (bz (s3.heap.objs.size+1) scope.names (ar8 X.env.cells scope.names [])) s3 (upd H2 s2.heap.objs.size (.J [])) F).wish Ww)) (R:=compPost (model X.prog X.w) X.A X.xe none (EP X z W Q) (Value.ref s2.heap.objs.size) s3.heap.objs.size) (iter:=iter) (scope:=scope) (pos:=pos) hW Z I4 T' a4 a2 a9 w0 turn hg hif he
  (λ W' H' s' J' q=>by
   obtain⟨mm,hn,_⟩:=J'.loc;exact⟨mm,hn,λ h' a8=>⟨.ref s2.heap.objs.size,H',ay0 I3 f3 J'.unwish a8,rfl,q⟩⟩)
 exact ik L (T.self _ _ _ _ _ a4 L)
def bd9 G src 
  (J:zF G src scope X.N X.env.scope=true) (hi:PI X tg iter Z) (y:X.calm=true)
  (Y:∀(Cc:Addr) (cells:yC) (s:af) (H:Hp) (ex:List Addr),PG (zv X G scope Cc cells s H ex) tg g/\PIf (zv X G scope Cc cells s H ex) F tc/\PE (zv X G scope Cc cells s H ex) elt te)
  (hs:autoParam (∀ x,cD iter X.env x=pure x) Zq3._auto_1):PE X (.ListComp elt [⟨tg,iter,F,0⟩] scope pos) (tComp src Z g tc te) :=
 aO8 G src J hi y (λ cells s H ex _ _ _ _=>⟨λ _ _=>False,λ _ _ z=>z.elim,Y _ cells s H ex⟩) hs
section
variable {X:Cx}
def bZ2:br "abs"=some (.builtin "abs"):=by decide +kernel
def bY4:br "len"=some (.builtin "len"):=by decide +kernel
def bL0:br "min"=some (.builtin "min"):=by decide +kernel
def ce5:br "max"=some (.builtin "max"):=by decide +kernel
def ce9:br "all"=some (.builtin "all"):=by decide +kernel
def qD:br "isinstance"=some (.builtin "isinstance"):=by decide +kernel
def bV0:br "int"=some (.type "int"):=by decide +kernel
def bV9:br "bool"=some (.type "bool"):=by decide +kernel
def bP9:br "str"=some (.type "str"):=by decide +kernel
def aJ1:br "tuple"=some (.type "tuple"):=by decide +kernel
def bq7:br "list"=some (.type "list"):=by decide +kernel
def cd1 (i j:Int):Prop:=0<j/\j<2^4096
def aS1 {y:Int}(h0:0<y)(h:y<2^4096):y.natAbs.log2<9000:=by
 have hn:=by
  have:(y.natAbs)=y:=by lia
  have z:(y.natAbs)<((2^4096):Int):=by rw[this];simpa using h
  exact jY.mp z
 have:=(Nat.log2_lt (by lia)).mpr hn;lia
def bl4:OpR X (cx .FloorDiv) (rI cd1 λ i j=>.int (i / j)):=opI λ i j _ _ _ _ _ hc q=>by
 refine floordiv_int (by have:=hc.1;omega) ?_ (.inl (PyProof.noPylong_of_log2 (aS1 hc.1 hc.2)));rw[Int.fdiv_eq_ediv_of_nonneg i (by have:=hc.1;lia)];exact q
def aM1 {K}(y:X.K=K):IxR X (cg2 K):=by subst y;exact bf5
def bB8 {K}(y:X.K=K):IxR X (ci6 K):=by subst y;exact ix_tup
def ap7 {K}(y:X.K=K):ae3 X (.builtin "len") (λ z H Q=>∃ p ys,z=[.ref p]/\(SqL K H p ys\/SqT K H p ys)/\Q (.int ys.length) H):=by subst y;exact aC4
def aq8 {K}(y:X.K=K):ae3 X (.type "tuple") (λ z H Q=>∃ p ys,z=[.ref p]/\((SqL K H p ys/\∀ l,H l=none->Q (.ref l) (upd H l (.tp ys)))\/(SqT K H p ys/\Q (.ref p) H))):=by subst y;exact az3
def aU4 {K}(y:X.K=K):ae3 X (.type "list") (λ z H Q=>∃ p ys,z=[.ref p]/\(SqL K H p ys\/SqT K H p ys)/\∀ l,H l=none->Q (.ref l) (upd H l (.J ys))):=by subst y;exact aA6
def bh7 {K}(z:X.K=K)(hl:PE X l y):PI X tg l (bD6 K y):=by subst z;exact bC5 hl
def bz7 {K}(z:X.K=K)(hl:PE X l y):PI X tg l (bZ8 K y):=by subst z;exact bS7 hl
def bA0 {K}{pos}{k}(z:X.K=K)(hc:X.calm=true)(h:PGs X es t)
  (hn:autoParam ((cP es X.env).length=n) Zq4._auto_1) (y:autoParam ((cP es X.env).findIdx? (·.1)=none) Zq4._auto_1):PG X (.Tuple es k pos) (bY5 K n t):=by subst z;exact bT3 hc h hn y
end
structure DefAt (K:ac)(mg:yD)(x:Str)(st:Stmt)(ps:yI)(f:Addr)(fd:bW):Prop where
 fn:Fun K x x st f fd
 mg:mg x=some (.ref f)
 bi:Binds K fd ps []
@[irreducible] noncomputable def cm3 (p:Prop):Prop:=p
def af2.new (h:af2 H y)(hp:y p=none):af2 H (L2.upd y p o):=λ x o e=>by
 have e1:=h x o e;rw[zu (zm e1 hp)];exact e1
section
variable {prog:aJ} {w:World} {A:aS} {R:km->af->Prop} {I:Addr} {fp wr:List Addr} {n:Nat} {P:Nat->Value->Prop} {St:Nat->Heap->Prop} {kw:List (Str×Value)}
end
theorem ao4 (val : Nat -> Int) : ∀ k j, j <= k -> val (k8 (λ i j => decide (val i < val j)) k) <= val j
  | 0, j, h => by have : j = 0 := by lia
                  subst this; exact iI _
  | k + 1, j, h => by
    have ih := ao4 val k;unfold k8;by_cases hb : val (k + 1) < val (k8 (λ i j => decide (val i < val j)) k)
    . rw[if_pos (by simpa using hb)]
      by_cases hj : j = k + 1
      . subst hj; exact iI _
      . have := ih j (by lia); lia
    . rw[if_neg (by simpa using hb)]
      by_cases hj : j = k + 1
      . subst hj; omega
      . exact ih j (by omega)
def bb9 {ns:List Int}{its:yH}(r:Vals (ns.map V.int) its){i:Nat}(h:its[i]?=some v):∃ z t,ns[i]?=some z/\v=Value.int z t:=by
 have hl:=r.length;rw[ao]at hl;have y:=(ah.mp h).1;obtain⟨u,e1,q⟩:=r.get (i:=i) (by rw[aY,aj (by omega)];rfl);rw[h]at e1;cases e1;obtain⟨t,rfl⟩:=q;exact⟨_,t,aj (by omega),rfl⟩
inductive D where
 | N|T (b:Bool)|int (i:Int)|str (x:Str)|tp (l:List D)|J (l:List D)
noncomputable abbrev D.ctorIdx (x:D):Nat:=D.casesOn x 0 (λ _=>1) (λ _=>2) (λ _=>3) (λ _=>4) (λ _=>5)
mutual
noncomputable def D.deep:D->Nat
 | .tp l=>D.deepL l+1
 | .J l=>D.deepL l+1
 | _=>0
noncomputable def D.deepL:List D->Nat
 | []=>0
 | d::l=>max (D.deep d) (D.deepL l)
end
section
variable {X:Cx}
end
section
variable {X:Cx}
def cf3 (K:ac):R2:=λ x y H Q=>∃ a b xs ys,x=.ref a/\y=.ref b/\SqT K H a xs/\SqT K H b ys/\xs.length+ys.length<=aP/\∀ p H',af2 H H'->SqT K H' p (xs++ys)->(H' p=some (.tp (xs++ys))\/(p=a/\ys=[])\/(p=b/\xs=[]))->Q (.ref p) H'
def bB0 {E:yB}{ws:yH}{Q:yB}(ht:IsTup s.heap t ([]:yH).toArray)(hb:IsTup s.heap b ws.toArray)(h1:Q (.ref b) s) :
  wpAny (model prog w) A (cx .Add (.ref t) (.ref b)) Q E s:=by
 obtain⟨⟨cls,dd,data,sl⟩,ho,hc,n,hd⟩:=id ht;obtain⟨⟨Z,J,Y,G⟩,y,F,n2,z⟩:=id hb;simp only at hc hd F z;subst hc hd F z;exact jT ⟨_,ho,rfl⟩ ⟨_,y,rfl⟩ gU jr eJ eB (dW _ _)
   (tuple_addW0 t b _ ws.toArray n n2 dd J sl G rfl) ⟨ho,y,h1⟩
def bt6 {K}(hK:X.K=K):OpR X (cx .Add) (cf3 K):=by
 subst hK;intro F s W H x y v u Q I G Y h;obtain⟨a,b,Z,ys,e1,e2,ha,hb,hz,q⟩:=h;by_cases hx:Z=[]
 .subst e1;subst e2;subst hx;cases G;cases Y;obtain⟨its,r1,p1,_⟩:=I.tuple ha;obtain⟨J,r2,p2,_⟩:=I.tuple hb;obtain rfl:its=[]:=r1.nil_iff.mpr rfl;exact bB0 p1 p2 ⟨.ref b,H,I,rfl,q b H (af2.refl H) hb (.inr (.inr ⟨rfl,rfl⟩))⟩
 .refine bA7 F s W H x y v u Q I G Y ⟨a,b,Z,ys,e1,e2,ha,hb,hx,hz,λ z=>?_,λ z p hp=>?_⟩
  .subst z;exact q a H (af2.refl H) (by rw[az];exact ha) (.inr (.inl ⟨rfl,rfl⟩))
  .exact q p _ ((af2.refl H).new hp) (SqT.of zo) (.inl zo)
def cm1 (K:ac):V->Option Int->Option Int->Hp->VK->Prop:=λ x lo hi H Q=>∃ a xs,x=.ref a/\SqT K H a xs/\∀ p H',af2 H H'->SqT K H' p (aV0 xs lo hi)->(H' p=some (.tp (aV0 xs lo hi))\/(p=a/\aV0 xs lo hi=xs))->Q (.ref p) H'
def ax7 {E:yB}{y:yK}{Q:yB}(ht:IsTup s.heap t y)(hs:s.heap.IsSliceOf sl vl vu .none)(pl:gK vl z)(pu:gK vu G)
  (hw:HT.sIx y.size 0 z=0/\HT.sIx y.size y.size G=y.size) (h:Q (.ref t) s):wpAny (model prog w) A (ja (.ref t) (.ref sl)) Q E s:=by
 obtain⟨os,J,Y,a0⟩:=id hs;have Z:s.TypeIs (.ref sl) "slice":=⟨os,J,Y⟩
 unfold ja
 try with_reducible refine c8 ?_
 first|refine ae (aA ?_)|skip
 refine ae (jU ht.typeIs (by decide) ?_);refine ae (cf ht.typeIs bw
  (cw bw ht.typeIs jh ?_ (jC _ _)))
 show wpAny _ _ (dI (.ref t) >>= _) _ _ s;refine ae (js ht ?_);refine ae (hX Z ?_);rw[if_pos (by decide)];refine ae (HT.sliceApplied_gen hs pl pu ?_);have F:((((HT.sIx y.size 0 z):Int)==0&&(1:Int)==1&&(HT.sIx y.size y.size G - HT.sIx y.size 0 z)==y.size)=true):=by
  rw[hw.1,hw.2];simp
 show wpAny _ _ (if(((HT.sIx y.size 0 z:Nat):Int)==0&&(1:Int)==1&&(HT.sIx y.size y.size G - HT.sIx y.size 0 z)==y.size)=true then _ else _) _ _ s;rw[if_pos F];refine ae (ae (hX ht.typeIs (aA ?_)));rw[if_pos (by decide)];exact ae (il (aA ⟨_,rfl,aA h⟩))
def av6 (h:HT.sIx y.length 0 z=0/\HT.sIx y.length y.length F=y.length):aV0 y z F=y:=by
 unfold aV0;rw[h.1,h.2];simp
def bx0 {K}(hK:X.K=K):SlR X (cm1 K):=by
 subst hK;intro F s W H x v vl vu J hi sl Q I G hs Y Z h;obtain⟨a,y,e1,hx,q⟩:=h;by_cases hw:HT.sIx y.length 0 J=0/\HT.sIx y.length y.length hi=y.length
 .subst e1;cases G;obtain⟨its,r,ht,hz⟩:=I.tuple hx;have z:its.toArray.size=y.length:=by rw[ay];exact r.length.symm
  refine⟨"tuple",_,bw.lookup,ht.typeIs,?_⟩;exact ax7 ht hs Y Z (by rw[z];exact hw) ⟨.ref a,H,I,rfl,q a H (af2.refl H) (by rw[av6 hw];exact hx) (.inr ⟨rfl,av6 hw⟩)⟩
 .exact bL6 F s W H x v vl vu J hi sl Q I G hs Y Z ⟨a,y,e1,hx,hw,λ p hp=>q p _ ((af2.refl H).new hp) (SqT.of zo) (.inl zo)⟩
def bm3 {K}(y:X.K=K):SlR X (ci1 K):=by subst y;exact bz5
end
noncomputable def Its (x:Str):It:=⟨λ i _=>i<x.cps.size,λ i H v H'=>H'=H/\∃ c,x.cps[i]?=some c/\v=.str ⟨#[c]⟩,λ i _=>x.cps.size<=i⟩
def aO5 {K} it (hn:["enumerate", "zip", "dict_itemiterator", "dict_reverseitemiterator", "odict_iterator", "itertools.zip_longest", "itertools.pairwise"].contains G=false)
  (Ww:∀ A:aS,A.handled=none->Walks P w A it [it] [it] x.cps.size (SignAt x) (λ i h=>h.IsStrIter it G x t i))
  (Y:∀(A:aS) (s:af) (i:Nat) (Q:Option Value->af->Prop) (E:yB),A.handled=none->s.heap.IsStrIter it G x t i->x.cps[i]?=none->(∀ h',gB it s.heap h'->Q none { s with heap:=h' })->wpAny (model P w) A (lh (.ref it)) Q E s)
  (F:∀(A:aS) (i:Nat) (s:af) (Q:yB) (E:yB),s.heap.IsStrIter it G x t i->Q (.ref it) s->wpAny (model P w) A (ki (.ref it)) Q E s):Turn P w K tg (Its x) [it] it (λ i h=>h.IsStrIter it G x t i) where
 mem:=by simp
 obj:=λ i h st b hb=>by
  have e:=by simpa using hb
  subst e;obtain⟨o,ho,hc,hd⟩:=st;exact⟨o,ho,λ v z=>by rw[hd]at z;cases z⟩
 keep:=λ i h h' st k=>by
  obtain⟨o,ho,r⟩:=st;exact⟨o,k it (by simp) _ ho,r⟩
 item:=by
  intro X hP hw hK hc i y s W H E I hf st hg;subst hP hw hK;obtain⟨f0,f1,f2,f3,Z,f5⟩:=hf it (by simp);refine(Ww X.A (I.ok.hd hc)).item i s _ _ hg st λ v h' tk hv J kk=>?_;obtain⟨c,u,a0,rfl⟩:=hv;have I1:Inv X y W H { s with heap:=h',toks:=tk }:=I.turned (λ b o hb e=>kk b o (by simpa using hb) e) f0 f1 f3 Z f5;obtain⟨o,ho,hcl,hd⟩:=id J;exact⟨_,rfl,bj6 ho hcl hd hn ⟨.str ⟨#[c]⟩,H,I1,⟨u,rfl⟩,⟨rfl,c,a0,rfl⟩,J,λ b hb=>(hf b hb).1⟩⟩
 done:=by
  intro X hP hw hK hc i y s W H E I hf st hg;subst hP hw hK;obtain⟨f0,f1,f2,f3,Z,f5⟩:=hf it (by simp);have a1:x.cps.size<=i:=hg;exact Y X.A s i _ E (I.ok.hd hc) st (by simp;omega) λ h' eb=>⟨rfl,I.turned (λ b o hb e=>eb b o hb e) f0 f1 f3 Z f5⟩
 self:=λ A i s Q E st h=>F A i s Q E st h
def ch0 (tl:TE):TI:=λ W H R=>tl W H λ v H1=>∃ x,v=.str x/\R (Its x) H1
def bI9 (hl:PE X l Y):PI X tg l (ch0 Y):=by
 intro y s W H R I h;refine thn (hl y s W H _ I h) λ v s1 ⟨v0,Z,F,r1,q1⟩=>?_;obtain⟨x,e,q⟩:=q1;subst e;obtain⟨t,rfl⟩:=r1;have fin:∀ G o ,o={ cls:=.type G,data:=.fields #[.str x t,.int 0 0] }->Turn X.prog X.w X.K tg (Its x) [s1.heap.objs.size] s1.heap.objs.size (λ i h=>h.IsStrIter s1.heap.objs.size G x t i)->PIE X y W tg R (.ref s1.heap.objs.size) { s1 with heap:=s1.heap.push o }:=λ G o eo T=>by
  subst eo;refine⟨s1.heap.objs.size,[s1.heap.objs.size],_,_,Z,rfl,F.kept λ b o e=>ak _ e,T,⟨_,aM _ rfl,rfl,rfl⟩,λ b hb=>?_,q⟩;have e:=by simpa using hb
  subst e;exact F.fpOk (av _) (F.hok.fresh (av _))
 cases ha:x.cps.all (·<128)
 .exact wpAny_pyIter_wide ha (fin "str_iterator" _ rfl (aO5 _ (by decide) (λ A z=>Walks.strWide z _ x t) (λ A s i Q E z st hx J=>wpAny_pyNext_wide_end z st hx J) λ A i s Q E st h=>wpAny_pyIter_striter_wide st h))
 .exact wpAny_pyIter_ascii ha (fin "str_ascii_iterator" _ rfl (aO5 _ (by decide) (λ A z=>Walks.strAscii z _ x t) (λ A s i Q E z st hx J=>wpAny_pyNext_ascii_end z st hx J) λ A i s Q E st h=>wpAny_pyIter_striter_ascii st h))
section
variable {X:Cx} {K:ac} {T id:String} {name:Str} {o e:Expr} {es:yL} {to:TE} {t:TA} {r:V->List V->Hp->VK->Prop} {apos cpos:Pos}
def aY6 (Z:X.K=K)(Y:lj T)(slot:Slot T name id)(J:jD (.builtin id)=pure (.type "method_descriptor"))(hm:MtR X id r)(ho:PE X o to)(ha:PA X (e::es) t)
  (F:autoParam (gN o name X.env (eval o X.env)=eval o X.env) Zq4._auto_1)
  (G:autoParam (((eY cpos (bD (e::es) X.env)).all (λ x=>!x.1)&&(backToKw cpos (kL [] X.env)).all (λ x=>x.1.isSome)
   && decide ((e::es).length+([]:List iZ).length+(if([]:List iZ).isEmpty then 0 else 1)<30))=true) Zq4._auto_1)
  (z:autoParam ((apos.endLine==cpos.line)=true) Zq4._auto_1) (hs:autoParam (bD (e::es) X.env=(false,eval e X.env)::bD es X.env) Zq4._auto_1) (y:autoParam ((eY cpos (bD es X.env)).any (·.1)=false) Zq4._auto_1) :
  PE X (.Call (.Attribute o name apos) (e::es) [] cpos) (tBM K T r to t):=by
 subst Z;exact bl8 Y slot J hm ho ha F G z hs y
end
structure Mach where
 letters:Int
 rooms:Int
 begins:List Int
 ends:List Int
 doors:List (Int×Str×Int×Int)
noncomputable def cc6 (q:Int×Str×Int×Int):D:=.tp [.int q.1,.str q.2.1,.int q.2.2.1,.int q.2.2.2]
def Mach.D (M:Mach):D:=.tp [.int M.letters,.int M.rooms,.tp (M.begins.map .int),.tp (M.ends.map .int),.tp (M.doors.map cc6)]
noncomputable def ltr (i:Nat):Str:=⟨#[97+i]⟩
structure DoorOk (letters rooms:Int)(q:Int×Str×Int×Int):Prop where
 s0:0<=q.1
 s1:q.1<rooms
 l:∃ i:Nat,(i:Int)<letters/\q.2.1=ltr i
 g0:0<=q.2.2.1
 g1:q.2.2.1<rooms
 t0:0<=q.2.2.2
 t1:q.2.2.2<=3
structure RoomsOk (rooms:Int)(l:List Int):Prop where
 mem:∀ r∈l,0<=r/\r<rooms
 up:l.Pairwise (· < ·)
structure Mach.Ok (most:Nat)(M:Mach):Prop where
 l0:1<=M.letters
 l1:M.letters<=3
 r0:1<=M.rooms
 r1:M.rooms<=5
 b:RoomsOk M.rooms M.begins
 e:RoomsOk M.rooms M.ends
 d:∀ q∈M.doors,DoorOk M.letters M.rooms q
 m:M.doors.length<=most
mutual
noncomputable def D.tups:D->Bool
 | .J _=>false
 | .tp l=>D.tupsL l
 | _=>true
noncomputable def D.tupsL:List D->Bool
 | []=>true
 | d::l=>D.tups d&&D.tupsL l
end
end L2
end
noncomputable section
namespace L2
end L2
end
noncomputable section
namespace L2
open PySem PySem.Spec PyProof.Rows
noncomputable def minO:List Int->Option Int
 | []=>none
 | a::l=>some (match minO l with|none=>a|some b=>if b<a then b else a)
def aV2 {pos Z py} N' src 
  (hN:X.N.Nodup) (b3:X.N[i]?=some y) (a2:X.env.scope.names.lookup y=some .local)
  (a7:zF N' src scope X.N X.env.scope=true) (hi:PI X tg iter wi) (a1:X.calm=true)
  (a8:∀(Cc:Addr) (cells:yC) (s:af) (H:Hp) (ex:List Addr),PG (zv X N' scope Cc cells s H ex) tg g/\PIf (zv X N' scope Cc cells s H ex) Y tc/\PE (zv X N' scope Cc cells s H ex) elt te)
  (hs:autoParam (∀ x,cD iter X.env x=pure x) Zq3._auto_1)
  (b0:autoParam (eZ (.ListComp elt [⟨tg,iter,Y,0⟩] scope pos) (some (.Name y py)) Z.line X.env=pure true) Zq4._auto_1) :
  PS X (.Assign [.Name y py] (.ListComp elt [⟨tg,iter,Y,0⟩] scope pos) Z) (bj1 (tComp src wi g tc te) (aD4 i)):=by
 intro F s W H D0 I h;have ck:=bs9 a7;rw[exec_Assign_Name_used _ _ _ _ b0];refine ae (jq (ae ?_));have hcl:=aj5 λ y hy e=>I.ok.has y.1 (ck.fr y hy e);refine ae (bf (gO rfl hs hcl ck.kind ck.loc (thn (hi F s W H _ I h) λ v s1 h1=>thn h1 λ b5 s2 h2=>?_)) (λ _ s' hq=>aA (aA hq)) λ _ _ e=>e);obtain⟨it,G,tn,J,H2,e,I2,T,a4,f2,Ww⟩:=h2;subst e;have hD:=I2.fresh;obtain⟨Ww,⟨m0,w0⟩,turn⟩:=Ww _ hD;have I3:=I2.lnew (ys:=[]) (t':=s2.toks) .nil (cA _);have a3:∀ b∈G,b<s2.heap.objs.size:=λ b hb=>by obtain⟨o,q,_⟩:=T.obj _ _ a4 b hb;exact aL q
 have f3:∀ b∈G,FpOk X F (upd H2 s2.heap.objs.size (.J [])) b:=λ b hb=>⟨by rw[zu (aC (a3 b hb))];exact(f2 b hb).1,(f2 b hb).2⟩
 refine bP (aj3 ?_);generalize a0:({ s2 with heap:=s2.heap.push { cls:=.type "list",data:=.seq ([]:yH).toArray },toks:=s2.toks }:af)=s3 at I3;have b4:({ s2 with heap:=s2.heap.push { cls:=.type "list",data:=.seq ([]:yH).toArray } }:af)=s3:=a0;have a9:∀ b∈G,b<s3.heap.objs.size:=λ b hb=>by
  rw[<-a0];show b<(s2.heap.push _).objs.size;rw[cn];exact gA (a3 b hb)
 have I4:=av5 (s4:={ s3 with heap:=fi (s3.heap.push { cls:=.type "dict",data:=.dict #[] }) scope.names }) ck I3 f3 a9 ⟨_,rfl⟩;have a6:tn 0 (fi (s3.heap.push { cls:=.type "dict",data:=.dict #[] }) scope.names):=T.keep _ _ _ a4 λ b hb o e=>fJ _ _ b o (ak _ (by rw[<-a0];exact ak _ e));obtain⟨hg,hif,he⟩:=a8 s3.heap.objs.size (bz (s3.heap.objs.size+1) scope.names (ar8 X.env.cells scope.names [])) s3 (upd H2 s2.heap.objs.size (.J [])) G;have a5:∀ H':Hp,(∀ b∈G,H' b=none)->∀ b∈G,FpOk (zv X N' scope s3.heap.objs.size (bz (s3.heap.objs.size+1) scope.names (ar8 X.env.cells scope.names [])) s3 (upd H2 s2.heap.objs.size (.J [])) G) [] H' b:=λ H' hn b hb =>
  ⟨hn b hb,(I4.ok.exf b hb).1,I4.ok.exfs b hb,.inl hb,λ x c e=>(I4.ok.exf b hb).2 x c e,λ p hp=>absurd (show p∈([]:yA)from hp) (by simp)⟩
 have T':Turn X.prog X.w X.K tg J G it tn:=T;have b2:∀ b∈G,upd H2 s2.heap.objs.size (.J []) b=none:=λ b hb=>(f3 b hb).1;have L:=aF5 (X':=zv X N' scope s3.heap.objs.size (bz (s3.heap.objs.size+1) scope.names (ar8 X.env.cells scope.names [])) s3 (upd H2 s2.heap.objs.size (.J [])) G) (R:=compPost (model X.prog X.w) X.A X.xe (some (g9 (.Name y py) X.env)) (λ _ s'=>SP X F D0 .next s') (Value.ref s2.heap.objs.size) s3.heap.objs.size) (iter:=iter) (scope:=scope) (pos:=pos) (QD:=λ H'=>D0.nx (W.set i (some (.ref s2.heap.objs.size))) H') (λ _ _ z=>z.elim) a1 I4 T' a6 a5 b2 w0 turn hg hif he
  (λ W' H' s' J' q=>by
   have J2:=ay0 I3 f3 J' (jZ _ _);obtain⟨mm,hn,_⟩:=J'.loc;have nL:s3.heap.objs.size≠X.env.locals:=cK I3.lt;have nC:∀ x c,X.env.cells.lookup x=some c->c≠s3.heap.objs.size:=λ x c e=>by
    obtain⟨v,z⟩:=I3.cell x c e;exact aC z.lt
   show wpAny _ X.A (g9 (.Name y py) X.env (.ref s2.heap.objs.size)) _ _ _;refine jQ (aD2 (v:=.ref s2.heap.objs.size) J2 hN b3 (.inl a2) rfl (λ s5 I5 sb=>?_) (.inr a2));obtain⟨aa,sb,ha⟩:=sb;have na:s3.heap.objs.size≠aa:=by
    rcases ha with z|z
    .rw[z];exact nL
    .exact λ e=>nC _ _ z e.symm
   refine⟨mm,hn.sameBut sb na,λ h' b1=>⟨_,H',I5.turned (t':=s5.toks) (λ b o hb e=>(b1.2 b hb).trans e) J'.free nL (.inr I3.sz) nC λ p hp z=>?_,q⟩⟩;exact absurd (aL (I3.pin p hp).1) (by rw[z];exact bX _))
 exact ik L (T.self _ _ _ _ _ a6 L)
def cl7:V->Option Int->Option Int->Hp->VK->Prop:=λ x lo hi H Q=>∃ z,x=.str z/\z.length<=aP/\Q (.str (fK z lo hi)) H
def aF6 (p:gK v o):∃ q,v=partValue q/\q.map (·.1)=o:=by
 cases p with
 | none=>exact⟨none,rfl,rfl⟩
 | int i t=>exact⟨some (i,t),rfl,rfl⟩
def bG8 :SlR X cl7:=by
 intro Z s W H x v vl vu G J sl Q I rx hs pl pu h;obtain⟨z,rfl,hz,q⟩:=h;obtain⟨t,rfl⟩:=rx;obtain⟨l,rfl,el⟩:=aF6 pl;obtain⟨u,rfl,eu⟩:=aF6 pu;refine⟨"str",_,F.slot_str_getitem.lookup,fg s z t,?_⟩;refine wpAny_getItem_str_slice (st:=none) hs rfl ?_;unfold sliceMade;have e:slicePicked z l u none=bF G J 1 z.length:=by
  unfold slicePicked;rw[el,eu];rfl
 rw[e];unfold fK at q;split
 .rename_i hc;have y:((1:Int)==1&&(bF G J 1 z.length).length==z.length)=true:=hc;rw[if_pos y]at q;exact⟨.str z,H,I,⟨t,rfl⟩,q⟩
 .rename_i hc;have y:¬((1:Int)==1&&(bF G J 1 z.length).length==z.length)=true:=hc;rw[if_neg y]at q;have Y:=by
   show(iJ (λ x=>z.cps[x]?) (bF G J 1 z.length)).toArray.size<=aP;rw[ay];exact aq (List.length_filterMap_le _ _) (aq (sliceIndices_le G J z.length) hz)
  exact⟨Y,.str _,H,I.tok _,⟨_,rfl⟩,q⟩
section
variable {M:Model} {A:aS} {E:yB} {s₀ s:af} {m cm:yD} {env:Env} {cs:yC}
end
noncomputable def aS0 (c:Addr)(qual:Str):HO:=.ext λ h=>h.CodeRec (.ref c) qual
noncomputable def bF2 (f:Addr)(fd:bW):HO:=.ext λ h=>h.get? f=some { cls:=.type "function",data:=.func fd }
def bn9 (x:HOk P w H h)(e:H f=some (bF2 f y)):h.get? f=some { cls:=.type "function",data:=.func y }:=(x f _ e).1
noncomputable def isC (cells:yC)(b:Addr):Bool:=cells.any λ p=>cells.lookup p.1==some b
def bt8 :isC cells b=true↔∃ x,cells.lookup x=some b:=by
 unfold isC;rw[ky];constructor
 .rintro⟨p,_,e⟩;exact⟨p.1,by simpa using e⟩
 .rintro⟨x,e⟩;exact⟨(x,b),bu e,by simpa using e⟩
def ay9 (cells:yC)(H:Hp):Hp:=λ b=>if isC cells b=true then none else H b
def Put (cells:yC)(H H':Hp):Hp:=λ b=>if isC cells b=true then H b else H' b
def ay9.cell (h:isC cells b=true):ay9 cells H b=none:=if_pos h
def ay9.ne (h:isC cells b≠true):ay9 cells H b=H b:=if_neg h
def ay9.some (h:ay9 cells H b=some o):isC cells b≠true/\H b=some o:=by
 unfold ay9 at h;split at h
 .cases h
 .rename_i z;exact⟨z,h⟩
def ay9.none (h:H b=none):ay9 cells H b=none:=by
 unfold ay9;split
 .rfl
 .exact h
def Put.cell (h:isC cells b=true):Put cells H H' b=H b:=if_pos h
def Put.ne (h:isC cells b≠true):Put cells H H' b=H' b:=if_neg h
def Cells (clos:yC)(H:Hp):Prop:=∀ x c,clos.lookup x=some c->∃ o v,H c=some (.frz o (.own c))/\o.data=.cell v
def Cells.at (z:Cells y H)(h:isC y b=true):∃ o v,H b=some (.frz o (.own b))/\o.data=.cell v:=by
 obtain⟨x,e⟩:=bt8.mp h;exact z x b e
def Cap (clos:yC)(H:Hp)(fr:yI)(cap:List V):Prop:=∀(i:Nat) (x:Str) (v:V),fr[i]?=some x->cap[i]?=some v->∃ c o u,clos.lookup x=some c/\H c=some (.frz o (.own c))/\o.data=.cell (some u)/\RelV v u
def HOk.drop (x:HOk P w H h)(z:Cells F H):HOk P w (ay9 F H) h:=λ b o e=>by
 obtain⟨_,e'⟩:=ay9.some e;have G:∀ c u,H c=some u->(∀ o v,u≠.frz o v)->isC F c≠true:=λ c u q d y=>by
  obtain⟨o,v,J,_⟩:=z.at y;rw[q]at J;cases J;exact d _ _ rfl
 exact(x b o e').stay (λ _ _ _ q=>q) (λ c q=>by rw[ay9.ne (G c _ q λ _ _=>by nofun)];exact q) λ c Y q=>by rw[ay9.ne (G c _ q λ _ _=>by nofun)];exact q
def ba4 (H:Hp)(f:Addr)(qual:Str)(params:fe)(body:Expr)(scope:Scope)(fr:yI)(cap:List V)(clos:yC):Prop :=
 ∃ pm c' ctv,H f=some (bF2 f (lp "<lambda>" qual params body scope clos pm (.ref c') ctv))/\H c'=some (aS0 c' qual)/\Cells clos H /\
  (∀ x y c,clos.lookup x=some c->clos.lookup y=some c->x=y)/\(∀ x,scope.names.lookup x=some .free->∃ c,clos.lookup x=some c)/\Cap clos H fr cap
def BM (mg:yD)(base:Heap):Prop:=∃ bm ob,mg "__builtins__"=some (.ref bm)/\bm≠g8/\base.get? bm=some ob/\ob.cls=.type "module"/\ob.dict=some g8/\ob.data=.plain
structure Caught (cl:yC)(N:yI)(kd:Str->Option cz)(W:St)(H1 H2:Hp):Prop where
 ne:∀ b,isC cl b≠true->H2 b=H1 b
 free:∀ b,isC cl b=true->H1 b=none
 cells:Cells cl H2
 cap:∀(i:Nat) (x:Str) (v:V) (c:Addr),N[i]?=some x->W[i]?=some (some v)->(kd x=some .cell\/kd x=some .free)->cl.lookup x=some c->∃ o u,H2 c=some (.frz o (.own c))/\o.data=.cell (some u)/\RelV v u
 inj:∀ x y c,cl.lookup x=some c->cl.lookup y=some c->x=y
def bY2 (K:ac)(H:Hp)(f:Addr):Prop:=(∃ fd,H f=some (bF2 f fd))\/∃ oc od fd sl,K.lookup f=some ⟨oc,od,.func fd,sl⟩
def bY2.at {W:St}(h:bY2 X.K H f)(I:Inv X y W H s):PySem.W.FnAt f s.heap:=by
 rcases h with⟨z,h⟩|⟨oc,od,z,sl,h⟩
 .exact⟨_,_,_,_,bn9 I.hok h⟩
 .exact⟨_,_,_,_,I.kIn _ _ h⟩
noncomputable def aC5 (K:ac)(names:yI):List (Str×Addr×Addr):=names.filterMap λ x=>(bB K x).map λ p=>(x,p)
def at4 {K}:y∈aC5 K names↔y.1∈names/\bB K y.1=some y.2:=by
 unfold aC5;rw[ed];constructor
 .rintro⟨x,hx,e⟩
  obtain⟨p,hp,rfl⟩:=dh.mp e;exact⟨hx,hp⟩
 .rintro⟨hx,e⟩
  exact⟨y.1,hx,by rw[e];rfl⟩
def bA5 (K:ac)(names:yI)(base:Heap):Prop:=∀ x∈names,∀ c P,bB K x=some (c,P)->cq base c P
def bD2 (K:ac)(names:yI)(H:Hp):Prop:=∀ x∈names,∀ c P,bB K x=some (c,P)->H P=some (.tbl #[])
noncomputable def bR8 (K:ac)(names:yI)(ts:List Addr):Bool:=names.all λ x=>match bB K x with
 | some (c,P)=>kz K c P&&ts.contains P
 | none=>true
def aO9 {K}(h:(bB K x).isSome=true):bB K x=some (((bB K x).getD (0,0)).1,((bB K x).getD (0,0)).2):=by
 obtain⟨p,e⟩:=gJ.mp h;rw[e];rfl
def bK8 (H:Hp)(P:Addr)(q:Str):Prop:=∃ ps:Array Value,H P=some (.tbl ps)/\TriplesOk ps.toList/\∀ pos cv,codeAmong pos ps.toList=some cv->∃ c',cv=.ref c'/\H c'=some (aS0 c' q)
def TabsH (T:List (Addr×Str))(H:Hp):Prop:=∀ y∈T,bK8 H y.1 y.2
def bH4 (H H':Hp):Prop:=∀ b o,(∀ ps,o≠.tbl ps)->H b=some o->H' b=some o
def bH4.of (a:af2 H y):bH4 H y:=λ c o _ h=>a c o h
def TabsH.keep (h:TabsH T H)(k:∀ b o,(∀ F,o≠.J F)->H b=some o->H' b=some o):TabsH T H':=λ y hy=>by
 obtain⟨ps,e,t,c⟩:=h y hy;refine⟨ps,k _ _ (λ _=>by nofun) e,t,λ pos z q=>?_⟩;obtain⟨G,e1,e2⟩:=c pos z q;exact⟨G,e1,k _ _ (λ _=>by unfold aS0;nofun) e2⟩
def TabsH.same (h:TabsH T H)(s:af2 H H'):TabsH T H':=h.keep λ b o _ e=>s b o e
theorem TabsH.new (h:TabsH T H)(n:H a=none):TabsH T (upd H a o):=h.same ((af2.refl H).new n)
def TabsH.put (h:TabsH T H)(n:H a=some (.J y)):TabsH T (upd H a o):=h.keep λ b u d e=>by
 rw[zu λ z=>by subst z;rw[n]at e;cases e;exact d _ rfl];exact e
def TabsH.init (h:∀ p∈T.map (·.1),H p=some (.tbl #[])):TabsH T H:=λ y hy =>
 ⟨#[],h _ (cJ hy),trivial,λ pos z e=>by simp[codeAmong]at e⟩
def Caught.same {cells}(y:Caught cells N kd W F G):af2 F G:=λ b o e=>by
 rw[y.ne b λ z=>by rw[y.free b z]at e;cases e];exact e
def aV6 {K}(hc:X.calm=true)(hK:X.K=K):ae3 X (.builtin "min") (λ xs H Q=>∃ a ns,xs=[.ref a]/\SqL K H a (ns.map V.int)/\ns≠[]/\∀ m∈ns,(∀ y∈ns,m<=y)->Q (.int m) H):=by
 subst hK;intro a0 s W H xs us Q I r h;obtain⟨a,ns,rfl,hS,Y,q⟩:=h;obtain⟨u,rfl,ru⟩:=ai2 r;cases ru;obtain⟨its,rv,Z,hz⟩:=I.list hS;have hl:=rv.length;rw[ao]at hl;have a1:=da.mpr Y;refine call_min_walk (eG Z.isList ?_);have G:a<s.heap.objs.size:=by obtain⟨o,_,e,_⟩:=Z;exact aL e
 have Ww:=l8 (prog:=X.prog) (w:=X.w) (A:=X.A.in1) (I.ok.hd hc) s.heap.objs.size a (aC G) its.toArray
 let val:=λ i=>ns.getD i 0
 have F:∀ i v,its.toArray[i]?=some v->∃ t,v=Value.int (val i) t:=λ i v e=>by
  obtain⟨z,t,e1,e2⟩:=bb9 rv (by rw[eT]at e;exact e);refine⟨t,?_⟩;rw[e2];show Value.int z t=Value.int (ns.getD i 0) t;rw[bq,e1];rfl
 refine⟨_,_,_,_,_,_,_,rfl,Ww,⟨⟨_,aM _ rfl,rfl,rfl⟩,?_⟩,λ b hb=>?_,by rw[ay];lia,CmpOf.ints_lt val F,λ v h' tk hP k=>?_⟩
 .obtain⟨o,e,r⟩:=Z.isList;exact⟨o,ak _ e,r⟩
 .skip
  rw[cn];rcases aw.mp hb with z|z
  .rw[z];exact dM _
  .have J:=by simpa using z
   rw[J];exact gA G
 .obtain⟨z,t,e1,e2⟩:=bb9 rv (by rw[eT]at hP;exact hP);subst e2;have hv:val (k8 (λ i j=>decide (val i<val j)) (its.toArray.size - 1))=z:=by
   show ns.getD _ 0=z;rw[bq,e1];rfl
  refine⟨.int z,H,I.kept λ b o q=>k b o ?_ (ak _ q),⟨t,rfl⟩,q z (aG e1) λ y hy=>?_⟩
  .intro z;have J:=by simpa using z
   exact absurd (aL q) (by rw[J];exact bX _)
  .obtain⟨j,hj,e3⟩:=dJ.mp hy;have:=ao4 val (its.toArray.size - 1) j (by simp only[ay];lia);rw[hv]at this;have e4:val j=y:=by
    show ns.getD j 0=y;rw[bq,aj hj];exact e3
   lia
noncomputable def mx (a b:Int):Int:=if b > a then b else a
section
variable {X:Cx}
end
def mx3 (a b c:Int):Int:=mx (mx a b) c
noncomputable def rnd (x:Int):Int:=if x=0\/x=3 then x else 2
def sharp (n:Nat)(s:Nat->Nat->Int)(i j:Nat):Int:=(minO ((bE n).map λ k=>mx3 (s i k) (rnd (s k k)) (s k j))).getD 3
section
variable {n:Nat} {s:Nat->Nat->Int}
end
def aG3 (H:Hp)(f:Addr)(name qual:Str)(params:fe)(body:yM)(scope:Scope)(fr:yI)(cap:List V)(clos:yC):Prop :=
 ∃ doc pm c' ctv,H f=some (bF2 f (lY name qual params body scope clos .none .none doc pm none (.ref c') ctv))/\H c'=some (aS0 c' qual)/\Cells clos H /\
  (∀ x y c,clos.lookup x=some c->clos.lookup y=some c->x=y)/\(∀ x,scope.names.lookup x=some .free->∃ c,clos.lookup x=some c)/\Cap clos H fr cap
def aG3.fn {K}(h:aG3 H f name qual params body scope fr cap y):bY2 K H f:=by
 obtain⟨z,J,Y,G,F,_⟩:=h;exact .inl ⟨_,F⟩
end L2
end
noncomputable section
namespace L2
open PySem PySem.Spec PyProof.Rows Builtin
section
variable {P:aJ} {w:World} {A:aS} {E:yB} {s:af}
def aH6 {l:yK}{Q:yB}(y:s.heap.IsTupleIter it t i)(F:s.heap.IsTuple t l)(hv:l[i]?=some v)
  (k:∀ h',h'.IsTupleIter it t (i+1)->bN it s.heap h'->Q v { s with heap:=h' }):wpAny (model P w) A (bj (.ref it)) Q E s:=by
 obtain⟨o,e1,e2,e3⟩:=id y;obtain⟨p,p1,_,n,G⟩:=F;unfold bj;refine ae (cf y.typeIs cQ (cw cQ y.typeIs fX ?_ (fL _)));show wpAny _ _ (field (.ref it) 0 >>= _) _ _ _;refine ae (bG e1 e3 rfl ?_);rw[if_neg (λ z=>nomatch z)];refine ae (bG e1 e3 rfl ?_);refine ae (cR p1 G ?_);simp only[cr,hv];refine ae (iK e1 e3 (by simp) (aA ⟨v,rfl,aA (k _ ⟨_,eS _ e1 (Obj.isFreed_of_fields (jH e3 _)),(Obj.cls_mapFields ..).trans e2,by rw[jH e3];simp[kj]⟩ (jk ..))⟩))
def aS8 {l:yK}{Q:yB}(hh:A.handled=none)(y:s.heap.IsTupleIter it t i)(F:s.heap.IsTuple t l)(hv:l[i]?=none)
  (k:∀ h' e,gB it s.heap h'->(∃ o,h'.get? e=some o/\o.cls=.type "StopIteration")->E (.ref e) { s with heap:=h' }):wpAny (model P w) A (bj (.ref it)) Q E s:=by
 obtain⟨o,e1,e2,e3⟩:=id y;obtain⟨p,p1,_,n,G⟩:=F;unfold bj;refine ae (cf y.typeIs cQ (cw cQ y.typeIs fX ?_ (fL _)));show wpAny _ _ (field (.ref it) 0 >>= _) _ _ _;refine ae (bG e1 e3 rfl ?_);rw[if_neg (λ z=>nomatch z)];refine ae (bG e1 e3 rfl ?_);refine ae (cR p1 G ?_);simp only[cr,hv];refine ae (il (ae (iK e1 e3 (by simp) ?_)));refine ae ?_;simp only[newExc];refine ae (bP ?_ (by size_fits));refine ae (wpAny_of_eq (by first|rfl|(simp only[];rfl)) (bP ?_ (by size_fits)));simp only[];refine ae (wpAny_handled ?_)
 first|rw[hh]|rw[hh]
 exact ae (aA (wpAny_throw (k _ _ (((jk ..).extBut.push _).push _) ⟨_,aM _ rfl,rfl⟩)))
end
structure Dw (P:aJ)(w:World)(K:ac)(J:It)(it:Addr)(tn:Nat->Heap->Prop):Prop where
 obj:∀ i h,tn i h->∃ o,h.get? it=some o/\∀ v,o.data≠.cell v
 keep:∀ i h h',tn i h->(∀ o,h.get? it=some o->h'.get? it=some o)->tn i h'
 item:∀(X:Cx),X.prog=P->X.w=w->X.K=K->∀(A:aS) (i:Nat) (pins:yA) (s:af) (W:St) (H:Hp) (Q:yB) (E:yB),Inv X pins W H s->tn i s.heap->J.go i H ->
  (∀ x u h' tk,RelV x u->J.yld i H x H->tn (i+1) h'->bN it s.heap h'->Q u { s with heap:=h',toks:=tk })->wpAny (model P w) A (bj (.ref it)) Q E s
 done:∀(X:Cx),X.prog=P->X.w=w->X.K=K->∀(A:aS) (i:Nat) (pins:yA) (s:af) (W:St) (H:Hp) (Q:yB) (E:yB),A.handled=none->Inv X pins W H s->tn i s.heap->J.stop i H ->
  (∀ h' e,gB it s.heap h'->(∃ o,h'.get? e=some o/\o.cls=.type "StopIteration")->E (.ref e) { s with heap:=h' })->wpAny (model P w) A (bj (.ref it)) Q E s
def bC0 {K} a it :Dw P w K (Itl K a) it (λ i h=>h.IsListIter it a i) where
 obj:=λ i h st=>by
  obtain⟨o,e,c,d⟩:=st;exact⟨o,e,λ v z=>by rw[d]at z;cases z⟩
 keep:=λ i h h' st k=>st.at k
 item:=by
  intro X J hw G A i y s W H Q E I st hg k;subst J hw G;obtain⟨Z,x,hq,hx⟩:=hg;obtain⟨its,Y,p,hz⟩:=I.list hq;obtain⟨u,hu,ru⟩:=Y.get hx;exact wpAny_nextOf_list_item st p.isList (by simpa using hu) λ h' F sb=>k x u h' s.toks ru ⟨rfl,λ ys hy=>by rw[I.list_inj hy hq];exact hx⟩ F sb
 done:=by
  intro X J hw G A i y s W H Q E hA I st hg k;subst J hw G;obtain⟨Z,hq,hx⟩:=hg;obtain⟨its,Y,p,hz⟩:=I.list hq;have hl:=Y.length;exact wpAny_nextOf_list_end hA st p.isList (by simp;omega) k
def bJ7 {K} a it :Dw P w K (Itt K a) it (λ i h=>h.IsTupleIter it a i) where
 obj:=λ i h st=>by
  obtain⟨o,e,c,d⟩:=st;exact⟨o,e,λ v z=>by rw[d]at z;cases z⟩
 keep:=λ i h h' st k=>st.at k
 item:=by
  intro X J hw G A i y s W H Q E I st hg k;subst J hw G;obtain⟨Z,x,hq,hx⟩:=hg;obtain⟨its,Y,p,hz⟩:=I.tuple hq;obtain⟨u,hu,ru⟩:=Y.get hx;exact aH6 st (p) (by simpa using hu) λ h' F sb=>k x u h' s.toks ru ⟨rfl,λ ys hy=>by rw[I.tuple_inj hy hq];exact hx⟩ F sb
 done:=by
  intro X J hw G A i y s W H Q E hA I st hg k;subst J hw G;obtain⟨Z,hq,hx⟩:=hg;obtain⟨its,Y,p,hz⟩:=I.tuple hq;have hl:=Y.length;exact aS8 hA st (p) (by simp;omega) k
def bM9 {K} x t it :Dw P w K (Its x) it (λ i h=>h.IsStrIter it (iL x) x t i) where
 obj:=λ i h st=>by
  obtain⟨o,e,c,d⟩:=st;exact⟨o,e,λ v z=>by rw[d]at z;cases z⟩
 keep:=λ i h h' st k=>by
  obtain⟨o,ho,r⟩:=st;exact⟨o,k _ ho,r⟩
 item:=by
  intro X Z hw Y A i G s W H Q E I st hg k;subst Z hw Y;have y:i<x.cps.size:=hg;have hc:x.cps[i]?=some x.cps[i]:=by simp[]
  unfold iL at st k;cases ha:x.cps.all (·<128)
  .rw[ha]at st k;exact wpAny_nextOf_wide_item st hc λ h' F J=>k (.str ⟨#[x.cps[i]]⟩) _ h' (s.toks+1) ⟨_,rfl⟩ ⟨rfl,_,hc,rfl⟩ F J
  .rw[ha]at st k;exact wpAny_nextOf_ascii_item st hc λ h' F J=>k (.str ⟨#[x.cps[i]]⟩) _ h' (s.toks+1) ⟨_,rfl⟩ ⟨rfl,_,hc,rfl⟩ F J
 done:=by
  intro X Z hw Y A i G s W H Q E hA I st hg k;subst Z hw Y;have y:x.cps.size<=i:=hg;have hc:x.cps[i]?=none:=by simp[y]
  unfold iL at st;cases ha:x.cps.all (·<128)
  .rw[ha]at st;exact wpAny_nextOf_wide_end hA st hc k
  .rw[ha]at st;exact wpAny_nextOf_ascii_end hA st hc k
def Inv.turnedL {W:St}{G:List Addr}(I:Inv X y W H s)(f:∀ b∈G,FpOk X y H b)(k:∀ b o,b ∉ G->s.heap.get? b=some o->h'.get? b=some o):Inv X y W H { s with heap:=h',toks:=t' }:=by
 have F:∀ b u,H b=some u->b ∉ G:=λ b u e z=>by rw[(f b z).1]at e;cases e
 refine I.step (λ b hb=>?_) (λ b o _ _ hc e _=>k b o hc e) (λ b o _ _ hc e _=>⟨o.slots,k b o hc e⟩) (λ _ _ _ _ n=>n)
  (λ b o hc e=>⟨o,k b o hc e⟩) (λ _ _ e=>e) (λ _ _ _ e=>e) (λ b ps e=>⟨#[],by rw[e];simp⟩) (λ m hm=>?_) (λ b u e=>?_) I.bare
 .obtain⟨f0,Y,f2,f3,J,f5⟩:=f b hb;exact⟨f3,Y,J,f5⟩
 .obtain⟨o,es,Z,ho,r⟩:=hm;exact⟨o,es,Z,k _ o (λ z=>(f _ z).2.1 rfl) ho,r⟩
 .refine(I.hok b u e).stay (λ c v hc q=>k c v ?_ q) (λ _ q=>q) λ _ _ q=>q;rcases hc with z|z
  .rw[z];exact F b u e
  .exact F c _ z
structure Ap (z ti to i1 i2:Addr):Prop where
 a1:ti≠z
 a2:to≠z
 a3:i1≠z
 a4:i2≠z
 a5:ti≠to
 a6:ti≠i1
 a7:ti≠i2
 a8:to≠i1
 a9:to≠i2
 b1:i1≠i2
section
variable {X:Cx} {pins:yA} {W:St} {H:Hp} {s:af} {A:aS} {E:yB} {J1 J2:It} {t1 t2:Nat->Heap->Prop} {z ti to i1 i2:Addr} {n:Nat} {a b:Value}
def bg2 {Q:yB}(D1:Dw X.prog X.w X.K J1 i1 t1)(D2:Dw X.prog X.w X.K J2 i2 t2)(D:Ap z ti to i1 i2)(I:Inv X pins W H s)(f:∀ b∈[z,ti,to,i1,i2],FpOk X pins H b)
  (hz:IsZip s.heap z ti to .none) (hI:eg s.heap ti (.ref i1) (.ref i2)) (hO:eg s.heap to a b) (h1:t1 n s.heap) (h2:t2 n s.heap) (g1:J1.go n H) (g2:J2.go n H)
  (k:∀ x y u v h' tk,RelV x u->RelV y v->J1.yld n H x H->J2.yld n H y H->IsZip h' z ti to (kj s.heap.objs.size)->eg h' to u v->t1 (n+1) h'->t2 (n+1) h'->eg h' s.heap.objs.size u v ->
   (∀ c o,c≠z->c≠to->c≠i1->c≠i2->s.heap.get? c=some o->h'.get? c=some o)->Q (.ref s.heap.objs.size) { s with heap:=h',toks:=tk }) :
  wpAny (model X.prog X.w) A (lO.«zip.__next__» ⟨[.ref z],[]⟩) (λ fin s'=>∃ v,fin=.done (.ret v)/\Q v s') E s:=by
 show wpAny _ _ (field (.ref z) 2 >>= _) _ _ (_:af);refine ae (bG hz rfl (x:=.bool false) rfl ?_);show wpAny _ _ (field (.ref z) 3 >>= _) _ _ (_:af);refine ae (bG hz rfl (x:=.ref ti) rfl ?_);refine ae (cR hI rfl ?_);show wpAny _ _ (b7 (.ref z) >>= _) _ _ (_:af);refine ae ?_;unfold b7;refine ae (bG hz rfl (x:=.none) rfl (aA ?_));simp only[if_true];refine ae (il (ae (bG hz rfl (x:=.ref to) rfl ?_)));refine ae (cS hz (by simp) λ p1 z1 F=>?_)
 replace z1:IsZip p1 z ti to .ellipsis:=z1
 have q1:Inv X pins W H { s with heap:=p1,toks:=s.toks }:=I.turnedL f λ c o hc e=>F.extBut _ _ (λ y=>hc (by simp[y])) e;refine ae ?_;simp only[kA,kQ,ir,gi];refine ae (ae (fo ?_));show wpAny _ _ (bj (.ref i1) >>= _) _ _ (_:af);refine ae (D1.item X rfl rfl rfl _ n pins { s with heap:=p1 } W H _ _ q1 (D1.keep _ _ _ h1 λ o e=>F.extBut _ _ D.a3 e) g1 λ x u p2 Z rx yx a0 s2=>aA ?_)
 replace s2:bN i1 p1 p2:=s2
 have o2:eg p2 to a b:=s2.extBut _ _ D.a8 (F.extBut _ _ D.a2 hO);refine ae (cR o2 rfl ?_);refine ae (ft o2 λ p3 o3 s3=>?_)
 replace o3:eg p3 to u b:=o3
 replace s3:bN to p2 p3:=s3
 refine ae (kM (aA ?_));have q3:Inv X pins W H { s with heap:=p3,toks:=Z }:=I.turnedL f λ c o hc e=>s3.extBut _ _ (λ y=>hc (by simp[y])) (s2.extBut _ _ (λ y=>hc (by simp[y])) (F.extBut _ _ (λ y=>hc (by simp[y])) e));refine ae (ae (fo ?_));show wpAny _ _ (bj (.ref i2) >>= _) _ _ (_:af);refine ae (D2.item X rfl rfl rfl _ n pins { s with heap:=p3,toks:=Z } W H _ _ q3 (D2.keep _ _ _ h2 λ o e=>s3.extBut _ _ D.a9.symm (s2.extBut _ _ D.b1.symm (F.extBut _ _ D.a4 e))) g2 λ y v p4 a6 ry yy a1 s4=>aA ?_)
 replace s4:bN i2 p3 p4:=s4
 have o4:eg p4 to u b:=s4.extBut _ _ D.a9 o3;refine ae (cR o4 rfl ?_);refine ae (ft o4 λ p5 o5 s5=>?_)
 replace o5:eg p5 to u v:=o5
 replace s5:bN to p4 p5:=s5
 refine ae (kM (aA (aA ?_)));refine ae (cR o5 rfl ?_);refine ae (wpAny_newTuple ?_);have Y:p5.objs.size=s.heap.objs.size:=by rw[s5.1,s4.1,s3.1,s2.1,F.1]
 have z5:IsZip p5 z ti to .ellipsis:=s5.extBut _ _ D.a2.symm (s4.extBut _ _ D.a4.symm (s3.extBut _ _ D.a2.symm (s2.extBut _ _ D.a3.symm z1)));have k5:∀ c o,c≠z->c≠to->c≠i1->c≠i2->s.heap.get? c=some o->p5.get? c=some o:=λ c o G c2 c3 c4 e =>
  s5.extBut _ _ c2 (s4.extBut _ _ c4 (s3.extBut _ _ c2 (s2.extBut _ _ c3 (F.extBut _ _ G e))))
 have a7:t1 (n+1) p5:=D1.keep _ _ _ a0 λ o e=>s5.extBut _ _ D.a8.symm (s4.extBut _ _ D.b1 (s3.extBut _ _ D.a8.symm e));have a5:t2 (n+1) p5:=D2.keep _ _ _ a1 λ o e=>s5.extBut _ _ D.a9.symm e;have J:z<p5.objs.size:=aL z5;show wpAny _ _ (dU (.ref z) (.ref p5.objs.size) >>= _) _ _ (_:af);refine ae ?_;unfold dU;have z6:IsZip (p5.push { cls:=.type "tuple",data:=.seq #[u,v] }) z ti to .ellipsis:=ak _ z5;refine ae (cS z6 (by simp) λ p7 z7 s7=>?_)
 replace z7:IsZip p7 z ti to (kj p5.objs.size):=z7
 refine cS z7 (by simp) λ p8 z8 s8=>?_
 replace z8:IsZip p8 z ti to (kj p5.objs.size):=z8
 have up:∀ c o,c≠z->p5.get? c=some o->p8.get? c=some o:=λ c o G e=>s8.extBut _ _ G (s7.extBut _ _ G (ak _ e));have T8:eg p8 p5.objs.size u v:=s8.extBut _ _ (cK J) (s7.extBut _ _ (cK J) (aM _ rfl));rw[Y]at z8 T8;refine aA ⟨_,rfl,?_⟩;show Q (.ref p5.objs.size) _;rw[Y];exact k x y u v p8 a6 rx ry yx yy z8 (up _ _ D.a2 o5) (D1.keep _ _ _ a7 λ o e=>up _ o D.a3 e) (D2.keep _ _ _ a5 λ o e=>up _ o D.a4 e) T8 λ c o G c2 c3 c4 e=>up c o G (k5 c o G c2 c3 c4 e)
def bl3 (hA:A.handled=none)(D1:Dw X.prog X.w X.K J1 i1 t1)(D2:Dw X.prog X.w X.K J2 i2 t2)(D:Ap z ti to i1 i2)(I:Inv X pins W H s)(f:∀ b∈[z,ti,to,i1,i2],FpOk X pins H b)
  (hz:IsZip s.heap z ti to .none) (hI:eg s.heap ti (.ref i1) (.ref i2)) (hO:eg s.heap to a b) (h1:t1 n s.heap) (h2:t2 n s.heap) (g:J1.stop n H\/J1.go n H/\J2.stop n H)
  (k:∀ h' tk e,(∀ c o,c≠z->c≠to->c≠i1->c≠i2->s.heap.get? c=some o->h'.get? c=some o)->(∃ o,h'.get? e=some o/\o.cls=.type "StopIteration")->E (.ref e) { s with heap:=h',toks:=tk }) :
  wpAny (model X.prog X.w) A (lO.«zip.__next__» ⟨[.ref z],[]⟩) Q E s:=by
 show wpAny _ _ (field (.ref z) 2 >>= _) _ _ (_:af);refine ae (bG hz rfl (x:=.bool false) rfl ?_);show wpAny _ _ (field (.ref z) 3 >>= _) _ _ (_:af);refine ae (bG hz rfl (x:=.ref ti) rfl ?_);refine ae (cR hI rfl ?_);show wpAny _ _ (b7 (.ref z) >>= _) _ _ (_:af);refine ae ?_;unfold b7;refine ae (bG hz rfl (x:=.none) rfl (aA ?_));simp only[if_true];refine ae (il (ae (bG hz rfl (x:=.ref to) rfl ?_)));refine ae (cS hz (by simp) λ p1 z1 F=>?_)
 replace z1:IsZip p1 z ti to .ellipsis:=z1
 have q1:Inv X pins W H { s with heap:=p1,toks:=s.toks }:=I.turnedL f λ c o hc e=>F.extBut _ _ (λ y=>hc (by simp[y])) e;refine ae ?_;simp only[kA,kQ,ir,gi];refine ae (ae (fo ?_));show wpAny _ _ (bj (.ref i1) >>= _) _ _ (_:af);have Y:=D1.keep _ _ p1 h1 λ o e=>F.extBut _ _ D.a3 e;rcases g with g|⟨g,g2⟩
 .refine ae (D1.done X rfl rfl rfl _ n pins { s with heap:=p1 } W H _ _ hA q1 Y g λ J e s2 he=>?_);obtain⟨oe,e1,e2⟩:=he
  replace s2:gB i1 p1 J:=s2
  have z2:IsZip J z ti to .ellipsis:=s2 _ _ D.a3.symm z1;have ez:e≠z:=λ x=>by subst x;rw[z2]at e1;cases e1;simp at e2
  exact cS z2 (by simp) λ p3 _ s3=>k p3 s.toks e (λ c o Z _ c3 _ x=>s3.extBut _ _ Z (s2 _ _ c3 (F.extBut _ _ Z x))) ⟨oe,s3.extBut _ _ ez e1,e2⟩
 .refine ae (D1.item X rfl rfl rfl _ n pins { s with heap:=p1 } W H _ _ q1 Y g λ x u J G rx yx a0 s2=>aA ?_)
  replace s2:bN i1 p1 J:=s2
  have o2:eg J to a b:=s2.extBut _ _ D.a8 (F.extBut _ _ D.a2 hO);refine ae (cR o2 rfl ?_);refine ae (ft o2 λ p3 o3 s3=>?_)
  replace s3:bN to J p3:=s3
  refine ae (kM (aA ?_));have q3:Inv X pins W H { s with heap:=p3,toks:=G }:=I.turnedL f λ c o hc e=>s3.extBut _ _ (λ y=>hc (by simp[y])) (s2.extBut _ _ (λ y=>hc (by simp[y])) (F.extBut _ _ (λ y=>hc (by simp[y])) e));refine ae (ae (fo ?_));show wpAny _ _ (bj (.ref i2) >>= _) _ _ (_:af);refine ae (D2.done X rfl rfl rfl _ n pins { s with heap:=p3,toks:=G } W H _ _ hA q3 (D2.keep _ _ _ h2 λ o e=>s3.extBut _ _ D.a9.symm (s2.extBut _ _ D.b1.symm (F.extBut _ _ D.a4 e))) g2 λ p4 e s4 he=>?_);obtain⟨oe,e1,e2⟩:=he
  replace s4:gB i2 p3 p4:=s4
  have z4:IsZip p4 z ti to .ellipsis:=s4 _ _ D.a4.symm (s3.extBut _ _ D.a2.symm (s2.extBut _ _ D.a3.symm z1));have ez:e≠z:=λ x=>by subst x;rw[z4]at e1;cases e1;simp at e2
  exact cS z4 (by simp) λ p5 _ s5=>k p5 G e (λ c o Z c2 c3 c4 x=>s5.extBut _ _ Z (s4 _ _ c4 (s3.extBut _ _ c2 (s2.extBut _ _ c3 (F.extBut _ _ Z x))))) ⟨oe,s5.extBut _ _ ez e1,e2⟩
end
def Jz (J1 J2:It):It:=⟨λ i H=>J1.go i H/\J2.go i H,
 λ i H x H'=>∃ a x1 x2,J1.yld i H x1 H/\J2.yld i H x2 H/\H a=none/\x=.ref a/\H'=upd H a (.tp [x1,x2]),λ i H=>J1.stop i H\/J1.go i H/\J2.stop i H⟩
def bj7 {K:ac}{elts:yL}(D1:Dw P w K J1 i1 t1)(D2:Dw P w K J2 i2 t2)(D:Ap z ti to i1 i2) :
  Turn P w K (.Tuple elts ek epos) (Jz J1 J2) [z,ti,to,i1,i2] z (λ i h=>IsZip h z ti to .none/\eg h ti (.ref i1) (.ref i2)/\(∃ a b,eg h to a b)/\t1 i h/\t2 i h) where
 mem:=by simp
 obj:=λ i h st b hb=>by
  obtain⟨hz,J,⟨a,c,Z⟩,h1,Y⟩:=st;simp only[aw,aR,or_false]at hb;rcases hb with rfl|rfl|rfl|rfl|rfl
  .exact⟨_,hz,λ v y=>by cases y⟩
  .exact⟨_,J,λ v y=>by cases y⟩
  .exact⟨_,Z,λ v y=>by cases y⟩
  .exact D1.obj _ _ h1
  .exact D2.obj _ _ Y
 keep:=λ i h h' st k=>by
  obtain⟨hz,J,⟨a,c,Z⟩,h1,Y⟩:=st;exact⟨k _ (by simp) _ hz,k _ (by simp) _ J,⟨a,c,k _ (by simp) _ Z⟩,D1.keep _ _ _ h1 λ o e=>k _ (by simp) o e,D2.keep _ _ _ Y λ o e=>k _ (by simp) o e⟩
 item:=by
  intro X hP hw hK hc i G s W H E I hf st hg;subst hP hw hK;obtain⟨hz,J,⟨a,c,Z⟩,h1,Y⟩:=st;have hT:s.TypeIs (.ref z) "zip":=⟨_,hz,rfl⟩
  unfold lh;refine ae (gP (cf (name:=bp "__next__") hT fM (cw fM hT kB
   (bg2 D1 D2 D I hf hz J Z h1 Y hg.1 hg.2 λ x y u v h' tk rx ry yx yy z' o' b0 b1 T' kk=>aA ?_) (j7 _))))
  refine⟨_,rfl,wpAny_letOwnedTupleGo_zip (s:={ s with heap:=h',toks:=tk }) z' λ a0 a9 F=>?_⟩
  replace F:bN z h' a0:=F
  have lt:∀ {c o},s.heap.get? c=some o->s.heap.objs.size≠c:=λ e=>cK (aL e);obtain⟨o1,e1,_⟩:=D1.obj _ _ h1;obtain⟨o2,e2,_⟩:=D2.obj _ _ Y;have Tz:=lt hz;have I1:Inv X G W (upd H s.heap.objs.size (.tp [x,y])) { s with heap:=s.heap.push { cls:=.type "tuple",data:=.seq #[u,v] },toks:=tk } :=
   I.laid (λ b u e=>ak _ e) (av _) ⟨by simp[aP],[u,v],.cons rx (.cons ry .nil),_,aM _ rfl,rfl,_,rfl⟩
  have a8:∀ b∈[z,ti,to,i1,i2],FpOk X G (upd H s.heap.objs.size (.tp [x,y])) b:=λ b hb=>by
   have q:=hf b hb;refine⟨?_,q.2⟩;unfold upd;rw[if_neg ?_]
   .exact q.1
   .simp only[aw,aR,or_false]at hb;rcases hb with rfl|rfl|rfl|rfl|rfl
    .exact(lt hz).symm
    .exact(lt J).symm
    .exact(lt Z).symm
    .exact(lt e1).symm
    .exact(lt e2).symm
  have I2:Inv X G W (upd H s.heap.objs.size (.tp [x,y])) { s with heap:=a0,toks:=tk }:=by
   refine I1.turnedL (s:={ s with heap:=s.heap.push { cls:=.type "tuple",data:=.seq #[u,v] },toks:=tk }) a8 λ b o hb e=>?_;simp only[aw,aR,or_false,not_or]at hb;refine F.extBut _ _ hb.1 ?_;by_cases hbT:b=s.heap.objs.size
   .subst hbT;have:=aM s.heap (o:={ cls:=.type "tuple",data:=.seq #[u,v] }) rfl;rw[show(s.heap.push { cls:=.type "tuple",data:=.seq #[u,v] }).get? s.heap.objs.size=some o from e]at this;cases this;exact T'
   .exact kk b o hb.1 hb.2.2.1 hb.2.2.2.1 hb.2.2.2.2 (by
     have e':(s.heap.push { cls:=.type "tuple",data:=.seq #[u,v] }).get? b=some o:=e;rw[Heap.get?_push_ne _ _ _ hbT]at e';exact e')
  exact⟨.ref s.heap.objs.size,_,I2,rfl,⟨_,x,y,yx,yy,I.hok.fresh (av _),rfl,rfl⟩,⟨a9,F.extBut _ _ D.a1 (kk _ _ D.a1 D.a5 D.a6 D.a7 J),⟨_,_,F.extBut _ _ D.a2 o'⟩,
   D1.keep _ _ _ b0 λ o e=>F.extBut _ _ D.a3 e,D2.keep _ _ _ b1 λ o e=>F.extBut _ _ D.a4 e⟩,λ b hb=>(a8 b hb).1⟩
 done:=by
  intro X hP hw hK hc i G s W H E I hf st hg;subst hP hw hK;obtain⟨hz,J,⟨a,c,Z⟩,h1,Y⟩:=st;have hT:s.TypeIs (.ref z) "zip":=⟨_,hz,rfl⟩
  unfold lh;refine ae (gP (cf (name:=bp "__next__") hT fM (cw fM hT kB
   (bl3 (I.ok.hd hc) D1 D2 D I hf hz J Z h1 Y hg λ h' tk e kk he=>?_) (j7 _))))
  obtain⟨o,ho,hcl⟩:=he;refine ae (wpAny_isInstance (T := "StopIteration") (b:=true) ⟨o,ho,hcl⟩ isSubtype_stop ?_);exact aA ⟨rfl,I.turnedL hf λ b o hb e=>by
   simp only[aw,aR,or_false,not_or]at hb;exact kk b o hb.1 hb.2.2.1 hb.2.2.2.1 hb.2.2.2.2 e⟩
 self:=λ A i s Q E st h=>kC st.1 h
def Mkr (v:Value)(o:Obj)(h:Heap):Prop:=∀ P w A (E:yB) s (Q:yB),(∀ b u,h.get? b=some u->s.heap.get? b=some u) ->
 Q (.ref s.heap.objs.size) { s with heap:=s.heap.push o }->wpAny (model P w) A (ki v) Q E s
noncomputable abbrev zH2 (h:Heap)(o1 o2:Obj):Heap:=(h.push o1).push o2
abbrev zH3 (h:Heap)(o1 o2:Obj):Heap:=(zH2 h o1 o2).push { cls:=.type "tuple",data:=.seq #[.ref h.objs.size,.ref (h.push o1).objs.size] }
abbrev zH4 (h:Heap)(o1 o2:Obj):Heap:=(zH3 h o1 o2).push { cls:=.type "tuple",data:=.seq #[.none,.none] }
abbrev zH5 (h:Heap)(o1 o2:Obj):Heap:=(zH4 h o1 o2).push { cls:=.type "zip",data:=.fields #[.none,.bool false,.bool false,.ref (zH2 h o1 o2).objs.size,.ref (zH3 h o1 o2).objs.size] }
def aU6  v1 y  o1 o2 :Meets (lO.«zip.__new__» ⟨[.type "zip",v1,y],[]⟩) (λ _ R s=>Mkr v1 o1 s.heap/\Mkr y o2 s.heap /\
  R (.ok (.ret (.ref (zH4 s.heap o1 o2).objs.size))) { s with heap:=zH5 s.heap o1 o2 }) :=
 .of_wp λ prog w A R s h=>by
  obtain⟨hp,g,d,tk,os⟩:=s;obtain⟨G,F,h⟩:=h;have z:=sub_zip;have r1:=λ {P w A E Q} q=>G P w A E ⟨hp,g,d,tk,os⟩ Q (λ b u e=>e) q;have r2:=λ {P w A E Q} q=>F P w A E ⟨hp.push o1,g,d,tk,os⟩ Q (λ b u e=>ak _ e) q
  wp_walk using r1,r2
  exact⟨_,rfl,h⟩
def aZ2 {E:yB}{s:af}{Q:yB}(f1:o1.isFreed=false)(f2:o2.isFreed=false)(m1:Mkr v1 o1 s.heap)(m2:Mkr y o2 s.heap)
  (k:∀ h',IsZip h' (s.heap.objs.size+4) (s.heap.objs.size+2) (s.heap.objs.size+3) .none->eg h' (s.heap.objs.size+2) (.ref s.heap.objs.size) (.ref (s.heap.objs.size+1)) ->
   eg h' (s.heap.objs.size+3) .none .none->h'.get? s.heap.objs.size=some o1->h'.get? (s.heap.objs.size+1)=some o2->(∀ c o,s.heap.get? c=some o->h'.get? c=some o)->Q (.ref (s.heap.objs.size+4)) { s with heap:=h' }) :
  wpAny (model P w) A (call (.type "zip") [v1,y]) Q E s:=by
 refine callType_new F.called_zip (by decide) (F.typeCall_zip_2 _ _) (F.newCall_zip_2 _ _) (λ obj=>F.args_object_init_3 obj _ _) F.entry_zip_new (aU6 v1 y o1 o2) ⟨m1,m2,?_⟩;have y1:(s.heap.push o1).objs.size=s.heap.objs.size+1:=cn ..;have J:(zH2 s.heap o1 o2).objs.size=s.heap.objs.size+2:=by rw[cn,y1]
 have G:(zH3 s.heap o1 o2).objs.size=s.heap.objs.size+3:=by rw[cn,J]
 have y4:(zH4 s.heap o1 o2).objs.size=s.heap.objs.size+4:=by rw[cn,G]
 have z:(zH5 s.heap o1 o2).get? (zH4 s.heap o1 o2).objs.size=some _:=aM _ rfl;have g4:(zH5 s.heap o1 o2).get? (zH3 s.heap o1 o2).objs.size=some _:=ak _ (aM _ rfl);have Y:(zH5 s.heap o1 o2).get? (zH2 s.heap o1 o2).objs.size=some _:=ak _ (ak _ (aM _ rfl));have Z:(zH5 s.heap o1 o2).get? (s.heap.push o1).objs.size=some o2:=ak _ (ak _ (ak _ (aM _ f2)));have g1:(zH5 s.heap o1 o2).get? s.heap.objs.size=some o1:=ak _ (ak _ (ak _ (ak _ (aM _ f1))));show _/\_;rw[J,G,y4]at z;rw[y1,J]at Y;rw[G]at g4;rw[y1]at Z;rw[y4];exact⟨⟨_,z,rfl⟩,k _ z Y g4 g1 Z λ c o x=>ak _ (ak _ (ak _ (ak _ (ak _ x))))⟩
def Sr (K:ac)(H:Hp)(x:V)(J:It):Prop:=(∃ a,x=.ref a/\(∃ xs,SqL K H a xs)/\J=Itl K a)\/(∃ a,x=.ref a/\(∃ xs,SqT K H a xs)/\J=Itt K a)\/∃ y,x=.str y/\J=Its y
def Sr.mk {W:St}(I:Inv X z W H s)(h:Sr X.K H x J)(r:RelV x u) :
  ∃(o:Obj) (F:Addr->Nat->Heap->Prop),o.isFreed=false/\Mkr u o s.heap/\(∀ it,Dw X.prog X.w X.K J it (F it))/\∀ it h',h'.get? it=some o->F it 0 h':=by
 rcases h with⟨a,e,⟨G,hq⟩,e'⟩|⟨a,e,⟨G,hq⟩,e'⟩|⟨y,e,e'⟩
 .subst e e';cases r;obtain⟨its,Y,p,hz⟩:=I.list hq;exact⟨_,λ it i h=>h.IsListIter it a i,rfl,λ P w A E s' Q hk q=>eG (p.isList.at λ o e=>hk _ _ e) q,λ it=>bC0 a it,λ it h' e=>⟨_,e,rfl,rfl⟩⟩
 .subst e e';cases r;obtain⟨its,Y,p,hz⟩:=I.tuple hq;exact⟨_,λ it i h=>h.IsTupleIter it a i,rfl,λ P w A E s' Q hk q=>jx (Heap.IsTuple.at (p) λ o e=>hk _ _ e) q,λ it=>bJ7 a it,λ it h' e=>⟨_,e,rfl,rfl⟩⟩
 .subst e e';obtain⟨t,rfl⟩:=r;exact⟨_,λ it i h=>h.IsStrIter it (iL y) y t i,rfl,λ P w A E s' Q hk q=>wpAny_pyIter_strU q,λ it=>bM9 y t it,λ it h' e=>⟨_,e,rfl,rfl⟩⟩
def cf0 (n:Nat):Ap (n+4) (n+2) (n+3) n (n+1):=by
 constructor
 .exact aC (by lia)
 .exact aC (by lia)
 .exact aC (by lia)
 .exact aC (by lia)
 .exact aC (by lia)
 .exact cK (by lia)
 .exact cK (by lia)
 .exact cK (by lia)
 .exact cK (by lia)
 .exact aC (by lia)
def ch4 (K:ac)(ta:TA):TI:=λ W H R=>ta W H λ vs H1=>∃ x y J1 J2,vs=[x,y]/\Sr K H1 x J1/\Sr K H1 y J2/\R (Jz J1 J2) H1
def bF6 {elts:yL}{ek}{epos}{p pos}(hg:Gl X "zip")(hm:X.mg "zip"=none)(ha:PA X [a,b] Y)(hs:autoParam (bD [a,b] X.env=[(false,eval a X.env),(false,eval b X.env)]) Zq4._auto_1)(J:autoParam (bD [b] X.env=[(false,eval b X.env)]) Zq4._auto_1) :
  PI X (.Tuple elts ek epos) (.Call (.Name "zip" p) [a,b] [] pos) (ch4 X.K Y):=by
 intro G s W H R I h;refine Call_ (aB2 I hg hm boot_zip (dG (thn (ha pos G s W H _ I h) λ us s1 ⟨vs,H1,z,r1,q1⟩=>?_) (by rw[hs,J]) (by rw[J];rfl)));obtain⟨x,y,J1,J2,e,S1,S2,q⟩:=q1;subst e;cases r1 with
 | cons r rr =>
  cases rr with
  | cons r' rr =>
   cases rr;obtain⟨o1,n1,f1,m1,d1,z1⟩:=S1.mk z r;obtain⟨o2,n2,f2,Z,d2,z2⟩:=S2.mk z r';refine aZ2 f1 f2 m1 Z λ h' hz hI hO g1 g2 kk=>kC hz ?_;have D:=cf0 s1.heap.objs.size;refine⟨s1.heap.objs.size+4,[s1.heap.objs.size+4,s1.heap.objs.size+2,s1.heap.objs.size+3,s1.heap.objs.size,s1.heap.objs.size+1],_,_,H1,rfl,z.kept kk,bj7 (d1 _) (d2 _) D,⟨hz,hI,⟨_,_,hO⟩,z1 _ _ g1,z2 _ _ g2⟩,λ b hb=>?_,q⟩;have F:s1.heap.objs.size<=b:=by
    simp only[aw,aR,or_false]at hb;rcases hb with e|e|e|e|e<;>rw[e]<;>first|exact av _|exact Nat.le_add_right _ _
   exact z.fpOk F (z.hok.fresh F)
end L2
end
noncomputable section
namespace L2
open PySem PySem.Spec PyProof.Rows Builtin
open AutoSeq1 (wpAny_loadPart')
section
variable {X:Cx} {pins:yA} {W:St} {H:Hp} {s:af} {A:aS} {E:yB} {J1:It} {t1:Nat->Heap->Prop} {z it:Addr} {n:Nat} {old:Value}
end
end L2
end
noncomputable section
namespace L2
open PySem PySem.Spec PyProof.Rows Builtin
open AutoSeq1 (wpAny_loadPart')
def aJ9:fillsNumberSlot (.type "tuple") "mul"=pure false :=
 PySem.fillsNumberSlot_seq eO.lookup (by decide +kernel) gX.lookup (by decide +kernel)
def aU9:seqRepeat? (.type "tuple")=pure (some (.builtin "tuple.__mul__")):=by
 unfold seqRepeat?;rw[kD (name := "__mul__") eO.lookup (by decide +kernel),kD (name := "__rmul__") gX.lookup (by decide +kernel)];rfl
def aB4 a t l (o:Obj)(y:yK) n (z:yJ)(sl:yF) :
  Meets (lO.«int.__rmul__» ⟨[.int a t,.ref l],[]⟩) (λ _ R s=>s.heap.get? l=some { cls:=.type "tuple",dict:=z,data:=.seq y n,slots:=sl }/\R (.ok (.ret Value.notImplemented)) s) :=
 .of_wp λ prog w A R s h=>by obtain⟨hp,g,d,tk,os⟩:=s;obtain⟨hl,h⟩:=h;wp_walk;exact⟨_,rfl,h⟩
noncomputable def ar7 {α:Type}:Nat->List α->List α
 | 0,_=>[]
 | n+1,a=>a++ar7 n a
theorem aQ0 l :∀ n (y:Array α),(ax n l.toArray).foldl (·++·) y=y++(ar7 n l).toArray
 | 0,y=>by simp[ar7]
 | n+1,y=>by rw[bM,d8,aQ0 l n];simp[ar7]
theorem aC1 {α:Type} a :∀ n (y:Array α),((ax n a).foldl (·++·) y).size=y.size+a.size*n
 | 0,y=>by simp
 | n+1,y=>by rw[bM,d8,aC1 a n,Array.size_append,Nat.mul_succ];lia
def TmA (items:yK)(k:Int)(l:Addr)(R:yB)(s:af):Prop :=
 ((items.isEmpty||k==1)=true->R (.ref l) s)/\((items.isEmpty||k==1)=false->R (.ref s.heap.objs.size) { s with heap:=s.heap.push { cls:=.type "tuple",data:=.seq ((ax k.toNat items).foldl (·++·) #[]) } })
def aV9 {E:yB}{y:yK}(h0:0<=k)(G:k<=1000000)(hz:y.size*k.toNat<=1000000)(hl:IsTup s.heap l y)
  (h:TmA y k l Q s):wpAny (model P w) A (call (.builtin "tuple.__mul__") [.ref l,.int k t]) Q E s:=by
 refine cw eO hl.typeIs PySem.F.entry_tuple_mul ?_ (PySem.F.args_tuple_mul_2 _ _);obtain⟨q1,q2⟩:=h;refine ae (aA ?_);rw[if_neg (by rw[decide_eq_false (by lia),decide_eq_false (by lia)];decide)];refine ae (js hl ?_);have z:=by
  have:((y.size*k.toNat:Nat):Int)<=1000000:=by lia
  rw[kR,fT h0]at this;exact this
 cases hb:(y.isEmpty||k==1)with
 | true =>
  rw[if_pos rfl];unfold lq;refine ae (ae (hX hl.typeIs (aA ?_)));rw[if_pos (by decide)];exact ae (il (aA ⟨_,rfl,q1 hb⟩))
 | false =>
  rw[if_neg aI];have he:=by
   rw[fu]at hb;exact hb.1
  have q:=q2 hb;show wpAny _ _ (if(decide (k<=0)||y.isEmpty)=true then _ else _) _ _ _;by_cases hk:k<=0
  .rw[if_pos (by rw[decide_eq_true hk];rfl)];have:k.toNat=0:=by lia
   rw[this]at q;exact ae (bP (aA ⟨_,rfl,q⟩) (by size_fits))
  .rw[if_neg (by rw[decide_eq_false hk,he];decide)];show wpAny _ _ (if(y.size:Int)*k > (2^63 - 1) / 8 then _ else _) _ _ _;rw[if_neg (by lia)];show wpAny _ _ (if gk ((y.size:Int)*k)=true then _ else _) _ _ _;rw[if_neg (by unfold gk;rw[decide_eq_false (by unfold aP;lia)];decide)];refine ae (bP (aA ⟨_,rfl,q⟩) ?_);show Array.size _<=aP;rw[aC1];show 0+_<=_;rw[dN];have h3:y.size*k.toNat<=aP:=aq hz (by decide);exact h3
theorem aL5 :∀ n,ar7 n ([]:List α)=[]
 | 0=>rfl
 | n+1=>by simp[ar7,aL5 n]
def bn6 (l:List α):ar7 1 l=l:=by simp[ar7]
theorem aN8 (l:List α):∀ n,(ar7 n l).length=l.length*n
 | 0=>by simp[ar7]
 | n+1=>by simp[ar7,aN8 l n,kN];lia
theorem Vals.repT {us:yH}(r:Vals y us):∀ n,Vals (ar7 n y) (ar7 n us)
 | 0=>.nil
 | n+1=>r.append (Vals.repT r n)
def cb6 (K:ac):R2:=λ x y H Q=>∃ a xs n,x=.ref a/\y=.int n/\SqT K H a xs/\(0<=n/\n<=1000000/\xs.length*n.toNat<=1000000)/\∀ p H',af2 H H'->SqT K H' p (ar7 n.toNat xs)->(H' p=some (.tp (ar7 n.toNat xs))\/(p=a/\ar7 n.toNat xs=xs))->Q (.ref p) H'
def bC8 {K}(hK:X.K=K):OpR X (cx .Mult) (cb6 K):=by
 subst hK;intro G s W H x y v u Q I J Y h;obtain⟨a,F,n,rfl,rfl,ha,⟨h0,h1,hz⟩,q⟩:=h;cases J;obtain⟨t,rfl⟩:=Y;obtain⟨its,r1,p1,Z⟩:=I.tuple ha;have z:=r1.length;obtain⟨⟨cls,dd,data,sl⟩,ho,hc,n1,hd⟩:=id p1;simp only at hc hd;subst hc hd;refine gv (by decide) p1.typeIs (λ s'=>ig s' n t) aJ9 jE ee aU9 ji.lookup
  (dk ee (ig s n t) jj (iH _ _) (aB4 n t a default its.toArray n1 dd sl) ⟨ho,⟨rfl,p1.typeIs,aV9 h0 h1 (by rw[ay,<-z];exact hz) p1 ⟨λ hb=>?_,λ hb=>?_⟩⟩⟩)
 .have ex:ar7 n.toNat F=F:=by
   rw[bT]at hb;rcases hb with hb|hb
   .have hi:=by simpa using hb
    have hx:=r1.nil_iff.mp hi;rw[hx,aL5]
   .have:=by simpa using hb
    subst this;exact bn6 _
  exact⟨.ref a,H,I,rfl,q a H (af2.refl H) (by rw[ex];exact ha) (.inr ⟨rfl,ex⟩)⟩
 .have hp:=I.hok.fresh (av s.heap.objs.size);refine⟨.ref s.heap.objs.size,_,I.laid (λ b ob q=>ak _ q) (av _) ?_,rfl,q _ _ ((af2.refl H).new hp) (SqT.of zo) (.inl zo)⟩;refine⟨by rw[aN8];exact aq hz (by decide),ar7 n.toNat its,r1.repT _,?_⟩;rw[show(ar7 n.toNat its).toArray=(ax n.toNat its.toArray).foldl (·++·) #[]by rw[aQ0];simp];exact⟨_,aM _ rfl,rfl,_,rfl⟩
end L2
end
noncomputable section
namespace L2
open PySem PySem.Spec PyProof.Rows
noncomputable def aR1 (x:List Nat):V:=.str ⟨x.toArray⟩
theorem aG1:∀ {y:List (List Nat)} {its:yH},Vals (y.map aR1) its->∃ l,its=strValues l/\l.map (·.1)=y.map λ x=>(⟨x.toArray⟩)
 | [],its,h=>by
  have:=h.length;cases its with
  | nil=>exact⟨[],rfl,rfl⟩
  | cons _ _=>cases this
 | x::y,its,h=>by
  cases h with
  | cons r h =>
   obtain⟨t,rfl⟩:=r;obtain⟨l,rfl,e⟩:=aG1 h;exact⟨(⟨x.toArray⟩,t)::l,rfl,by rw[aF,aF,e]⟩
def bt3 (hr:Room k A):A.units+2<cLine:=jF (Nat.add_le_add_left (by decide) _) hr.units
section
variable {κ:Type} [DecidableEq κ]
noncomputable def bl2 (kvs:List (κ×V))(k:κ):Option V:=(kvs.find? λ kv=>decide (kv.1=k)).map (·.2)
noncomputable def bW3 (kvs:List (κ×V))(k:κ)(v:V):List (κ×V) :=
 if(kvs.any λ kv=>decide (kv.1=k))=true then kvs.map (λ kv=>if kv.1=k then(kv.1,v)else kv)else kvs++[(k,v)]
def aw5 {k:κ}(e:p.1=k):bl2 (p::r) k=some p.2:=by simp[bl2,e]
def aA0 {k:κ}(e:¬ p.1=k):bl2 (p::r) k=bl2 r k:=by simp[bl2,e]
theorem aM6 k :∀ y:List (κ×V),(y.any λ z=>decide (z.1=k))=(bl2 y k).isSome
 | []=>rfl
 | p::r=>by
  rw[gQ];by_cases e:p.1=k
  .simp only[aw5 e,decide_eq_true e,Bool.true_or,jG]
  .rw[aA0 e,decide_eq_false e,lG];exact aM6 k r
theorem bW7.getD (r:bW7 o u)(y:RelV d d'):RelV (o.getD d) (u.getD d'):=by
 cases o with
 | none=>cases u with
  | none=>exact y
  | some _=>exact(r).elim
 | some _=>cases u with
  | none=>exact(r).elim
  | some _=>exact r
def KV.val (r:KV y vs)(k:κ):bW7 (bl2 y k) (j8 vs k):=by
 unfold KV at r
 induction r with
 | nil=>exact True.intro
 | @cons p q ps qs h t ih =>
  obtain⟨F,G⟩:=h;by_cases e:p.1=k
  .have e':=F.symm.trans e;have b:j8 (q::qs) k=some q.2:=by simp[j8,e']
   rw[aw5 e,b];exact G
  .have e':¬ q.1=k:=λ z=>e (F.trans z);have b:j8 (q::qs) k=j8 qs k:=by simp[j8,e']
   rw[aA0 e,b];exact ih
theorem KV.any (r:KV y vs)(k:κ):(y.any λ z=>decide (z.1=k))=vs.any λ z=>decide (z.1=k):=by
 unfold KV at r
 induction r with
 | nil=>rfl
 | cons h t ih=>rw[gQ,gQ,ih,h.1]
def KV.repl (r:KV G vs)(k:κ)(Z:RelV y u) :
  KV (G.map λ F=>if F.1=k then(F.1,y)else F) (vs.map λ F=>if F.1=k then(F.1,u)else F):=by
 unfold KV at r ⊢
 induction r with
 | nil=>exact .nil
 | @cons p q ps qs h t ih =>
  rw[aF,aF];refine .cons ?_ ih;obtain⟨J,Y⟩:=h;by_cases e:p.1=k
  .rw[if_pos e,if_pos (J.symm.trans e)];exact⟨J,Z⟩
  .rw[if_neg e,if_neg (λ z=>e (J.trans z))];exact⟨J,Y⟩
def KV.put (r:KV z vs)(k:κ)(F:RelV y u):KV (bW3 z k y) (stored vs k u):=by
 unfold bW3 stored;rw[r.any k];by_cases e:(vs.any λ G=>decide (G.1=k))=true
 .rw[if_pos e,if_pos e];exact r.repl k F
 .rw[if_neg e,if_neg e];exact Paired.snoc r ⟨rfl,F⟩
theorem KV.length {vs:List (κ×Value)}(r:KV y vs):y.length=vs.length:=lC r
end
section
variable {P:aJ} {w:World} {H:Hp} {h:Heap} {a:Addr}
end
section
variable {X:Cx} {pins:yA} {W:St} {H:Hp} {s:af} {a:Addr} {y v:V} {u r:Value} {o:Option V} {A:aS} {E:yB}
end
section
variable {X:Cx} {pins:yA} {W:St} {H:Hp} {s:af} {a:Addr} {kvs:List (Key×V)} {k:Key} {u:Value} {A:aS} {E:yB}
end
section
variable {X:Cx} {o i e value:Expr} {pos pos' tpos:Pos} {td ty tv:TE}
end
section
variable {X:Cx} {pos:Pos}
end
section
variable {X:Cx} {pins:yA} {W:St} {H:Hp} {s:af} {a:Addr} {y d:V} {u r:Value} {o:Option V} {A:aS} {E:yB}
end
section
variable {X:Cx} {o e f:Expr} {apos cpos:Pos} {td ty tx:TE}
end
section
variable {P:aJ} {w:World} {A:aS} {E:yB} {s:af}
end
section
variable {X:Cx} {pins:yA} {W:St} {H:Hp} {s:af}
end
section
variable {prog:aJ} {w:World} {A:aS} {R:km->af->Prop} {I:Addr} {fp wr:List Addr} {n:Nat} {P:Nat->Value->Prop} {St:Nat->Heap->Prop} {kw:List (Str×Value)}
end
def aS2 {K}
 (X:K.In s.heap) (y:dY (model prog w) s.heap (jD (Value.ref x)) (Value.ref Cc))
 (hm:jt K Cc (Value.type "object")=some true) (h:R (Except.ok (Flow.ret (Value.ref Cc))) s) :
   iY (model prog w) A
    (Code.call (Value.builtin "getset_descriptor.__get__")
     { pos:=[Value.builtin "object.__class__",Value.ref x,z] }) R s:=by
 obtain⟨hh,g,F,t,os⟩:=s;have L1:=PySem.W.looks_mroIn (M:=model prog w) X hm;refine iM jI.plain PySem.W.KF.entry_gs (jI.check (model prog w) A.in1 _ _ _ _ _ _ PySem.W.KF.type_class (PySem.W.KF.args_gs _ _ _) ?_);show wpAny (model prog w) A.in1 (do
   let __x <- iO { pos:=[Value.builtin "object.__class__",Value.ref x,z] }
   match __x with
    | (d,obj,snd)=>dP d obj) _ _ _
 rw[PySem.W.dga_obj];refine ae (aA ?_);simp only[];unfold dP;refine ae ?_;unfold db;have e1:g7 (Value.builtin "object.__class__")=pure (bp "__class__",Value.type "object"):=by
  show pure (bp (dg "object.__class__").2,Value.type (dg "object.__class__").1)=_;rw[PySem.W.KF.owner_class]
 rw[e1];refine ae (aA ?_);refine ae (ae (PySem.W.Looks.at y (PySem.W.Looks.at L1 (aA ?_))));refine aA ⟨Code.quiet_builtin _ (by decide +kernel),codeAny_builtin PySem.W.KF.entry_class ?_⟩;refine ae ?_;unfold shownTypeOf;exact ae (PySem.W.Looks.at y (aA (aA h)))
def cd3 {K}{ D}(X:K.In h)
 (z:bZ K (Value.ref D) name=some (some a)) (y:gC K a (bp "__get__")=some (some g)) (h3:iu K a=some true) :
 dY M h (eE (Value.ref x) (Value.ref D) name) (Builtin.ObjectAttr.Found.bind g a):=by
 have L1:=fv (M:=M) X z;have L2:=PySem.W.looks_specialIn (M:=M) X y;have L3:=PySem.W.looks_takesIn (M:=M) X h3;unfold eE;refine cU L1 (cU L2 ?_);refine cU (cU L3 gD) (mf gD)
def XAt (h:Heap)(x Cc:Addr):Prop:=∃ ox,h.get? x=some ox/\ox.cls=Value.ref Cc
def XAt.type (I:XAt h x Cc):dY M h (jD (Value.ref x)) (Value.ref Cc):=by
 obtain⟨F,z,y⟩:=I;exact y▸cU (kE z) gD
def bN7 {E:yB}{K:ac}
 {x D:Addr} 
 (X:K.In s.heap) (Z:dY (model prog w) s.heap (jD (Value.ref x)) (Value.ref D))
 (L1:dY (model prog w) s.heap (eE (Value.ref x) (Value.ref D) name) (Builtin.ObjectAttr.Found.bind g a))
 (J:bZ K (Value.ref D) (bp "__getattribute__")=some (some (Value.builtin "BaseException.__getattribute__")))
 (hk:bZ K (Value.ref D) (bp "__getattr__")=some none)
 {bs Y:yH} {sn:yI} {sub:yH} {dd:yJ} 
 (hC:s.heap.get? D=some (excClassObj nm q D N bs Y hdct sn sub ab col dd k0 k1 k2 k3 k5 y)) (T:OwnTailQ s.heap [.type "ValueError",.type "Exception",.type "BaseException",.type "object"] Y) (hx:s.heap.get? x=some o) (hc:o.cls=.ref D)
 (h:wpAny (model prog w) A.in1 (call g [a,Value.ref x,Value.ref D]) (λ v s'=>wpAny (model prog w) A (handedOut v) (λ v G=>Q (some v) G) (λ _ _=>False) s') (λ _ _=>False) { heap:=s.heap,gens:=s.gens,drawn:=s.drawn,toks:=s.toks+1,os:=s.os }) :
   wpAny (model prog w) A (getAttr? (Value.ref x) name) Q E s:=by
 obtain⟨hh,gg,d,t,os⟩:=s;have Lg:=fv (M:=model prog w) X J;have L2:=fv (M:=model prog w) X hk;have f3:=eU.ga.bind (Value.ref x);unfold getAttr?;refine ae (wpAny_mkText ?_);unfold getAttrBy?;refine ae (gP (c8 (ae (PySem.W.Looks.at Z (ae (PySem.W.Looks.at Lg ?_))))));refine fO rfl ?_;refine ae (gm rfl (PySem.W.Looks.at L2 ?_));refine ae (gP (c8 ?_));refine fO rfl ?_;refine ae (wpAny_of_eq f3 (jz ?_));refine iM eU.ga.plain F.entry_bexc_ga ?_;refine wpAny_check_ga_own eU hC T hx hc ?_;refine ae (aA ?_);refine ae (aA (ae (PySem.W.Looks.at Z (ae (PySem.W.Looks.at L1 ?_)))));refine ae (c8 (bf h (λ v s' z=>aA ?_) λ _ _ z=>z.elim));exact bf z (λ v G hv=>aA hv) λ _ _ z=>z.elim
noncomputable def zz (h:Heap)(l:List Addr):Heap:={ h with objs:=h.objs.mapIdx λ i o=>if i∈l then { o with data:=.freed } else o }
def zp (hb:b∈l):(zz h l).get? b=none:=by
 unfold Heap.get? zz;simp only[iz];cases e:h.objs[b]? with
 | none=>rfl
 | some o=>simp only[fP,if_pos hb]
def qa (hb:b ∉ l):(zz h l).get? b=h.get? b:=by
 unfold Heap.get? zz;simp only[iz];cases e:h.objs[b]? with
 | none=>rfl
 | some o=>simp only[fP,if_neg hb]
def zL :(zz h l).StaysIn h:=λ b o e=>by
 by_cases hb:b∈l
 .rw[zp hb]at e;cases e
 .rwa [qa hb]at e
def without_none (e:(zz h l).get? b=none):b∈l\/h.get? b=none:=by
 by_cases hb:b∈l
 .exact .inl hb
 .rw[qa hb]at e;exact .inr e
theorem qQ {h :Heap}:∀ {l},h.FunFrames base l->(∀ b∈frs l,y.get? b=none)->h.FunFrames y l
 | [],_,_=>True.intro
 | env::l,⟨k,⟨L,o,hf,_,ho,hd⟩,r⟩,hb=>by
  have hm:frs (env::l)=L::frs l:=by unfold frs;rw[bA,hf]
  rw[hm]at hb;exact⟨k,⟨L,o,hf,hb L (au ..),ho,hd⟩,qQ r λ b z=>hb b (ai _ z)⟩
def HOk.part (x:HOk P w H h)(k:∀ b u o,H b=some u->h.get? b=some o->h'.get? b=some o):HOk P w H h':=λ a o e =>
 (x a o e).stay (λ b u hb q=>by
  rcases hb with rfl|hb
  .exact k _ _ _ e q
  .exact k _ _ _ hb q) (λ _ q=>q) λ _ _ q=>q
def af6.at_ (x:af6 P w H h a o):∃ u,h.get? a=some u:=by
 cases o with
 | J xs=>obtain⟨_,_,_,_,e⟩:=x;exact⟨_,e⟩
 | tp xs=>obtain⟨_,_,_,ob,e,_⟩:=x;exact⟨_,e⟩
 | own y=>exact x
 | xd fs=>obtain⟨_,⟨_,_,_,e,_⟩,_⟩:=x;exact⟨_,e⟩
 | rng lo hi=>obtain⟨_,_,_,e⟩:=x;exact⟨_,e⟩
 | frz ob u=>obtain⟨e,_⟩:=x;exact⟨_,e⟩
 | tbl ps=>exact⟨_,(x)⟩
 | ext C=>obtain⟨_,e,_⟩:=x;exact e
structure Fly (h0:Heap)(H:Hp)(h:Heap)(a Cc:Addr):Prop where
 new:h0.get? a=none
 free:H a=none
 at_:∃ a0 oe vs T oT ts,h.get? a=some oe/\(oe.cls=.ref Cc/\vs[0]?=some a0)/\oe.data=.fields vs/\vs[1]?=some (.ref T)/\h0.get? T=none/\H T=none/\T≠a/\h.get? T=some oT/\oT.data=.fields ts/\ts[3]?=some .none
section
variable {X:Cx} {pins:yA} {W:St} {H:Hp} {s:af} {a Cc:Addr} {a0:Value}
def aK8 (I:Inv X pins W H s)(J:X.ex=[])(a2:∀ b∈frs X.stack,b∈bs)(hb:∀ b∈bs,b∈frs X.stack\/(X.s₀.heap.get? b=none/\H b=none))(n0:X.s₀.heap.get? a=none)(nH:H a=none)(F:∀ b∈X.fs,b∈frs X.stack)
  (L:Heap.LeftW (zz s.heap bs) X.stack a (.ref Cc) a0 s.heap h'):Un X.fs [] X.H₀ H X.s₀.heap h'/\HOk X.prog X.w H h'/\Fly X.s₀.heap H h' a Cc:=by
 obtain⟨st,ff,tr,sl⟩:=L;have un:=I.base;rw[J]at un;have keep:=λ b o n e=>st b o (by rw[qa n];exact e);have slot:∀ b o,b∈frs X.stack->s.heap.get? b=some o->∃ sl,h'.get? b=some { o with slots:=sl }:=λ b o n e=>by
  obtain⟨_,o',e',d⟩:=I.stack.mem n;rw[e]at e';cases e';exact sl b o e d
 have out:∀ b o,X.s₀.heap.get? b=some o->b ∉ frs X.stack->b ∉ bs:=λ b o e n z=>by
  rcases hb b z with q|⟨q,_⟩
  .exact n q
  .rw[e]at q;cases q
 have Z:∀ b o,X.s₀.heap.get? b=some o->b ∉ X.fs->b ∉ frs X.stack:=λ b o e n z=>by
  rcases aw.mp (I.stkSub b z)with q|q
  .subst q;exact absurd (aL e) (lr.mpr I.ok.above)
  .exact n q
 refine⟨⟨λ b o e n G nx=>?_,λ b o e n G nx=>?_,un.free,λ b o e nx=>?_,un.tups,un.frzs,un.tbls⟩,I.hok.part λ b u o e q=>?_,⟨n0,nH,?_⟩⟩
 .exact keep b o (out b o e (Z b o e G)) (un.keep b o e n G nx)
 .obtain⟨a1,e1⟩:=un.slot b o e n G nx;obtain⟨Y,e2⟩:=slot b _ (F b G) e1;exact⟨Y,e2⟩
 .obtain⟨o1,e1⟩:=un.there b o e nx;by_cases z:b∈frs X.stack
  .obtain⟨_,e2⟩:=slot b _ z e1;exact⟨_,e2⟩
  .exact⟨_,keep b o1 (out b o e z) e1⟩
 .refine keep b o (λ z=>?_) q;rcases hb b z with y|⟨_,y⟩
  .rw[I.stkFree b y]at e;cases e
  .rw[y]at e;cases e
 .obtain⟨oe,vs,T,oT,ts,h1,h2,h3,h4,h5,h6,h7,h8,h9⟩:=tr;have key:X.s₀.heap.get? T=none/\H T=none:=by
   rcases without_none h5 with z|z
   .rcases hb T z with y|y
    .obtain⟨_,o',e',d⟩:=ff.mem y;rw[h7]at e';cases e';exact absurd h8 (d _)
    .exact y
   .refine⟨?_,?_⟩
    .cases e:X.s₀.heap.get? T with
     | none=>rfl
     | some o=>obtain⟨o',e'⟩:=un.there T o e (by simp);rw[z]at e';cases e'
    .cases e:H T with
     | none=>rfl
     | some o=>obtain⟨u,e'⟩:=(I.hok T o e).at_;rw[z]at e';cases e'
  exact⟨a0,oe,vs,T,oT,ts,h1,h2,h3,h4,key.1,key.2,h6,h7,h8,h9⟩
def aZ5 {vs:yK}(I:Inv X pins W H s)(J:X.ex=[])(y:X.stack=X.env::X.outer)(G:X.env.frame=some X.env.locals)(n0:X.s₀.heap.get? a=none)(nH:H a=none)
  (h1:s.heap.get? a=some oe) (Z:oe.cls=.ref Cc) (h3:oe.data=.fields vs) (h4:vs[1]?=some .none) (h5:vs[0]?=some a0) {E:yB}
  (k:∀ h',Un X.fs [] X.H₀ H X.s₀.heap h'->HOk X.prog X.w H h'->Fly X.s₀.heap H h' a Cc->Q () { s with heap:=h' }):wpAny (model X.prog X.w) X.A (kZ X.env (.ref a)) Q E s:=by
 have Y:s.heap.FunFrames (zz s.heap (a::frs X.stack)) X.stack:=qQ I.stack λ b hb=>zp (ai _ hb);have F:∀ b∈X.fs,b∈frs X.stack:=λ b hb=>by rw[y];unfold frs;rw[bA,G];exact ai _ hb
 have z:=I.ok.frames;rw[y]at z;refine wpAny_leaving_firstW (base:=zz s.heap (a::frs X.stack)) z (by rw[<-y];exact Y) G h1 zL (zp (au ..)) h3 h4 h5 λ h' L=>?_;rw[Z,<-y]at L;obtain⟨u,o,f⟩:=aK8 I J (λ b hb=>ai _ hb) (λ b hb=>by
  rcases aw.mp hb with q|q
  .subst q;exact .inr ⟨n0,nH⟩
  .exact .inl q) n0 nH F L
 exact k h' u o f
def aS6 (I:Inv X pins W H s)(Z:X.ex=[])(y:X.stack=X.env::X.outer)(J:X.env.frame=some X.env.locals)(F:Fly X.s₀.heap H s.heap a Cc){E:yB}
  (k:∀ h',Un X.fs [] X.H₀ H X.s₀.heap h'->HOk X.prog X.w H h'->Fly X.s₀.heap H h' a Cc->Q () { s with heap:=h' }):wpAny (model X.prog X.w) X.A (kZ X.env (.ref a)) Q E s:=by
 obtain⟨n0,nH,a0,oe,vs,T,oT,ts,h1,h2,h3,h4,h5,h6,h7,h8,h9,Y⟩:=F;have a1:s.heap.FunFrames (zz s.heap (a::T::frs X.stack)) X.stack:=qQ I.stack λ b hb=>zp (ai _ (ai _ hb));have G:∀ b∈X.fs,b∈frs X.stack:=λ b hb=>by rw[y];unfold frs;rw[bA,J];exact ai _ hb
 have z:=I.ok.frames;rw[y]at z;refine wpAny_leaving_nextW z (by rw[<-y];exact a1) J ⟨oe,vs,T,oT,ts,h1,h2,h3,h4,zp (by simp),h7,h8,h9,Y⟩ zL (zp (au ..)) λ h' L=>?_;rw[<-y]at L;obtain⟨u,o,f⟩:=aK8 I Z (λ b hb=>ai _ (ai _ hb)) (λ b hb=>by
  rcases aw.mp hb with q|q
  .subst q;exact .inr ⟨n0,nH⟩
  .rcases aw.mp q with q|q
   .subst q;exact .inr ⟨h5,h6⟩
   .exact .inl q) n0 nH G L
 exact k h' u o f
end
def CX1 (P:aJ)(w:World):CXT:=λ outer H s E e s'=>∃ a Cc H',e=.ref a/\s'.os=s.os/\fU s'.gens/\Un (frs outer) [] H H' s.heap s'.heap/\HOk P w H' s'.heap/\Fly s.heap H' s'.heap a Cc/\E e (some Cc) H'
def CX1.inv {W:St}(I:Inv X y W H s)(J:X.ex=[])(h:CX1 X.prog X.w X.stack H s E e s') :
  ∃ a Cc H',e=.ref a/\Inv X y W H' s'/\Fly X.s₀.heap H' s'.heap a Cc/\E e (some Cc) H':=by
 obtain⟨a,Cc,H',rfl,os,bare,un,hok,F,q⟩:=h;have G:∀ b,s.heap.get? b=none->X.s₀.heap.get? b=none:=λ b z=>by
  cases e:X.s₀.heap.get? b with
  | none=>rfl
  | some o=>obtain⟨o',e'⟩:=I.base.there b o e (by rw[J];simp);rw[z]at e';cases e'
 obtain⟨n0,nH,a0,oe,vs,T,Z,ts,h1,Y,h3,h4,h5,h6,h7⟩:=F;exact⟨a,Cc,H',rfl,I.call' os un hok bare (λ b z=>absurd z (by simp)),⟨G _ n0,nH,a0,oe,vs,T,Z,ts,h1,Y,h3,h4,G _ h5,h6,h7⟩,q⟩
section
variable {P:aJ} {w:World} {K:ac} {mg:yD} {base:Heap} {N:yI} {qual:Str} {scope:Scope} {f:Addr} {cd:Value} {A:aS} {outer:List Env} {s0:af} {H0:Hp} {E:XK}
def bY3:qt (CX1 P w) (al6 (CX1 P w) P w K mg base N qual scope f cd A outer s0 H0 E) E:=by
 intro y W H s e s' I h;obtain⟨a,Cc,H',rfl,J,F,q⟩:=CX1.inv I rfl h;exact aS6 J rfl rfl rfl F λ h' u o z=>⟨a,Cc,H',rfl,J.os,J.bare,u,o,z,q⟩
def aS5 (X:Cx)(E:XK):Prop:=∀ pins (W:St) H s h' a Cc (args:yH),Inv X pins W H s->Heap.MadeExcOf s.heap h' a (.ref Cc) args->E (.ref a) (some Cc) H->X.xe (.ref a) { s with heap:=h' }
def cd7:aS5 (al6 (CX1 P w) P w K mg base N qual scope f cd A outer s0 H0 E) E:=by
 intro y W H s h' a Cc args I M q;have J:=I.kept (t':=s.toks) M.keeps;obtain⟨t,z,_⟩:=M.there;refine aZ5 J rfl rfl rfl ?_ ?_ z rfl rfl rfl rfl λ G u o F=>⟨a,Cc,H,rfl,J.os,J.bare,u,o,F,q⟩
 .show s0.heap.get? a=none;cases e:s0.heap.get? a with
  | none=>rfl
  | some o =>
   obtain⟨Y,e'⟩:=I.base.there a o e (by show a ∉ ([]);simp);rw[M.new]at e';cases e'
 .cases e:H a with
  | none=>rfl
  | some o =>
   obtain⟨u,e'⟩:=(I.hok a o e).at_;rw[M.new]at e';cases e'
end
def ffx {p:Prop}(h:false=true):p:=kF h
noncomputable def excTail:List Value:=[.type "ValueError",.type "Exception",.type "BaseException",.type "object"]
noncomputable def nsQ (K:ac)(N:Addr):Bool:=match K.lookup N with
 | some ⟨_,_,.dict es _,_⟩=>(es.all λ e=>match e.key with|.str _ _=>true|_=>false)&&ls.all λ n=>(nsFind es n).isNone
 | _=>false
def by9 (K:ac):List Value->Bool
 | .ref A::tl=>(match K.lookup A with|some ⟨_,_,.cls cd,_⟩=>nsQ K cd.ns|_=>false)&&by9 K tl
 | l=>l==excTail
def cb5 (K:ac)(Cc:Addr):Bool:=match K.lookup Cc with
 | some ⟨c,_,.cls cd,⟨[_,_,_,_,k4,_]⟩⟩=>c==.type "type"&&(!cd.hasDel&&(nsQ K cd.ns&&((match cd.mro with|m::tl=>m==.ref Cc&&by9 K tl|[]=>false)&&k4==some (.builtin "ValueError.__new__"))))
 | _=>false
def bp6 {K}(h:nsQ K N=true):∃ y,(∀ n∈ls,y n=none)/\∀ h:Heap,K.In h->h.Ns N y:=by
 unfold nsQ at h;cases e:K.lookup N with
 | none=>rw[e]at h;exact ffx h
 | some o =>
  rw[e]at h;obtain⟨c,d,F,sl⟩:=o;cases F with
  | dict es ep =>
   have h:=(am _ _).mp h;refine⟨nsFind es,λ n hn=>?_,λ hp z=>⟨_,es,ep,z _ _ e,rfl,λ x hx=>?_,λ _=>rfl⟩⟩
   .have:=aD.mp h.2 n hn;exact Option.isNone_iff_eq_none.mp this
   .have:=Array.all_eq_true'.mp h.1 x hx;cases q:x.key with
    | str _ _=>exact⟨_,_,rfl⟩
    | _=>rw[q]at this;exact ffx this
  | _=>exact ffx h
theorem aQ6 {K}:∀ {l:yH},by9 K l=true->∀ h:Heap,K.In h->OwnTailQ h excTail l
 | [],h,hp,hK=>by
  cases eq_of_beq h
 | v::tl,h,hp,hK=>by
  cases v with
  | ref A =>
   obtain⟨y,z⟩:=(am _ _).mp h;cases e:K.lookup A with
   | none=>rw[e]at y;exact ffx y
   | some o =>
    rw[e]at y;obtain⟨c,d,F,sl⟩:=o;cases F with
    | cls cd =>
     obtain⟨G,q,n⟩:=bp6 y;exact .own (hK _ _ e) (n hp hK) q (aQ6 z hp hK)
    | _=>exact ffx y
  | type n =>
   cases eq_of_beq h;exact .base
  | _=>cases eq_of_beq h
structure ExcCls (K:ac)(Cc:Addr):Prop where
 obj:∃ bm N nm q bs hdct sn sub ab col dd k0 k1 k2 k3 k5 mN,K.lookup Cc=some (excClassObj nm q Cc N bs bm hdct sn sub ab col dd k0 k1 k2 k3 k5 "ValueError.__new__")/\(∀ n∈ls,mN n=none)/\∀ h:Heap,K.In h->h.Ns N mN/\OwnTailQ h excTail bm
def bE0 {K}(h:cb5 K Cc=true):ExcCls K Cc:=by
 unfold cb5 at h;cases e:K.lookup Cc with
 | none=>rw[e]at h;exact ffx h
 | some o =>
  rw[e]at h;obtain⟨c,dd,dt,⟨sl⟩⟩:=o;cases dt with
  | cls cd =>
   rcases sl with _|⟨k0,_|⟨k1,_|⟨k2,_|⟨k3,_|⟨k4,_|⟨k5,_|⟨k6,sl⟩⟩⟩⟩⟩⟩⟩
   case cons.cons.cons.cons.cons.cons.nil =>
    obtain⟨nm,bs,F,N,q,hdct,sn,sub,ab,col,z⟩:=cd;obtain⟨h1,h⟩:=(am _ _).mp h;obtain⟨y,h⟩:=(am _ _).mp h;obtain⟨h3,h⟩:=(am _ _).mp h;obtain⟨h4,h5⟩:=(am _ _).mp h;cases F with
    | nil=>exact ffx h4
    | cons m tl =>
     obtain⟨h4,h6⟩:=(am _ _).mp h4;have e1:=eq_of_beq h1;have Y:=eq_of_beq h5;have Z:=eq_of_beq h4;subst e1 Y Z;have y:=(eP _).mp y;subst y;obtain⟨mN,J,n⟩:=bp6 h3;exact⟨tl,N,nm,q,bs,hdct,sn,sub,ab,col,dd,k0,k1,k2,k3,k5,mN,e,J,λ hp G=>⟨n hp G,aQ6 h6 hp G⟩⟩
   all_goals exact ffx h
  | _=>exact ffx h
def bk2 {K}{ D}(hc:ExcCls K D)(z:bZ K (.ref D) (bp "__getattribute__")=some (some (.builtin "BaseException.__getattribute__")))(hk:bZ K (.ref D) (bp "__getattr__")=some none)
  (hf:bZ K (.ref D) (bp "__class__")=some (some (.builtin "object.__class__")))
  (hs:gC K (.builtin "object.__class__") (bp "__get__")=some (some (.builtin "getset_descriptor.__get__")))
  (ht:iu K (.builtin "object.__class__")=some true) (hm:jt K D (.type "object")=some true) :
  cL K (.ref x) (.ref D) (λ h=>XAt h x D):=by
 obtain⟨J,N,nm,q,bs,hdct,sn,sub,ab,col,dd,k0,k1,k2,k3,k5,Y,hl,hq,hN⟩:=hc.obj;refine⟨λ M h _ I=>I.type,λ M h X I=>?_,λ h F dd its n sl X y=>?_,λ {prog w A E Q s} X I h=>?_⟩
 .intro G Z E' s' k q;exact ae (wpAny_loadPart (k _ _ (X _ _ hl)) (aA q))
 .cases e:(Value.ref D==Value.ref F)with
  | false=>rfl
  | true =>
   have e:=eq_of_beq e;cases e;rw[X _ _ hl]at y;cases congrArg (λ o:Option Obj=>o.map Obj.data) y
 .obtain⟨o,ho,hcl⟩:=I;have L:=XAt.type (M:=model prog w) ⟨o,ho,hcl⟩;exact bN7 X L (cd3 X hf hs ht) z hk (X _ _ hl) (hN _ X).2 ho hcl (jz (aS2 X L hm (PySem.W.handed_on rfl h)))
noncomputable def excI (K:ac)(Cc:Addr):Bool:=bZ K (.ref Cc) (bp "__getattribute__")==some (some (.builtin "BaseException.__getattribute__"))&&(bZ K (.ref Cc) (bp "__getattr__")==some none&&(bZ K (.ref Cc) (bp "__class__")==some (some (.builtin "object.__class__"))&&(gC K (.builtin "object.__class__") (bp "__get__")==some (some (.builtin "getset_descriptor.__get__"))&&(iu K (.builtin "object.__class__")==some true&&jt K Cc (.type "object")==some true))))
def bD8 {K}(hc:ExcCls K Cc)(h:excI K Cc=true):cL K (.ref x) (.ref Cc) (λ h=>XAt h x Cc):=by
 unfold excI at h;simp only[am]at h;obtain⟨h0,z,y,h3,h4,h5⟩:=h;exact bk2 hc (eq_of_beq h0) (eq_of_beq z) (eq_of_beq y) (eq_of_beq h3) (eq_of_beq h4) (eq_of_beq h5)
section
variable {X:Cx} {E:XK} {Cc:Addr} {x:Str}
def bo3 (T:aS5 X E)(hc:ExcCls X.K Cc)(hg:Gl X x)(hm:X.mg x=some (.ref Cc))(hh:X.A.handled=none)(hd:(x==("__debug__":Str))=false) :
  PS X (.Raise (some (.Call (.Name x np) [.Constant (.str y) j p] [] F)) none pos) (λ D W H=>∀ a,E (.ref a) (some Cc) H):=by
 intro z s W H D I q;obtain⟨bm,N,nm,q',bs,hdct,sn,sub,ab,col,dd,k0,k1,k2,k3,k5,mN,e,hq,hN⟩:=hc.obj;have Y:=hN _ I.kIn;refine wpAny_Raise_call_subT (nm:=nm) (q:=q') (C:=Cc) (N:=N) (bs:=bs) (hdct:=hdct) (sn:=sn) (sub:=sub) (ab:=ab) (col:=col) (dd:=dd) (k0:=k0) (k1:=k1) (k2:=k2) (k3:=k3) (k5:=k5) iP (OwnTail.hasType Y.2.tail iP.hasBase) hh rfl (hq _ (au ..)) ?_;refine thn (ax4 (v:=.ref Cc) hg hm rfl hd z s W H (λ v J=>v=.ref Cc/\J=H) I ⟨rfl,rfl⟩) λ u s1 ⟨v,J,I1,r,e1,e2⟩=>?_;subst e1 e2;refine⟨r,iG ?_⟩;have pa:PA X [.Constant (.str y) j p] (ao2 (tC (.str y)) bg8):=zq au4 ad4;refine thn (pa F z s1 W J (λ vs Z=>vs.length=1/\Z=J) I1 ⟨rfl,rfl⟩) λ us s2 ⟨vs,Z,G,r2,e3,e4⟩=>?_;subst e4;have hl:us.length=1:=by rw[<-r2.length];exact e3
 refine⟨rfl,by show us.length<=_;rw[hl];decide,G.kIn _ _ e,(hN _ G.kIn).1,(hN _ G.kIn).2.tail,λ h' a M=>?_⟩;exact T z W Z s2 h' a Cc us G M (q a)
end
structure Tr (X:Cx)(pins:yA)(W:St)(H:Hp)(s:af)(a Cc:Addr)(fl:Value):Prop where
 inv:Inv X pins W H s
 n0:X.s₀.heap.get? a=none
 nH:H a=none
 np:∀ p∈X.pn++pins,p.1≠a
 tr:∃ a0 oe vs T oT ts,s.heap.get? a=some oe/\(oe.cls=.ref Cc/\vs[0]?=some a0)/\oe.data=.fields vs/\vs[1]?=some (.ref T)/\X.s₀.heap.get? T=none/\H T=none/\(∀ p∈X.pn++pins,p.1≠T)/\T≠a/\s.heap.get? T=some oT/\oT.data=.fields ts/\ts[3]?=some fl
section
variable {X:Cx} {pins:yA} {W:St} {H:Hp} {s:af} {a Cc T:Addr} {fl fl' a0:Value} {h':Heap}
def Tr.stk (y:X.stack=X.env::X.outer)(z:X.env.frame=some X.env.locals):∀ b∈X.fs,b∈frs X.stack:=λ b hb=>by rw[y];unfold frs;rw[bA,z];exact ai _ hb
def Tr.moved (t:Tr X pins W H s a Cc fl)(a2:X.ex=[])(a8:X.stack=X.env::X.outer)(b5:X.env.frame=some X.env.locals){ts:yK}(a3:X.s₀.heap.get? T=none)(a4:H T=none)(a6:∀ p∈X.pn++pins,p.1≠T)(b1:s.heap.get? T=some oT)(b4:oT.data=.fields ts)
  (st:(zz s.heap (a::T::frs X.stack)).StaysIn h') (ff:h'.FunFrames (zz s.heap (a::T::frs X.stack)) X.stack) (tr:h'.TracedAtW (zz s.heap (a::T::frs X.stack)) a (.ref Cc) a0 fl')
  (sl:∀ b o,s.heap.get? b=some o->(∀ vs,o.data≠.fields vs)->∃ sl,h'.get? b=some { o with slots:=sl }):Tr X pins W H { s with heap:=h' } a Cc fl':=by
 have I:=t.inv;have un:=I.base;rw[a2]at un;have a5:=Tr.stk a8 b5;obtain⟨b0,oe,vs,_,_,_,g1,_,g3,_⟩:=t.tr;have a1:∀ b,b∈a::T::frs X.stack->b=a\/b=T\/b∈frs X.stack:=λ b hb=>by
  rcases aw.mp hb with q|q
  .exact .inl q
  .exact .inr (aw.mp q)
 have keep:=λ b o n1 n2 n3 e=>st b o (by
  rw[qa λ z=>(a1 b z).elim n1 λ z=>z.elim n2 n3];exact e)
 have slot:∀ b o,b∈frs X.stack->s.heap.get? b=some o->∃ sl,h'.get? b=some { o with slots:=sl }:=λ b o n e=>by
  obtain⟨_,o',e',d⟩:=I.stack.mem n;rw[e]at e';cases e';exact sl b o e d
 have b6:∀ b o,X.s₀.heap.get? b=some o->b ∉ X.fs->b ∉ frs X.stack:=λ b o e n z=>by
  rcases aw.mp (I.stkSub b z)with q|q
  .subst q;exact absurd (aL e) (lr.mpr I.ok.above)
  .exact n q
 have G:∀ b o,X.s₀.heap.get? b=some o->b≠a/\b≠T:=λ b o e=>⟨λ z=>(by rw[z,t.n0]at e;cases e),λ z=>(by rw[z,a3]at e;cases e)⟩
 have c0:∀ b o,s.heap.get? b=some o->(∀ vs,o.data≠.fields vs)->b≠a/\b≠T:=λ b o e d=>⟨λ z=>(by rw[z,g1]at e;cases e;exact d _ g3),λ z=>(by rw[z,b1]at e;cases e;exact d _ b4)⟩
 have up:∀ b o,s.heap.get? b=some o->(∀ vs,o.data≠.fields vs)->∃ sl,h'.get? b=some { o with slots:=sl }:=sl;have Y:Inv X pins W H { s with heap:=h' }:=by
  refine⟨I.ok,I.os,I.bare,?_,?_,λ x c e=>?_,I.free,I.freeC,λ p hp=>?_,I.hok.part λ b u o e q=>?_,I.len⟩
  .rw[a2];refine⟨λ b o e n nf nx=>?_,λ b o e n nf nx=>?_,un.free,λ b o e nx=>?_,un.tups,un.frzs,un.tbls⟩
   .exact keep b o (G b o e).1 (G b o e).2 (b6 b o e nf) (un.keep b o e n nf nx)
   .obtain⟨a7,e1⟩:=un.slot b o e n nf nx;obtain⟨J,e2⟩:=slot b _ (a5 b nf) e1;exact⟨J,e2⟩
   .obtain⟨o1,e1⟩:=un.there b o e nx;by_cases z:b∈frs X.stack
    .obtain⟨_,e2⟩:=slot b _ z e1;exact⟨_,e2⟩
    .exact⟨_,keep b o1 (G b o e).1 (G b o e).2 z e1⟩
  .obtain⟨m,⟨o,es,ep,ho,hd,hr⟩,hl⟩:=I.loc;obtain⟨a7,e1⟩:=up _ o ho (λ vs z=>by rw[hd]at z;cases z);refine⟨m,⟨_,es,ep,e1,hd,hr⟩,λ i x v h1 h2 h3=>?_⟩;obtain⟨u,r,lk⟩:=hl i x v h1 h2 h3;refine⟨u,r,?_⟩;rcases lk with z|⟨z1,c,z2,oc,z3,Z⟩
   .exact .inl z
   .obtain⟨J,e2⟩:=up c oc z3 (λ vs z=>by rw[Z]at z;cases z);exact .inr ⟨z1,c,z2,_,e2,Z⟩
  .obtain⟨v,oc,z3,Z⟩:=I.cell x c e;obtain⟨J,e2⟩:=up c oc z3 (λ vs z=>by rw[Z]at z;cases z);exact⟨v,_,e2,Z⟩
  .obtain⟨q1,q2,q3,q4,q5⟩:=I.pin p hp;refine⟨keep _ _ (t.np p hp) (a6 p hp) (λ z=>?_) q1,q2,q3,q4,q5⟩;rcases aw.mp (I.stkSub _ z)with q|q
   .exact q3 q
   .exact q4 q
  .refine keep b o (λ z=>?_) (λ z=>?_) (λ z=>?_) q
   .rw[z,t.nH]at e;cases e
   .rw[z,a4]at e;cases e
   .rw[I.stkFree b z]at e;cases e
 refine⟨Y,t.n0,t.nH,t.np,?_⟩;obtain⟨b2,b9,F,a9,b3,h1,h2,h3,h4,h5,h6,h7,h8,h9⟩:=tr;have key:X.s₀.heap.get? F=none/\H F=none/\∀ p∈X.pn++pins,p.1≠F:=by
  rcases without_none h5 with z|z
  .rcases a1 F z with y|y|y
   .exact absurd y h6
   .subst y;exact⟨a3,a4,a6⟩
   .obtain⟨_,o',e',d⟩:=ff.mem y;rw[h7]at e';cases e';exact absurd h8 (d _)
  .refine⟨?_,?_,λ p hp y=>?_⟩
   .cases e:X.s₀.heap.get? F with
    | none=>rfl
    | some o=>obtain⟨o',e'⟩:=un.there F o e (by simp);rw[z]at e';cases e'
   .cases e:H F with
    | none=>rfl
    | some o=>obtain⟨u,e'⟩:=(I.hok F o e).at_;rw[z]at e';cases e'
   .have:=(I.pin p hp).1;rw[y,z]at this;cases this
 exact⟨a0,b2,b9,F,a9,b3,h1,h2,h3,h4,key.1,key.2.1,key.2.2,h6,h7,h8,h9⟩
def Tr.noted (t:Tr X pins W H s a Cc .none)(J:X.ex=[])(y:X.stack=X.env::X.outer)(F:X.env.frame=some X.env.locals){E:yB}
  (k:∀ h' fl,Tr X pins W H { s with heap:=h' } a Cc fl->(∀ b o,s.heap.get? b=some o->(∀ vs,o.data≠.fields vs)->∃ sl,h'.get? b=some { o with slots:=sl })->Q () { s with heap:=h' }):wpAny (model X.prog X.w) X.A (gW (.ref a) X.env) Q E s:=by
 have I:=t.inv;obtain⟨a0,oe,vs,T,oT,ts,h1,h2,h3,h4,h5,h6,Z,h7,h8,h9,G⟩:=t.tr;have Y:s.heap.FunFrames (zz s.heap (a::T::frs X.stack)) X.stack:=qQ I.stack λ b hb=>zp (ai _ (ai _ hb));have z:=I.ok.frames;rw[y]at z;refine wpAny_noteFrame_onW z (by rw[<-y];exact Y) F ⟨oe,vs,T,oT,ts,h1,h2,h3,h4,zp (by simp),h7,h8,h9,G⟩ zL (zp (au ..)) λ h' L=>?_;rw[<-y]at L;obtain⟨st,ff,tr,sl⟩:=L;exact k h' _ (t.moved J y F h5 h6 Z h8 h9 st ff tr sl) sl
def Tr.down (t:Tr X pins W H s a Cc fl)(z:X.ex=[])(F:X.stack=X.env::X.outer)(Y:X.env.frame=some X.env.locals){E:yB}
  (k:∀ h',Tr X pins W H { s with heap:=h' } a Cc .none->Q () { s with heap:=h' }):wpAny (model X.prog X.w) A (jc (.ref a) none) Q E s:=by
 have I:=t.inv;obtain⟨a0,oe,vs,T,oT,ts,h1,h2,h3,h4,h5,h6,J,h7,Z,h9,y⟩:=t.tr;have G:s.heap.FunFrames (zz s.heap (a::T::frs X.stack)) X.stack:=qQ I.stack λ b hb=>zp (ai _ (ai _ hb));refine wpAny_setFlight_noneW zL G ⟨oe,vs,T,oT,ts,h1,h2,h3,h4,zp (by simp),h7,Z,h9,y⟩ λ h' st ff tr sl=>?_;exact k h' (t.moved z F Y h5 h6 J Z h9 st ff tr.at λ b o e d=>⟨o.slots,sl b o e d⟩)
def CX1.tr (I:Inv X pins W H s)(Y:X.ex=[])(h:CX1 X.prog X.w X.stack H s E e s') :
  ∃ a Cc H',e=.ref a/\Tr X pins W H' s' a Cc .none/\E e (some Cc) H':=by
 have h0:=h;obtain⟨a,Cc,H',rfl,os,bare,un,hok,F,q⟩:=h;obtain⟨a',Cc',a1,e,J,G,q'⟩:=CX1.inv I Y h0;have Z:∀ b,s.heap.get? b=none->X.s₀.heap.get? b=none:=λ b z=>by
  cases e:X.s₀.heap.get? b with
  | none=>rfl
  | some o=>obtain⟨o',e'⟩:=I.base.there b o e (by rw[Y];simp);rw[z]at e';cases e'
 have pn:∀ b,s.heap.get? b=none->∀ p∈X.pn++pins,p.1≠b:=λ b z p hp y=>by
  have:=(I.pin p hp).1;rw[y,z]at this;cases this
 obtain⟨n0,nH,a0,oe,vs,T,oT,ts,h1,h2,h3,h4,h5,h6,h7⟩:=F;exact⟨a,Cc,H',rfl,⟨I.call' os un hok bare (λ b z=>absurd z (by simp)),Z _ n0,nH,pn _ n0,a0,oe,vs,T,oT,ts,h1,h2,h3,h4,Z _ h5,h6,pn _ h5,h7⟩,q⟩
end
noncomputable abbrev Cx.hnd (X:Cx)(a:Addr)(oe:Obj):Cx:={ X with A:=X.A.mark (some (.ref a)),calm:=false,pn:=(a,oe)::X.pn,xe:=λ _ _=>False }
section
variable {X:Cx} {pins:yA} {W:St} {H:Hp} {s:af} {a Cc:Addr} {oe:Obj} {fl:Value}
theorem Cx.Ok.hnd (ok:X.Ok)(a:Addr)(oe:Obj):(X.hnd a oe).Ok:=⟨ok.mod,ok.kind,ok.glob,ok.blt,ok.above,ok.inj,ok.has,ok.cab,(λ z=>by cases z),ok.frames,ok.stk,ok.exf,ok.bs,ok.bsz,ok.noex,ok.exfs,ok.funs,ok.frf⟩
def Inv.apart (I:Inv X pins W H s){vs:yK}(e:s.heap.get? b=some o)(d:o.data=.fields vs):b≠X.env.locals/\b ∉ X.fs/\∀ v,o.data≠.cell v:=by
 refine⟨λ z=>?_,λ z=>?_,λ v z=>by rw[d]at z;cases z⟩
 .obtain⟨m,⟨y,es,F,ho,hd,_⟩,_⟩:=I.loc;rw[<-z,e]at ho;cases ho;rw[d]at hd;cases hd
 .obtain⟨_,y,e',d'⟩:=I.funs.mem z;rw[e]at e';cases e';exact d' _ d
theorem Inv.hnd {vs:yK}(I:Inv X pins W H s)(e:s.heap.get? a=some oe)(n:H a=none)(d:oe.data=.fields vs):Inv (X.hnd a oe) pins W H s :=
 ⟨I.ok.hnd a oe,I.os,I.bare,I.base,I.loc,I.cell,I.free,I.freeC,λ p hp=>by
  rcases aw.mp hp with z|z
  .subst z;exact⟨e,n,I.apart e d⟩
  .exact I.pin p z,I.hok,I.len⟩
def Inv.unhnd (ok:X.Ok)(I:Inv (X.hnd a oe) pins W H s):Inv X pins W H s:=⟨ok,I.os,I.bare,I.base,I.loc,I.cell,I.free,I.freeC,λ p hp=>I.pin p (ai _ hp),I.hok,I.len⟩
def bb0 {E:yB}(I:Inv X pins W H s)(hN:X.N.Nodup)(Z:X.N[i]?=some x)(hx:X.env.scope.names.lookup x=some .local)(hv:W[i]?=some (some v))
  (h:∀ s',Inv X pins (W.set i none) H s'->Q () s'):wpAny M A (unbindName X.env x) Q E s:=by
 obtain⟨m,hn,hl⟩:=id I.loc;have G:(X.env.scope.kind==.class||(X.env.scope.kind==.module&&X.env.locals != X.env.globals))=false:=by rw[I.ok.kind];rfl
 obtain⟨u,r,lk⟩:=hl i x v Z hv (.inl hx);have hm:m x=some u:=by
  rcases lk with⟨_,e⟩|⟨e,_⟩
  .exact e
  .have Y:X.env.kindOf x=some .local:=hx;rw[Y]at e;rcases e with e|e<;>cases e
 have cne:=I.cne;refine wpAny_unbindName_local hx hn hm G λ h' u' J hs=>?_;obtain⟨oL,_,_,a0,_⟩:=id hn;have F:∀ b o,X.s₀.heap.get? b=some o->b≠X.env.locals:=λ b o e=>aC (aK (aL e) I.ok.above);refine h _ ⟨I.ok,I.os,I.bare,⟨λ b o e n hb hx=>?_,λ b o e n hb hx=>?_,I.base.free,λ b o e hx=>?_,I.base.tups,I.base.frzs,I.base.tbls⟩,⟨_,J,λ j y v' e1 e2 e3=>?_⟩,λ y c e=>?_,I.free,I.freeC,λ p hp=>?_,I.hok.part λ b w o e q=>?_,by rw[bt];exact I.len⟩
 .exact(hs.2 b (F b o e)).trans (I.base.keep b o e n hb hx)
 .obtain⟨sl,e1⟩:=I.base.slot b o e n hb hx;exact⟨sl,(hs.2 b (F b o e)).trans e1⟩
 .obtain⟨o',e1⟩:=I.base.there b o e hx;exact⟨o',(hs.2 b (F b o e)).trans e1⟩
 .have hj:j≠i:=λ z=>by
   subst z;rw[aX (ah.mp hv).1]at e2;cases e2
  rw[bI (d7 hj)]at e2;obtain⟨w,r',q⟩:=hl j y v' e1 e2 e3;refine⟨w,r',?_⟩;rcases q with⟨k,e⟩|⟨k,c,e,z⟩
  .refine .inl ⟨k,?_⟩;have:y≠x:=λ e=>hj (aw8 hN e1 (e▸Z));simp[this,e]
  .exact .inr ⟨k,c,e,z.sameBut hs (cne y c e)⟩
 .obtain⟨w',z⟩:=I.cell y c e;exact⟨w',z.sameBut hs (cne y c e)⟩
 .obtain⟨e,n,ne,nf,d⟩:=I.pin p hp;exact⟨(hs.2 p.1 ne).trans e,n,ne,nf,d⟩
 .refine(hs.2 b λ z=>?_).trans q;rw[z,I.free]at e;cases e
def Tr.own (t:Tr X pins W H s a Cc fl):∃ oe vs,s.heap.get? a=some oe/\oe.cls=.ref Cc/\oe.data=.fields vs:=by
 obtain⟨a0,oe,vs,T,F,ts,z,y,h3,_⟩:=t.tr;exact⟨oe,vs,z,y.1,h3⟩
def Tr.again (t:Tr X pins W H s a Cc fl){Q:V->Hp->Prop}(he:∀ oe,PE (X.hnd a oe) e (tC v)){E:yB}{R:yB}
  (k:∀ u s',RelV v u->Tr X pins W H s' a Cc fl->R u s'):wpAny (model X.prog X.w) (X.A.mark (some (.ref a))) (eval e X.env) R E s:=by
 obtain⟨a0,oe,vs,T,F,ts,h1,h2,h3,h4,h5,h6,Y,h7,h8,h9,G⟩:=t.tr;have I:=t.inv;have J:Inv (X.hnd a oe) ((T,F)::pins) W H s:=(I.hnd h1 t.nH h3).pins_of λ p hp=>by
  rcases aw.mp hp with z|z
  .subst z;exact⟨h8,h6,I.apart h8 h9⟩
  .exact I.pin p (aO _ z)
 refine bf (he oe ((T,F)::pins) s W H (λ w Z=>w=v/\Z=H) J ⟨rfl,rfl⟩) (λ u s1 ⟨w,Z,y,r,e1,e2⟩=>?_) (λ _ _ z=>bn z);subst e1 e2;refine k u s1 r ⟨(y.pins_of λ p hp=>y.pin p (aO _ (ai _ hp))).unhnd I.ok,t.n0,t.nH,t.np,a0,oe,vs,T,F,ts,(y.pin (a,oe) (au ..)).1,h2,h3,h4,h5,h6,Y,h7,(y.pin (T,F) (aO _ (au ..))).1,h9,G⟩
end
section
variable {prog:aJ} {w:World} {A:aS} {R:km->af->Prop} {I:Addr} {fp wr:List Addr} {n:Nat} {P:Nat->Value->Prop} {St:Nat->Heap->Prop} {h₀:Heap}
end
section
variable {X:Cx} {pins:yA} {W:St} {H:Hp} {s:af} {a Cc:Addr} {oe:Obj} {fl:Value}
end
def bj9 :PG X e (λ _ _ _ _=>False):=λ _ _ _ _ _ _ _ _ _ z=>z.elim
theorem PG.nox (h:PG X.nox e t):PG X e t:=λ y s W H v u Q I r hw =>
 bf (h y s W H v u Q (I.wish _) r hw) (λ _ _ ⟨W',H',F,q⟩=>⟨W',H',F.unwish,q⟩) λ _ _ z=>bn z
theorem PI.nox (h:PI X.nox tg e t):PI X tg e t:=λ y s W H R I hw =>
 bf (h y s W H R (I.wish _) hw) (λ _ _ z=>bf z (λ _ _ z=>by
  obtain⟨it,fp,Y,J,H2,e,G,T,F,Z,q⟩:=z;exact⟨it,fp,Y,J,H2,e,G.unwish,T,F,Z,q⟩) λ _ _ z=>bn z) λ _ _ z=>bn z
def bI0 {E:yB}{K}{ D}{z:yM}{rest:List fq}(hx:bJ K (.ref Cc) (.ref D)=some true)
  (h:wpAny (model P w) (A.mark (some (.ref e))) (eval t env) (λ c G=>c=.ref D/\K.In G.heap/\(∃ oe,G.heap.get? e=some oe/\oe.cls=.ref Cc) /\
   wpAny (model P w) (A.mark (some (.ref e))) (jc (.ref e) none) (λ _ s₂=>wpAny (model P w) (A.mark (some (.ref e))) (lH env n (.ref e)) (λ _ Z=>wpAny (model P w) (A.mark (some (.ref e))) (execs (J::z) env)
    (λ f s₄=>wpAny (model P w) A (do bindName env n .none;unbindBehindTheSuite env n pos) (λ _ Y=>Q f Y) E s₄)
    (AsSuiteRaised (model P w) (A.mark (some (.ref e))) env n pos (d9 (model P w) (A.mark (some (.ref e))) env (jJ (model P w) A env E))) Z) (d9 (model P w) (A.mark (some (.ref e))) env (jJ (model P w) A env E)) s₂) (d9 (model P w) (A.mark (some (.ref e))) env (jJ (model P w) A env E)) G) (d9 (model P w) (A.mark (some (.ref e))) env (jJ (model P w) A env E)) s) :
  wpAny (model P w) A (handleBy (.ref e) env (.ExceptHandler (some t) (some n) (J::z) pos::rest)) Q E s:=by
 refine wpAny_handleBy_cons (codeAny_handlers_test (bf h (λ c G h₁=>?_) λ _ _ y=>y)) (by intro q;cases q);obtain⟨rfl,X,⟨oe,he,F⟩,hk⟩:=h₁;have LT:dY (model P w) G.heap (jD (.ref e)) (.ref Cc):=by
  rw[<-F];exact(kE he).andThen .now
 exact(PySem.W.exm_one X LT hx).here (codeAny_handlers_suite_as hk)
section
variable {X:Cx} {pins:yA} {W:St} {H:Hp} {s:af} {a Cc D':Addr} {oe:Obj} {fl:Value}
def aT8 {y:yM}{rest}{D}(t:Tr X pins W H s a Cc .none)(J:X.ex=[])(Y:X.stack=X.env::X.outer)(Z:X.env.frame=some X.env.locals)
  (hx:bJ X.K (.ref Cc) (.ref D')=some true) (hg:Gl X x) (hm:X.mg x=some (.ref D')) (hd:(x==("__debug__":Str))=false) (hN:X.N.Nodup) (hi:X.N[i]?=some n) (hl:X.env.scope.names.lookup n=some .local)
  (hb:∀ oe,oe.cls=.ref Cc->PSs (X.hnd a oe) (b₀::y) th) (hq:th { nx:=λ _ _=>False,rt:=D.rt } (W.set i (some (.ref a))) H) :
  wpAny (model X.prog X.w) X.A (gW (.ref a) X.env) (λ _ s₂=>wpAny (model X.prog X.w) X.A (jc (.ref a) none) (λ _ s₃=>wpAny (model X.prog X.w) X.A (handleBy (.ref a) X.env (.ExceptHandler (some (.Name x np)) (some n) (b₀::y) pos::rest)) (SP X pins D) X.xe s₃) X.xe s₂) X.xe s:=by
 refine t.noted J Y Z λ h2 fl t2 _=>t2.down J Y Z λ h3 t3=>?_;refine bI0 (K:=X.K) hx ?_;refine t3.again (Q:=λ _ _=>True) (v:=.ref D') (λ oe=>ax4 (X:=X.hnd a oe) hg hm rfl hd) λ u s4 r t4=>?_;obtain⟨a3,b1,a5,a6,a9⟩:=t4.own;refine⟨r,t4.inv.kIn,⟨a3,a5,a6⟩,?_⟩;refine t4.down J Y Z λ h5 G=>?_;obtain⟨F,a8,a1,a2,a0⟩:=G.own;have J5:Inv X ((a,F)::pins) W H { s4 with heap:=h5 }:=G.inv.pins_of λ p hp=>by
  rcases aw.mp hp with z|z
  .subst z;exact⟨a1,G.nH,G.inv.apart a1 a0⟩
  .exact G.inv.pin p (aO _ z)
 refine an3 J5 hN hi (.inl hl) (v:=.ref a) rfl (λ s6 J6=>?_) (.inr hl);have J7:Inv (X.hnd a F) pins (W.set i (some (.ref a))) H s6:=(J6.pins_of λ p hp=>J6.pin p (aO _ (ai _ hp))).hnd (J6.pin (a,F) (aO _ (au ..))).1 G.nH a0;refine bf (hb F a2 pins s6 _ H { nx:=λ _ _=>False,rt:=D.rt } J7 hq) (λ f s8 z=>?_) (λ _ _ z=>bn z);cases f with
 | next=>obtain⟨_,_,_,z⟩:=z;exact bn z
 | brk=>obtain⟨_,_,_,z⟩:=z;exact bn z
 | cont=>obtain⟨_,_,_,z⟩:=z;exact bn z
 | ret u8 =>
  obtain⟨v8,W8,H8,J8,r8,q8⟩:=z;have J8:=J8.unhnd G.inv.ok;refine ae (wpAny_bindName (an3 J8 hN hi (.inl hl) (v:=.N) (u:=.none) rfl (λ s9 J9=>?_) (.inr hl)));have a7:i < W8.length:=by rw[J8.len];exact(ah.mp hi).1
  exact fo (bb0 J9 hN hi hl (by rw[aX a7]) λ b0 a4=>⟨v8,_,H8,a4,r8,q8⟩)
end
section
open PySem.AutoSeq1 (wpAny_loadPart')
open PySem.MeetsSeq PySem.MeetsSeq2 PySem.MeetsSeq3 PySem.SeqAt
end
section
variable {A:aS} {s:af}
end
section
variable {prog:aJ} {w:World} {A:aS} {E:yB} {s:af} {x y:Str} {t u:Tok}
end
section
variable {X:Cx} {pins:yA} {W:St} {H:Hp} {s:af} {a Cc T:Addr} {fl a0:Value}
def Inv.but (I:Inv X pins W H s)(h0:X.s₀.heap.get? b=none)(hH:H b=none)(hl:b≠X.env.locals)(hc:∀ x c,X.env.cells.lookup x=some c->c≠b)(hp:∀ p∈X.pn++pins,p.1≠b)(hs:bN b s.heap h'):Inv X pins W H { s with heap:=h' }:=by
 have g:∀ c o,c≠b->s.heap.get? c=some o->h'.get? c=some o:=λ c o n e=>(hs.2 c n).trans e;have F:∀ c o,X.s₀.heap.get? c=some o->c≠b:=λ c o e z=>by rw[z,h0]at e;cases e
 have un:=I.base;refine⟨I.ok,I.os,I.bare,⟨λ c o e n J nx=>g _ _ (F c o e) (un.keep c o e n J nx),λ c o e n J nx=>?_,un.free,λ c o e nx=>?_,un.tups,un.frzs,un.tbls⟩,?_,λ x c e=>?_,I.free,I.freeC,λ p q=>?_,I.hok.part λ c u o e q=>g _ _ (λ z=>by rw[z,hH]at e;cases e) q,I.len⟩
 .obtain⟨sl,e1⟩:=un.slot c o e n J nx;exact⟨sl,g _ _ (F c o e) e1⟩
 .obtain⟨o1,e1⟩:=un.there c o e nx;exact⟨o1,g _ _ (F c o e) e1⟩
 .obtain⟨m,⟨o,es,ep,ho,hd,hr⟩,G⟩:=I.loc;refine⟨m,⟨o,es,ep,g _ _ hl.symm ho,hd,hr⟩,λ i x v h1 Z h3=>?_⟩;obtain⟨u,r,lk⟩:=G i x v h1 Z h3;refine⟨u,r,?_⟩;rcases lk with z|⟨z1,c,z2,oc,Y,y⟩
  .exact .inl z
  .exact .inr ⟨z1,c,z2,oc,g _ _ (hc x c z2) Y,y⟩
 .obtain⟨v,oc,Y,y⟩:=I.cell x c e;exact⟨v,oc,g _ _ (hc x c e) Y,y⟩
 .obtain⟨q1,q2⟩:=I.pin p q;exact⟨g _ _ (hp p q) q1,q2⟩
theorem aV7 {h h' :Heap}(k:∀ b o,h.get? b=some o->(∀ vs,o.data≠.fields vs)->h'.get? b=some o):∀ {l},h.FunFrames base l->h'.FunFrames base l
 | [],_=>True.intro
 | env::l,⟨q,⟨L,o,hf,hn,ho,hd⟩,r⟩=>⟨q,⟨L,o,hf,hn,k _ _ ho hd,hd⟩,aV7 k r⟩
def Tr.set (t:Tr X pins W H s a Cc fl)(a1:X.ex=[])(a2:X.stack=X.env::X.outer)(a5:X.env.frame=some X.env.locals) v :∃ oe vs T F ts,s.heap.get? a=some oe/\oe.cls=.ref Cc/\oe.data=.fields vs/\vs[0]?≠none/\vs[1]?=some (.ref T)/\s.heap.get? T=some F/\F.data=.fields ts/\ts[3]?=some fl /\
  ∀ {Q} {E:yB},(∀ h',Tr X pins W H { s with heap:=h' } a Cc v->h'.get? a=some oe->(∀ b o,s.heap.get? b=some o->(∀ vs,o.data≠.fields vs)->h'.get? b=some o)->Q () { s with heap:=h' })->wpAny (model X.prog X.w) A (setField (.ref T) 3 v) Q E s:=by
 have I:=t.inv;obtain⟨a0,oe,vs,T,F,ts,h1,h2,h3,h4,h5,h6,a4,h7,J,Z,G⟩:=t.tr;refine⟨oe,vs,T,F,ts,h1,h2.1,h3,by rw[h2.2];nofun,h4,J,Z,G,λ k=>?_⟩;have Y:=(gp.mp G).1;refine iK J Z Y ?_;generalize hh:s.heap.update T (Obj.mapFields λ x=>x.setIfInBounds 3 v)=h';have gT:h'.get? T=some { F with data:=.fields (ts.setIfInBounds 3 v) }:=by
  rw[<-hh];obtain⟨c,d,dt,sl⟩:=F;cases Z;exact eS _ J rfl
 have gn:∀ b,b≠T->h'.get? b=s.heap.get? b:=λ b hb=>by
  rw[<-hh];exact Heap.get?_update_ne _ _ _ _ hb
 have nf:∀ b o,s.heap.get? b=some o->(∀ vs,o.data≠.fields vs)->h'.get? b=some o:=λ b o e d=>by
  rw[gn b (λ z=>by rw[z,J]at e;cases e;exact d _ Z)];exact e
 have a3:s.heap.FunFrames (zz s.heap (a::T::frs X.stack)) X.stack:=qQ I.stack λ b hb=>zp (ai _ (ai _ hb));refine k h' (t.moved a1 a2 a5 h5 h6 a4 J Z (a0:=a0) ?_ ?_ ?_ λ b o e d=>⟨o.slots,nf b o e d⟩) ((gn a h7.symm).trans h1) nf
 .intro b o e;by_cases z:b∈a::T::frs X.stack
  .rw[zp z]at e;cases e
  .rw[qa z]at e;rw[gn b (λ y=>z (by rw[y];simp))];exact e
 .exact aV7 nf a3
 .exact⟨oe,vs,T,_,_,(gn a h7.symm).trans h1,h2,h3,h4,zp (by simp),h7,gT,rfl,by simp[Y]⟩
theorem Tr.but (t:Tr X pins W H s a Cc fl)(h0:X.s₀.heap.get? b=none)(hH:H b=none)(hl:b≠X.env.locals)(hc:∀ x c,X.env.cells.lookup x=some c->c≠b)(hp:∀ p∈X.pn++pins,p.1≠b)(hs:bN b s.heap h')(hb:s.heap.get? b=some ob)(hd:∀ vs,ob.data≠.fields vs):Tr X pins W H { s with heap:=h' } a Cc fl:=by
 obtain⟨a0,oe,vs,T,oT,ts,Y,Z,h3,h4,h5,h6,F,h7,G,J,y⟩:=t.tr;have n1:a≠b:=λ z=>by rw[<-z,Y]at hb;cases hb;exact hd _ h3
 have n2:T≠b:=λ z=>by rw[<-z,G]at hb;cases hb;exact hd _ J
 exact⟨t.inv.but h0 hH hl hc hp hs,t.n0,t.nH,t.np,a0,oe,vs,T,oT,ts,(hs.2 a n1).trans Y,Z,h3,h4,h5,h6,F,h7,(hs.2 T n2).trans G,J,y⟩
def be7 (t:Tr X pins W H s a Cc fl)(F:X.ex=[])(y:X.stack=X.env::X.outer)(z:X.env.frame=some X.env.locals){E:yB}
  (k:∀ h',Un X.fs [] X.H₀ H X.s₀.heap h'->HOk X.prog X.w H h'->Fly X.s₀.heap H h' a Cc->Q () { s with heap:=h' }):wpAny (model X.prog X.w) X.A (kZ X.env (.ref a)) Q E s:=by
 have fin:∀ h',Tr X pins W H { s with heap:=h' } a Cc .none->Q () { s with heap:=h' }:=λ h' t'=>by
  have un:=t'.inv.base;rw[F]at un;obtain⟨a0,oe,vs,T,oT,ts,h1,Y,h3,h4,h5,h6,a3,h7,h8,h9,Z⟩:=t'.tr;exact k h' un t'.inv.hok ⟨t'.n0,t'.nH,a0,oe,vs,T,oT,ts,h1,Y,h3,h4,h5,h6,h7,h8,h9,Z⟩
 obtain⟨oe,vs,T,oT,ts,h1,Y,h3,h0,h4,h5,h6,h7,J⟩:=t.set F y z .none ;unfold kZ gW;rw[z];refine ae (ae (bG h1 h3 h4 ?_));refine gm rfl (ae (bG h5 h6 h7 ?_));by_cases hf:(fl==kj (X.env.locals))=true
 .exact gm (decide_eq_true hf) (aA (t.down F y z fin))
 .refine fO (decide_eq_false hf) (ae (J λ h' t' e1 nf=>?_));have I':=t'.inv;obtain⟨a0,e0⟩:∃ a0,vs[0]?=some a0:=by
   cases q:vs[0]? with
   | none=>exact absurd q h0
   | some x=>exact⟨x,rfl⟩
  have G:=I'.ok.frames;rw[y]at G;have a2:h'.FunFrames (zz h' (a::frs X.stack)) X.stack:=qQ I'.stack λ b hb=>zp (ai _ hb);refine wpAny_newEntryW G (by rw[<-y];exact a2) z e1 zL (zp (au ..)) h3 (gp.mp h4).1 e0 λ a1 L=>?_;rw[Y,<-y]at L;obtain⟨u,o,f⟩:=aK8 I' F (λ b hb=>ai _ hb) (λ b hb=>by
   rcases aw.mp hb with q|q
   .subst q;exact .inr ⟨t.n0,t.nH⟩
   .exact .inl q) t.n0 t.nH (Tr.stk y z) L
  exact k a1 u o f
def Pst (X:Cx)(E:XK):Prop:=∀ pins W H s a Cc fl ,Tr X pins W H s a Cc fl->E (.ref a) (some Cc) H->X.xe (.ref a) s
def bR9 {K}:Pst (al6 (CX1 P w) P w K J base N qual scope f G A y s0 H0 E) E :=
 λ z W H s a Cc Y t q=>be7 t rfl rfl rfl λ h' u o F=>⟨a,Cc,H,rfl,t.inv.os,t.inv.bare,u,o,F,q⟩
def bi9 Y src (G:X.ex=[])(a3:X.stack=X.env::X.outer)(a4:X.env.frame=some X.env.locals)(hP:Pst X E)
  (a7:zF Y src scope X.N X.env.scope=true) (hi:PI X tg iter wi) (Z:X.calm=true)
  (a8:∀(Cc:Addr) (cells:yC) (s:af) (H:Hp) (ex:List Addr) (Ww:yB),qt (CX1 X.prog X.w) ((zv X Y scope Cc cells s H ex).wish Ww) E->PG ((zv X Y scope Cc cells s H ex).wish Ww) tg g/\PIf ((zv X Y scope Cc cells s H ex).wish Ww) a1 tc/\PE ((zv X Y scope Cc cells s H ex).wish Ww) elt te)
  (hs:autoParam (∀ x,cD iter X.env x=pure x) Zq3._auto_1):PE X (.ListComp elt [⟨tg,iter,a1,0⟩] scope pos) (tComp src wi g tc te):=by
 refine aO8 Y src a7 hi Z (λ cells s H ex y W I hf=>?_) hs;have c0:X.s₀.heap.get? s.heap.objs.size=none:=by
  cases e:X.s₀.heap.get? s.heap.objs.size with
  | none=>rfl
  | some o=>exact absurd (aL e) (lr.mpr I.sz)
 have cl:=cK I.lt;have cc:∀ x c,X.env.cells.lookup x=some c->c≠s.heap.objs.size:=λ x c e=>by
  obtain⟨v,q⟩:=I.cell x c e;exact aC q.lt
 have cp:=λ p hp=>aC (aL (I.pin p hp).1);refine⟨λ e s'=>∃ a Cc H' m,e=.ref a/\Tr X y W H' s' a Cc .none/\E e (some Cc) H'/\H' s.heap.objs.size=none/\s'.heap.Ns s.heap.objs.size m,?_,a8 _ cells s H ex _ ?_⟩
 .rintro _ s' ⟨a,Cc,H',m,rfl,t,q,hn,o,es,ep,ho,hd,hr⟩
  refine t.noted G a3 a4 λ h2 fl t2 sl=>?_;obtain⟨b1,e2⟩:=sl _ o ho (λ vs z=>by rw[hd]at z;cases z);refine⟨m,⟨_,es,ep,e2,hd,hr⟩,λ h3 a9 a5 hc=>?_⟩;have t3:=t2.but c0 hn cl cc cp a9 e2 (λ vs z=>by rw[hd]at z;cases z);obtain⟨oe,vs,T,oT,ts,h1,_,a0,h0,h4,h5,h6,h7,a6⟩:=t3.set G a3 a4 (a5.frame.elim Value.none λ f=>kj f) ;unfold lN;refine ae (bG h1 a0 h4 (fO rfl (ae ?_)));unfold jc;exact ae (bG h1 a0 h4 (gm rfl (a6 λ h4 t4 _ _=>wpAny_throw (hP _ _ _ _ _ _ _ t4 q))))
 .intro b0 W' H1 s1 e b2 J h;obtain⟨a,Cc,H',rfl,os,bare,un,hok,F,q⟩:=h;have J0:Inv (zv X Y scope s.heap.objs.size cells s H ex) [] W' H1 s1:=⟨J.ok.unwish,J.os,J.bare,J.base,J.loc,J.cell,J.free,J.freeC,λ p hp=>absurd (hp) (by simp),J.hok,J.len⟩
  have K1:=ay0 I hf J0 (jZ _ _);obtain⟨a2,Cc2,H2,e2,t,q2,rfl⟩:=CX1.tr (E:=λ e o H2=>E e o H2/\H2=H') K1 G ⟨a,Cc,H',rfl,os,bare,un,hok,F,q,rfl⟩;have J1:=J0.call' os un hok bare (ch:=[]) (λ b z=>absurd z (by simp));obtain⟨m,hm,_⟩:=J1.loc;exact⟨a2,Cc2,H2,m,e2,t,q2,J1.free,hm⟩
end
end L2
end
noncomputable section
namespace DV
set_option genInjectivity true in
inductive D where
 | N|T (b:Bool)|int (i:Int)|str (x:List Nat)|tp (l:List D)|ref (n:Nat)|fn (f:String)|clo (f:String) (cs:List D)
noncomputable abbrev D.ctorIdx (x:D):Nat:=D.casesOn x 0 (λ _=>1) (λ _=>2) (λ _=>3) (λ _=>4) (λ _=>5) (λ _=>6) (λ _ _=>7)
noncomputable instance:DecidableEq D:=λ a b=>cF (a=b)
noncomputable instance (x:D):Decidable (x=.N):=match x with
 | .N=>.isTrue rfl
 | .T _=>.isFalse nofun
 | .int _=>.isFalse nofun
 | .str _=>.isFalse nofun
 | .tp _=>.isFalse nofun
 | .ref _=>.isFalse nofun
 | .fn _=>.isFalse nofun
 | .clo _ _=>.isFalse nofun
inductive O where
 | J (l:List D)|ro (l:List D)|ins (c:String) (fs:List (String×D))
noncomputable abbrev O.ctorIdx (x:O):Nat:=O.casesOn x (λ _=>0) (λ _=>1) (λ _ _=>2)
noncomputable instance:DecidableEq O:=λ a b=>cF (a=b)
abbrev Sto:=List O
noncomputable def O.kd:O->Nat
 | .J _=>0|.ro _=>1|.ins _ _=>3
set_option genInjectivity true in
inductive R (α:Type) where
 | ok (a:α) (s:Sto)|exc (e:D) (s:Sto)|B
noncomputable abbrev R.ctorIdx {α:Type} (x:R α):Nat:=R.casesOn x (λ _ _=>0) (λ _ _=>1) 2
noncomputable abbrev M α :=Sto->R α
noncomputable def R.bind (r:R α)(f:α->Sto->R β):R β:=match r with
 | .ok a s=>f a s
 | .exc e s=>.exc e s
 | .B=>.B
@[simp] theorem R.bind_ok a s (f:α->Sto->R β):(R.ok a s).bind f=f a s:=rfl
@[simp] theorem R.bind_bad (f:α->Sto->R β):(R.B).bind f=.B:=rfl
@[simp] theorem R.bind_exc e s (f:α->Sto->R β):(R.exc e s).bind f=.exc e s:=rfl
def R.bind_inv {r:R α}{b:β}(h:r.bind f=.ok b t):∃ a s,r=.ok a s/\f a s=.ok b t:=by
 cases r with
 | ok a s=>exact⟨a,s,rfl,h⟩
 | exc e s=>cases h
 | B=>cases h
@[simp] theorem R.bind_assoc (r:R α) f (g:β->Sto->R γ):(r.bind f).bind g=r.bind λ a s=>(f a s).bind g:=by cases r<;>rfl
mutual
noncomputable def D.bnd (n:Nat):D->Bool
 | .tp l=>D.bndL n l
 | .ref k=>decide (k<n)
 | .clo _ l=>D.bndL n l
 | _=>true
noncomputable def D.bndL (n:Nat):List D->Bool
 | []=>true
 | d::l=>D.bnd n d&&D.bndL n l
end
def O.bnd (n:Nat):O->Bool
 | .J l=>D.bndL n l
 | .ro l=>D.bndL n l
 | .ins _ fs=>D.bndL n (fs.map (·.2))
mutual
noncomputable def D.plain:D->Bool
 | .N=>true|.int _=>true|.str _=>true
 | .tp l=>D.plainL l
 | _=>false
noncomputable def D.plainL:List D->Bool
 | []=>true
 | d::l=>D.plain d&&D.plainL l
end
mutual
noncomputable def D.ncl:D->Bool
 | .tp l=>D.nclL l
 | .clo _ _=>false
 | _=>true
noncomputable def D.nclL:List D->Bool
 | []=>true
 | d::l=>D.ncl d&&D.nclL l
end
def O.ncl:O->Bool
 | .J l=>D.nclL l
 | .ro l=>D.nclL l
 | _=>false
noncomputable def D.key:D->Bool
 | .int _=>true|.str _=>true|_=>false
noncomputable def D.hdI:List D->Bool
 | .int _::_=>true|.N::_=>true|.tp _::_=>true|_=>false
noncomputable def LIM:Nat:=1000000
@[irreducible] noncomputable def BIG:Nat:=2^60000
@[irreducible] noncomputable def DIVL:Nat:=2^4096
set_option genCtorIdx true in
inductive BOp where
 | add|sub|mul|fdiv|mod|pow|shl|shr|band|bor
 deriving DecidableEq
set_option genCtorIdx true in
inductive COp where
 | eq|ne|lt|le|gt|ge|isin|notin
 deriving DecidableEq
set_option genCtorIdx true in
inductive Cn where
 | N|T (b:Bool)|int (i:Int)|str (x:List Nat)
 deriving DecidableEq
noncomputable def Cn.d:Cn->D
 | .N=>.N|.T b=>.T b|.int i=>.int i|.str x=>.str x
set_option genCtorIdx true in
inductive Bi where
 | len|abs|int|str|min2|max2|max3|min3|isInt|isBool|isStr|isTup|isList|ord
 deriving DecidableEq
set_option genCtorIdx true in
inductive Mk where
 | tuple|list|all|any|sum|min|max|sorted|lenset
 deriving DecidableEq
set_option genCtorIdx true in
inductive Mt where
 | append|partition
 deriving DecidableEq
set_option genCtorIdx true in
inductive Tg where
 | Y (i:Nat)|tp (is:List Nat)
 deriving DecidableEq
mutual
inductive E where
 | X (i:Nat)|K (c:Cn)|gl (x:String)
 | G (op:BOp) (a b:E)|neg (a:E)|not (a:E)
 | Z (op:COp) (a b:E)|chain (o p:COp) (a b c:E)
 | isN (a:E)
 | and (a b:E)|or (a b:E)|ite (c a b:E)
 | tp (es:Es)|J (es:Es)
 | ix (a b:E)|slL (a lo:E)|slU (a hi:E)
 | call (f:String) (as:As)
 | bi (b:Bi) (es:Es)|mk (k:Mk) (l:L)
 | me (m:Mt) (o:E) (es:Es)|join (o e:E)|spl (o:E) (c:Nat)
inductive Es where
 | nil|cons (e:E) (es:Es)
inductive As where
 | nil|ex (e:E) (as:As)|fn (f:String) (as:As)
inductive I where
 | seq (e:E)|rg (a:E)|zip (a b:I)
inductive L where
 | comp (tg:Tg) (it:I) (e:E) (caps:yE)|compIf (tg:Tg) (it:I) (c e:E) (caps:yE)|disp (es:Es)|seq (e:E)
end
noncomputable abbrev I.ctorIdx (x:I):Nat:=I.casesOn x (λ _=>0) (λ _=>1) (λ _ _=>2)
mutual
inductive S where
 | A (tg:Tg) (e:E)|setIx (o i e:E)|ex (e:E)|ret (e:E)
 | ite (c:E) (a b:Ss)|whl (c:E) (b:Ss)|fo (tg:Tg) (it:I) (b:Ss)|raise
inductive Ss where
 | nil|cons (s:S) (ss:Ss)
end
abbrev Env:=List (Option D)
noncomputable def af4 (o:O):M D:=λ s=>.ok (.ref s.length) (s++[o])
noncomputable def pur (d:D):M D:=λ s=>.ok d s
noncomputable def bad :M α:=λ _=>.B
def mulOk (a b:Int):Bool:=decide (a.natAbs<2^64)||decide (b.natAbs<2^64)||(decide (a.natAbs<BIG)&&decide (b.natAbs<BIG))
noncomputable def rep:Nat->List Nat->List Nat
 | 0,_=>[]
 | n+1,a=>a++rep n a
noncomputable def bc6:Nat->List D->List D
 | 0,_=>[]
 | n+1,a=>a++bc6 n a
def qK:BOp->D->D->M D
 | .add,.int a,.int b=>pur (.int (a+b))
 | .add,.str a,.str b=>if a.length+b.length<=LIM then pur (.str (a++b))else bad
 | .add,.tp a,.tp b=>if a.length+b.length<=LIM then pur (.tp (a++b))else bad
 | .add,.ref a,.ref b=>λ s=>match s[a]?,s[b]? with
  | some (.J l),some (.J m)=>if l.length+m.length<=LIM then af4 (.J (l++m)) s else .B
  | _,_=>.B
 | .sub,.int a,.int b=>pur (.int (a - b))
 | .mul,.int a,.int b=>if mulOk a b then pur (.int (a*b))else bad
 | .mul,.str a,.int n=>if 0<=n/\n<=1000000/\a.length*n.toNat<=LIM then pur (.str (rep n.toNat a))else bad
 | .mul,.tp a,.int n=>if 0<=n/\n<=1000000/\a.length*n.toNat<=LIM then pur (.tp (bc6 n.toNat a))else bad
 | .mul,.ref a,.int n=>λ s=>match s[a]? with
  | some (.J l)=>if 0<=n/\n<=1000000/\l.length*n.toNat<=LIM then af4 (.J (bc6 n.toNat l)) s else .B
  | _=>.B
 | .fdiv,.int a,.int b=>if 0<b/\b<(DIVL)then pur (.int (a / b))else bad
 | .mod,.int a,.int b=>if 0<b then pur (.int (a % b))else bad
 | .pow,.int a,.int b=>if 0<=b/\b<=1000000/\a.natAbs<2^64 then pur (.int (a^b.toNat))else bad
 | .shl,.int a,.int b=>if 0<=b/\b<=1000000/\a.natAbs<2^64 then pur (.int (a*2^b.toNat))else bad
 | _,_,_=>bad
noncomputable def kd (s:Sto):D->Nat
 | .N=>0|.T _=>1|.int _=>1|.str _=>2|.tp _=>3
 | .ref r=>match s[r]? with|some (.J _)=>4|_=>9
 | _=>9
noncomputable def aH4 (a b:Nat):Bool:=a==9||b==9||a==b
noncomputable def b2i (b:Bool):Int:=if b then 1 else 0
def aV4:D->D->Option Bool
 | .N,.N=>some true
 | .T a,.T b=>some (a==b)
 | .int a,.int b=>some (a==b)
 | .T a,.int b=>some (b2i a==b)
 | .int a,.T b=>some (a==b2i b)
 | .str a,.str b=>some (a==b)
 | _,_=>none
def af1 (s:Sto)(a b:D):Option Bool:=match aV4 a b with
 | some z=>some z
 | none=>if aH4 (kd s a) (kd s b)then none else some false
noncomputable def eqL (f:D->D->Option Bool):List D->List D->Option Bool
 | [],[]=>some true
 | [],_::_=>some false
 | _::_,[]=>some false
 | a::l,b::m=>match f a b,eqL f l m with
  | some x,some y=>some (x&&y)
  | _,_=>none
def eqv (s:Sto):Nat->D->D->Option Bool
 | 0,a,b=>af1 s a b
 | n+1,a,b=>match a,b with
  | .tp l,.tp m=>eqL (eqv s n) l m
  | .ref x,.ref y=>match s[x]?,s[y]? with
   | some (.J l),some (.J m)=>if l.length=m.length then eqL (eqv s n) l m else some false
   | _,_=>none
  | a,b=>af1 s a b
noncomputable def DEEP:Nat:=30
def eqM (a b:D):M D:=λ s=>match eqv s DEEP a b with
 | some r=>.ok (.T r) s
 | none=>.B
def inL (s:Sto)(x:D):List D->Option Bool
 | []=>some false
 | y::l=>match eqv s DEEP y x,inL s x l with
  | some a,some b=>some (a||b)
  | _,_=>none
noncomputable def look (k:D):List (D×D)->Option D
 | []=>none
 | (a,v)::l=>if a=k then some v else look k l
def inM (a b:D):M Bool:=λ s=>match b with
 | .tp l=>match inL s a l with|some r=>.ok r s|none=>.B
 | .ref r=>match s[r]? with
  | some (.J l)=>match inL s a l with|some r=>.ok r s|none=>.B
  | _=>.B
 | .str y=>match a with|.str [c]=>.ok (decide (c∈y)) s|_=>.B
 | _=>.B
noncomputable def bl7:D->Option (Int×List Nat)
 | .tp [.int i,.str x]=>some (i,x)
 | _=>none
def cg3 (f:Int->List Nat->Int->List Nat->Bool)(a b:D):M D:=λ s=>match bl7 a,bl7 b with
 | some (i,x),some (j,y)=>.ok (.T (f i x j y)) s
 | _,_=>.B
def zQ:COp->D->D->M D
 | .eq,a,b=>eqM a b
 | .ne,a,b=>λ s=>match eqv s DEEP a b with|some r=>.ok (.T (!r)) s|none=>.B
 | .lt,.int a,.int b=>pur (.T (decide (a<b)))
 | .le,.int a,.int b=>pur (.T (decide (a<=b)))
 | .gt,.int a,.int b=>pur (.T (decide (b<a)))
 | .isin,a,b=>λ s=>(inM a b s).bind λ r s=>.ok (.T r) s
 | .notin,a,b=>λ s=>(inM a b s).bind λ r s=>.ok (.T (!r)) s
 | _,_,_=>bad
noncomputable def ixn (n:Nat)(i:Int):Option Nat:=if 0<=i then(if i<n then some i.toNat else none)else if -(n)<=i then some (i+n).toNat else none
noncomputable def sbd (n:Nat)(i:Int):Nat:=if 0<=i then min i.toNat n else(i+n).toNat
def loB (n:Nat):Option Int->Nat
 | none=>0
 | some i=>sbd n i
def hiB (n:Nat):Option Int->Nat
 | none=>n
 | some i=>sbd n i
def ak0 {α:Type}(l:List α)(lo hi:Option Int):List α:=(l.drop (loB l.length lo)).take (hiB l.length hi - loB l.length lo)
def ixM (a b:D):M D:=λ s=>match a,b with
 | .tp l,.int i=>match(ixn l.length i).bind λ j=>l[j]? with|some d=>.ok d s|none=>.B
 | .str l,.int i=>match(ixn l.length i).bind λ j=>l[j]? with|some c=>.ok (.str [c]) s|none=>.B
 | .ref r,b=>match s[r]? with
  | some (.J l)=>match b with
   | .int i=>match(ixn l.length i).bind λ j=>l[j]? with|some d=>.ok d s|none=>.B
   | _=>.B
  | some (.ro l)=>match b with
   | .int i=>match(ixn l.length i).bind λ j=>l[j]? with|some d=>.ok d s|none=>.B
   | _=>.B
  | _=>.B
 | _,_=>.B
def slM (a:D)(lo hi:Option Int):M D:=λ s=>match a with
 | .tp l=>.ok (.tp (ak0 l lo hi)) s
 | .str l=>.ok (.str (ak0 l lo hi)) s
 | .ref r=>match s[r]? with
  | some (.J l)=>af4 (.J (ak0 l lo hi)) s
  | _=>.B
 | _=>.B
noncomputable def ah4:List D->Option (List Bool)
 | []=>some []
 | .T b::l=>(ah4 l).map (b::·)
 | _=>none
noncomputable def ae9:List D->Option (List Int)
 | []=>some []
 | .int i::l=>(ae9 l).map (i::·)
 | _=>none
noncomputable def af0:List D->Option (List (List Nat))
 | []=>some []
 | .str i::l=>(af0 l).map (i::·)
 | _=>none
noncomputable def bv4 (d:D):M D:=λ s=>match d with
 | .tp l=>.ok (.int l.length) s
 | .str l=>.ok (.int l.length) s
 | .ref r=>match s[r]? with
  | some (.J l)=>.ok (.int l.length) s
  | some (.ro l)=>.ok (.int l.length) s
  | _=>.B
 | _=>.B
noncomputable def isK (k:Nat)(d:D):M D:=λ s=>match d with
 | .N=>.ok (.T false) s
 | .T _=>.ok (.T (k==1||k==2)) s
 | .int _=>.ok (.T (k==1)) s
 | .str _=>.ok (.T (k==3)) s
 | .tp _=>.ok (.T (k==4)) s
 | .ref r=>match s[r]? with
  | some (.J _)=>.ok (.T (k==5)) s
  | _=>.B
 | _=>.B
def bi1 (f:D->M D):List D->M D
 | [d]=>f d
 | _=>bad
def bz6:List D->M D
 | [.str [c]]=>λ s=>if 48<=c/\c<=57 then .ok (.int ((c - 48:Nat))) s else .B
 | _=>bad
def bA8:List D->M D
 | [.int i]=>λ s=>if 0<=i/\i<=9 then .ok (.str [48+i.toNat]) s else .B
 | [.str w]=>λ s=>.ok (.str w) s
 | _=>bad
def bi:Bi->List D->M D
 | .len,l=>bi1 bv4 l
 | .abs,l=>λ s=>match ae9 l with|some [i]=>.ok (.int (if i<0 then -i else i)) s|_=>.B
 | .int,l=>λ s=>match ah4 l with|some [b]=>.ok (.int (if b then 1 else 0)) s|some _=>.B|none=>bz6 l s
 | .str,l=>bA8 l
 | .min2,l=>λ s=>match ae9 l with|some [a,b]=>.ok (.int (if b<a then b else a)) s|_=>.B
 | .max2,l=>λ s=>match ae9 l with|some [a,b]=>.ok (.int (if b > a then b else a)) s|_=>.B
 | .max3,l=>λ s=>match ae9 l with|some [a,b,c]=>.ok (.int (max (max a b) c)) s|_=>.B
 | .isInt,l=>bi1 (isK 1) l
 | .isBool,l=>bi1 (isK 2) l
 | .isStr,l=>bi1 (isK 3) l
 | .isTup,l=>bi1 (isK 4) l
 | .isList,l=>bi1 (isK 5) l
 | _,_=>bad
noncomputable def bX6:List Int->Option Int
 | []=>none
 | a::l=>some (l.foldl min a)
noncomputable def cl0:List Int->Option Int
 | []=>none
 | a::l=>some (l.foldl max a)
noncomputable def ins (a:Int):List Int->List Int
 | []=>[a]
 | b::l=>if a<=b then a::b::l else b::ins a l
def bG1:List Int->List Int
 | []=>[]
 | a::l=>ins a (bG1 l)
noncomputable def cj6 (is:List Int):Bool:=is.all (λ i=>decide (-1000000000<=i/\i<=1000000000))&&decide (is.length<=1000000)
def mk:Mk->List D->M D
 | .tuple,l=>λ s=>.ok (.tp l) s
 | .list,l=>af4 (.J l)
 | .all,l=>λ s=>match ah4 l with|some bs=>.ok (.T (bs.all id)) s|none=>.B
 | .any,l=>λ s=>match ah4 l with|some bs=>.ok (.T (bs.any id)) s|none=>.B
 | .sum,l=>λ s=>match ae9 l with|some is=>if cj6 is then .ok (.int is.sum) s else .B|none=>.B
 | .min,l=>λ s=>match(ae9 l).bind bX6 with|some m=>.ok (.int m) s|none=>.B
 | .max,l=>λ s=>match(ae9 l).bind cl0 with|some m=>.ok (.int m) s|none=>.B
 | .sorted,l=>λ s=>match ae9 l with|some is=>af4 (.J ((bG1 is).map D.int)) s|none=>.B
 | .lenset,l=>bad
def ch9 (k v:D)(l:List (D×D)):List (D×D):=if(look k l).isSome then l.map (λ p=>if p.1=k then(p.1,v)else p)else l++[(k,v)]
def setIx (o i v:D):Sto->R Unit:=λ s=>match o with
 | .ref r=>match s[r]? with
  | some (.J l)=>match i with
   | .int i=>match ixn l.length i with|some j=>.ok () (s.set r (.J (l.set j v)))|none=>.B
   | _=>.B
  | _=>.B
 | _=>.B
def meth:Mt->D->List D->M D
 | .append,.ref r,[d]=>λ s=>match s[r]? with
  | some (.J l)=>if l.length<LIM then .ok .N (s.set r (.J (l++[d])))else .B
  | _=>.B
 | _,_,_=>bad
noncomputable def ac6 (sep:List Nat):List (List Nat)->List Nat
 | []=>[]
 | [p]=>p
 | p::q::ps=>p++(sep++ac6 sep (q::ps))
noncomputable def aa4 (c:Nat):List Nat->List (List Nat)
 | []=>[[]]
 | x::l=>if x=c then[]::aa4 c l else match aa4 c l with
  | p::ps=>(x::p)::ps
  | []=>[[x]]
def bt5 (c:Nat)(x:D):M D:=λ s=>match x with
 | .str w=>if w.length+2<=LIM then af4 (.J ((aa4 c w).map D.str)) s else .B
 | _=>.B
def aS7 (x y:D):M D:=λ s=>match x with
 | .str []=>match y with
  | .ref r=>match s[r]? with
   | some (.J l)=>match af0 l with
    | some ss=>if ss.flatten.length<=LIM then .ok (.str ss.flatten) s else .B
    | none=>.B
   | _=>.B
  | _=>.B
 | .str (c::sep)=>match y with
  | .ref r=>match s[r]? with
   | some (.J l)=>match af0 l with
    | some ss=>if(ss.map λ w=>w.length+(c::sep).length).sum<=LIM then .ok (.str (ac6 (c::sep) ss)) s else .B
    | none=>.B
   | _=>.B
  | _=>.B
 | _=>.B
structure Fns where
 call:String->List D->M D
 lam:String->List D->List D->M D
 con:String->Option D
 xcall:String->List D->Sto->Option (String×Sto)
 xc:String->Bool
 xt:String->Bool
 cdc:String->Option (List (List Nat×List Nat))
 kd:String->Bool
noncomputable def bq2 (U:Env)(i:Nat):M D:=λ s=>match U[i]? with|some (some d)=>.ok d s|_=>.B
noncomputable def zJ (U:Env)(caps:yE):Env:=caps.map λ o=>match o with|none=>none|some j=>(U[j]?).join
noncomputable def aQ3 (U:Env)(i:Nat)(d:D):Option Env:=if i < U.length then some (U.set i (some d))else none
noncomputable def aP1 (U:Env)(i:Nat):Option Env:=if i < U.length then some (U.set i none)else none
def aq7 (U:Env):List Nat->List D->Option Env
 | [],[]=>some U
 | i::is,d::l=>(aQ3 U i d).bind λ U=>aq7 U is l
 | _,_=>none
def qg (U:Env):Tg->D->Option Env
 | .Y i,d=>aQ3 U i d
 | .tp is,.tp l=>aq7 U is l
 | _,_=>none
structure Sq where
 its:List D
 src:List Nat
noncomputable def qG (d:D):M Sq:=λ s=>match d with
 | .tp l=>.ok ⟨l,[]⟩ s
 | .str l=>.ok ⟨l.map λ c=>.str [c],[]⟩ s
 | .ref r=>match s[r]? with
  | some (.J l)=>.ok ⟨l,[r]⟩ s
  | some (.ro l)=>.ok ⟨l,[]⟩ s
  | _=>.B
 | _=>.B
noncomputable def as3 (d:D):M Sq:=λ s=>match d with
 | .tp l=>.ok ⟨l,[]⟩ s
 | .str l=>.ok ⟨l.map λ c=>.str [c],[]⟩ s
 | .ref r=>match s[r]? with
  | some (.J l)=>.ok ⟨l,[r]⟩ s
  | some (.ro l)=>.ok ⟨l,[]⟩ s
  | _=>.B
 | _=>.B
noncomputable def bo9 (d:D):Sto->R (List D):=λ s=>match d with
 | .tp l=>.ok l s
 | .str l=>.ok (l.map λ c=>.str [c]) s
 | .ref r=>match s[r]? with
  | some (.J l)=>.ok l s
  | some (.ro l)=>.ok l s
  | _=>.B
 | _=>.B
noncomputable def Ww62:Int:=4611686018427387904
noncomputable def ah9 (a b:Int):List D:=(bE (b - a).toNat).map λ(k:Nat)=>.int (a+k)
noncomputable def ai1:List D->List D->List D
 | a::l,b::m=>.tp [a,b]::ai1 l m
 | _,_=>[]
noncomputable def chk (s0 s:Sto)(src:List Nat):Bool:=src.all λ r=>decide (s[r]?=s0[r]?)
noncomputable def tru (r:R D)(f:Bool->Sto->R α):R α:=r.bind λ d s=>match d with|.T b=>f b s|_=>.B
@[simp] theorem tru_bl b s (f:Bool->Sto->R α):tru (.ok (.T b) s) f=f b s:=rfl
noncomputable def ae5 (ok:Sto->Bool)(g:D->Env->Sto->R (Option D×Env)):List D->Env->Sto->R (List D)
 | [],_,s=>if ok s then .ok [] s else .B
 | d::l,U,s=>if ok s then(g d U s).bind λ p s=>(ae5 ok g l p.2 s).bind λ r s=>.ok (match p.1 with|some v=>v::r|none=>r) s else .B
mutual
noncomputable def ev (F:Fns):E->Env->Sto->R D
 | .X i,U,s=>bq2 U i s
 | .K c,_,s=>.ok c.d s
 | .gl x,_,s=>match F.con x with|some d=>.ok d s|none=>.B
 | .G op a b,U,s=>(ev F a U s).bind λ x s=>(ev F b U s).bind λ y s=>qK op x y s
 | .neg a,U,s=>(ev F a U s).bind λ x s=>match x with|.int i=>.ok (.int (-i)) s|_=>.B
 | .not a,U,s=>tru (ev F a U s) λ b s=>.ok (.T (!b)) s
 | .Z op a b,U,s=>(ev F a U s).bind λ x s=>(ev F b U s).bind λ y s=>zQ op x y s
 | .chain o p a b c,U,s=>(ev F a U s).bind λ x s=>(ev F b U s).bind λ y s=>tru (zQ o x y s) λ k s=>if k then(ev F c U s).bind λ z s=>zQ p y z s else .ok (.T false) s
 | .isN a,U,s=>(ev F a U s).bind λ x s=>.ok (.T (decide (x=.N))) s
 | .and a b,U,s=>tru (ev F a U s) λ c s=>if c then tru (ev F b U s) λ c s=>.ok (.T c) s else .ok (.T false) s
 | .or a b,U,s=>tru (ev F a U s) λ c s=>if c then .ok (.T true) s else tru (ev F b U s) λ c s=>.ok (.T c) s
 | .ite c a b,U,s=>tru (ev F c U s) λ k s=>if k then ev F a U s else ev F b U s
 | .tp es,U,s=>(evs F es U s).bind λ l s=>.ok (.tp l) s
 | .J es,U,s=>(evs F es U s).bind λ l s=>af4 (.J l) s
 | .ix a b,U,s=>(ev F a U s).bind λ x s=>(ev F b U s).bind λ y s=>ixM x y s
 | .slL a lo,U,s=>(ev F a U s).bind λ x s=>(ev F lo U s).bind λ y s=>match y with|.int i=>slM x (some i) none s|_=>.B
 | .slU a hi,U,s=>(ev F a U s).bind λ x s=>(ev F hi U s).bind λ y s=>match y with|.int i=>slM x none (some i) s|_=>.B
 | .call f as,U,s=>(ag7 F as U s).bind λ l s=>F.call f l s
 | .bi b es,U,s=>(evs F es U s).bind λ l s=>bi b l s
 | .mk k it,U,s=>(evL F it U s).bind λ q s=>mk k q s
 | .me m o es,U,s=>(ev F o U s).bind λ x s=>(evs F es U s).bind λ l s=>meth m x l s
 | .join o e,U,s=>(ev F o U s).bind λ x s=>(ev F e U s).bind λ y s=>aS7 x y s
 | .spl o c,U,s=>(ev F o U s).bind λ x s=>bt5 c x s
noncomputable def evs (F:Fns):Es->Env->Sto->R (List D)
 | .nil,_,s=>.ok [] s
 | .cons e es,U,s=>(ev F e U s).bind λ d s=>(evs F es U s).bind λ l s=>.ok (d::l) s
noncomputable def ag7 (F:Fns):As->Env->Sto->R (List D)
 | .nil,_,s=>.ok [] s
 | .ex e as,U,s=>(ev F e U s).bind λ d s=>(ag7 F as U s).bind λ l s=>.ok (d::l) s
 | .fn f as,U,s=>(ag7 F as U s).bind λ l s=>.ok (.fn f::l) s
noncomputable def evI (F:Fns):I->Env->Sto->R Sq
 | .seq e,U,s=>(ev F e U s).bind λ d s=>qG d s
 | .rg a,U,s=>(ev F a U s).bind λ x s=>match x with|.int i=>if -Ww62<=i/\i<Ww62 then .ok ⟨ah9 0 i,[]⟩ s else .B|_=>.B
 | .zip (.seq a) (.seq b),U,s=>(ev F a U s).bind λ x s=>(ev F b U s).bind λ y s=>(as3 x s).bind λ p s=>(as3 y s).bind λ q s=>.ok ⟨ai1 p.its q.its,p.src++q.src⟩ s
 | .zip _ _,_,_=>.B
noncomputable def evL (F:Fns):L->Env->Sto->R (List D)
 | .comp tg it e caps,U,s=>(evI F it U s).bind λ q s0=>if q.its.length<=LIM then ae5 (λ s=>chk s0 s q.src) (λ d U s=>match qg U tg d with
   | some U=>(ev F e U s).bind λ v s=>.ok (some v,U) s
   | none=>.B) q.its (zJ U caps) s0 else .B
 | .compIf tg it c e caps,U,s=>(evI F it U s).bind λ q s0=>if q.its.length<=LIM then ae5 (λ s=>chk s0 s q.src) (λ d U s=>match qg U tg d with
   | some U=>tru (ev F c U s) λ k s=>if k then(ev F e U s).bind λ v s=>.ok (some v,U) s else .ok (none,U) s
   | none=>.B) q.its (zJ U caps) s0 else .B
 | .disp es,U,s=>evs F es U s
 | .seq e,U,s=>(ev F e U s).bind λ d s=>bo9 d s
end
inductive Ct where
 | next (U:Env)|ret (d:D)|cont (U:Env)|brk (U:Env)
noncomputable abbrev Ct.ctorIdx (x:Ct):Nat:=Ct.casesOn x (λ _=>0) (λ _=>1) (λ _=>2) (λ _=>3)
noncomputable def ax9 (ok:Sto->Bool)(g:D->Env->Sto->R Ct):List D->Env->Sto->R Ct
 | [],U,s=>if ok s then .ok (.next U) s else .B
 | d::l,U,s=>if ok s then(g d U s).bind λ c s=>match c with
   | .next U=>ax9 ok g l U s
   | .cont U=>ax9 ok g l U s
   | .brk U=>.ok (.next U) s
   | .ret d=>.ok (.ret d) s
  else .B
def ah8 (c:Env->Sto->R D)(g:Env->Sto->R Ct):Nat->Env->Sto->R Ct
 | 0,_,_=>.B
 | n+1,U,s=>tru (c U s) λ b s=>if b then(g U s).bind λ c' s=>match c' with
   | .next U=>ah8 c g n U s
   | .cont U=>ah8 c g n U s
   | .brk U=>.ok (.next U) s
   | .ret d=>.ok (.ret d) s
  else .ok (.next U) s
open Classical in
def whl (c:Env->Sto->R D)(g:Env->Sto->R Ct)(U:Env)(s:Sto):R Ct :=
 if h:∃ n,ah8 c g n U s≠.B then ah8 c g h.choose U s else .B
mutual
noncomputable def ex (F:Fns):S->Env->Sto->R Ct
 | .A tg e,U,s=>(ev F e U s).bind λ d s=>match qg U tg d with|some U=>.ok (.next U) s|none=>.B
 | .setIx o i e,U,s=>(ev F e U s).bind λ d s=>(ev F o U s).bind λ x s=>(ev F i U s).bind λ y s=>(setIx x y d s).bind λ _ s=>.ok (.next U) s
 | .ex e,U,s=>(ev F e U s).bind λ _ s=>.ok (.next U) s
 | .ret e,U,s=>(ev F e U s).bind λ d s=>.ok (.ret d) s
 | .ite c a b,U,s=>tru (ev F c U s) λ k s=>if k then exs F a U s else exs F b U s
 | .whl c b,U,s=>whl (ev F c) (exs F b) U s
 | .fo tg it b,U,s=>(evI F it U s).bind λ q s0=>ax9 (λ s=>chk s0 s q.src) (λ d U s=>match qg U tg d with
   | some U=>exs F b U s
   | none=>.B) q.its U s0
 | .raise,_,_=>.B
noncomputable def exs (F:Fns):Ss->Env->Sto->R Ct
 | .nil,U,s=>.ok (.next U) s
 | .cons st ss,U,s=>(ex F st U s).bind λ c s=>match c with|.next U=>exs F ss U s|c=>.ok c s
end
structure Df where
 name:String
 ps:Nat
 vs:Nat
 body:Ss
structure Lm where
 id:String
 ps:Nat
 cs:Nat
 body:E
inductive HT where
 | ve
 | isi (cs:List String)|Y (c:String)|not (t:HT)|or (a b:HT)
noncomputable abbrev HT.ctorIdx (x:HT):Nat:=HT.casesOn x 0 (λ _=>1) (λ _=>2) (λ _=>3) (λ _ _=>4)
inductive Hd where
 | ret (t:HT)|iff (t:HT) (b:Bool) (h:Hd)|nob (b:Bool)|noe|iffN (t:HT) (h:Hd)|aoN (a b:HT)|sup (x:String) (h:Hd)
 | kin (f:String) (l:Bool)
noncomputable abbrev Hd.ctorIdx (x:Hd):Nat:=Hd.casesOn x (λ _=>0) (λ _ _ _=>1) (λ _=>2) 3 (λ _ _=>4) (λ _ _=>5) (λ _ _=>6) (λ _ _=>7)
noncomputable def subC (c d:String):Bool:=c==d||(d == "TollError"||d == "ValueError")
noncomputable def ac4:List String:=["NotSteady", "TooMuch", "TooLong", "NoMaking", "NoPaper", "NoPair", "NoText", "NoRow", "NoName"]
noncomputable def ag8:List (List Nat):=[[115,116,101,97,100,121],[109,117,99,104],[108,111,110,103],[109,97,107,105,110,103],[112,97,112,101,114],[112,97,105,114],[116,101,120,116],[114,111,119],[110,97,109,101]]
noncomputable def am9:List Nat:=[97,110,111,116,104,101,114]
def bS9 (bs:List Bool):List Nat:=if bs.countP id=1 then ag8.getD (bs.findIdx id) []else am9
def ag4 (c:String):List Nat:=bS9 (ac4.map (subC c))
def HT.val (c:String):HT->Bool
 | .isi cs=>cs.any (subC c)
 | .Y d=>subC c d
 | .not t=>!t.val c
 | .or a b=>if a.val c then true else b.val c
 | .ve=>true
noncomputable def HT.ok (p:String->Bool):HT->Bool
 | .isi cs=>cs.all p
 | .Y d=>p d
 | .not t=>t.ok p
 | .or a b=>a.ok p&&b.ok p
 | .ve=>true
noncomputable def Hd.val (c:String):Hd->Bool
 | .ret t=>t.val c
 | .iff t b h=>if t.val c then b else h.val c
 | .nob b=>b
 | .noe=>false
 | .iffN _ h=>h.val c
 | .aoN a b=>a.val c&&b.val c
 | .sup _ h=>h.val c
 | .kin _ _=>false
noncomputable def Hd.ok (p:String->Bool):Hd->Bool
 | .ret t=>t.ok p
 | .iff t _ h=>t.ok p&&h.ok p
 | .nob _=>true
 | .noe=>true
 | .iffN t h=>t.ok p&&h.ok p
 | .aoN a b=>a.ok p&&b.ok p
 | .sup x h=>p x&&h.ok p
 | .kin _ _=>ac4.all p
noncomputable def Hd.vD (c:String):Hd->D
 | .ret t=>.T (t.val c)
 | .iff t b h=>if t.val c then .T b else h.vD c
 | .nob b=>.T b
 | .noe=>.N
 | .iffN t h=>if t.val c then .N else h.vD c
 | .aoN a b=>if a.val c then(if b.val c then .T true else .N)else .N
 | .sup _ h=>h.vD c
 | .kin _ _=>.N
noncomputable def Hd.kn:Hd->Option (String×Bool)
 | .kin f l=>some (f,l)
 | .sup _ h=>h.kn
 | _=>none
noncomputable def Hd.kok (k:String->Bool)(h:Hd):Bool:=match h.kn with|some (f,_)=>k f|none=>true
noncomputable def Hd.cls (c:String):Hd->String
 | .sup x _=>x|_=>c
def Hd.supOk (c:String):Hd->Bool
 | .sup x _=>subC c x|_=>true
noncomputable def Hd.nn:Hd->Bool
 | .nob _=>true|.noe=>true|_=>false
noncomputable def by1 (ok:Sto->Bool)(g:D->Env->Sto->R Ct)(gx:D->Env->Sto->Option (String×Sto)):List D->Env->Sto->Option (String×Sto)
 | [],_,_=>none
 | d::l,U,s=>if ok s then match g d U s with
   | .ok (.next U1) s1=>by1 ok g gx l U1 s1
   | .ok (.cont U1) s1=>by1 ok g gx l U1 s1
   | .ok _ _=>none
   | _=>gx d U s
  else none
noncomputable def bj8 (c:Env->Sto->R D)(g:Env->Sto->R Ct)(gx:Env->Sto->Option (String×Sto)):Nat->Env->Sto->Option (String×Sto)
 | 0,_,_=>none
 | n+1,U,s=>match c U s with
  | .ok (.T true) s1=>match g U s1 with
   | .ok (.next U1) s2=>bj8 c g gx n U1 s2
   | .ok (.cont U1) s2=>bj8 c g gx n U1 s2
   | .ok _ _=>none
   | _=>gx U s1
  | _=>none
open Classical in
def whlX (c:Env->Sto->R D)(g:Env->Sto->R Ct)(gx:Env->Sto->Option (String×Sto))(U:Env)(s:Sto):Option (String×Sto):=if h:∃ n,(bj8 c g gx n U s).isSome=true then bj8 c g gx h.choose U s else none
noncomputable def ah2 (ok:Sto->Bool)(g:D->Env->Sto->R Env)(gx:D->Env->Sto->Option (String×Sto)):List D->Env->Sto->Option (String×Sto)
 | [],_,_=>none
 | d::l,U,s=>if ok s then match g d U s with
   | .ok U1 s1=>ah2 ok g gx l U1 s1
   | _=>gx d U s
  else none
inductive XE where
 | call (f:String) (as:As)|tp (es:Es) (x:XE)|tcomp (tg:Tg) (it:I) (e:E) (f:String) (as:As) (caps:yE)
def xE (F:Fns):XE->Env->Sto->Option (String×Sto)
 | .call f as,U,s=>match ag7 F as U s with|.ok l s1=>F.xcall f l s1|_=>none
 | .tp es x,U,s=>match evs F es U s with|.ok _ s1=>xE F x U s1|_=>none
 | .tcomp tg it e f as caps,U,s=>match evI F it U s with
  | .ok q s0=>if q.its.length<=LIM then ah2 (λ s=>chk s0 s q.src) (λ d U s=>match qg U tg d with
   | some U=>(ev F e U s).bind λ _ s=>.ok U s
   | none=>.B) (λ d U s=>match qg U tg d with
   | some U=>match ag7 F as U s with|.ok l s1=>F.xcall f l s1|_=>none
   | none=>none) q.its (zJ U caps) s0 else none
  | _=>none
inductive XB where
 | no|rais (c:String)|call (f:String) (as:As)|iteT (c:E) (a r:XB)|seq (s:S) (b:XB)
 | kind|alt (a b:XB)|xret (x:XE)|xasg (x:XE)
 | iteE (c:E) (a r:XB)|forX (tg:Tg) (it:I) (b:Ss) (x:XB)|whlX (c:E) (b:Ss) (x:XB)
noncomputable abbrev XB.ctorIdx (x:XB):Nat:=XB.casesOn x 0 (λ _=>1) (λ _ _=>2) (λ _ _ _=>3) (λ _ _=>4) 5 (λ _ _=>6) (λ _=>7) (λ _=>8) (λ _ _ _=>9) (λ _ _ _ _=>10) (λ _ _ _=>11)
def xB (F:Fns):XB->Env->Sto->Option (String×Sto)
 | .no,_,_=>none
 | .kind,_,_=>none
 | .xret x,U,s=>xE F x U s
 | .xasg x,U,s=>xE F x U s
 | .alt a b,U,s=>match xB F a U s with|some r=>some r|none=>xB F b U s
 | .rais c,_,s=>if F.xc c=true then some (c,s)else none
 | .call f as,U,s=>match ag7 F as U s with|.ok l s1=>F.xcall f l s1|_=>none
 | .iteT c a r,U,s=>match ev F c U s with|.ok (.T b) s1=>if b then xB F a U s1 else xB F r U s1|_=>none
 | .seq st b,U,s=>match ex F st U s with|.ok (.next U1) s1=>xB F b U1 s1|_=>none
 | .forX tg it b x,U,s=>match evI F it U s with
  | .ok q s0=>by1 (λ s=>chk s0 s q.src) (λ d U s=>match qg U tg d with
   | some U=>exs F b U s
   | none=>.B) (λ d U s=>match qg U tg d with
   | some U=>xB F x U s
   | none=>none) q.its U s0
  | _=>none
 | .iteE c a r,U,s=>match ev F c U s with|.ok (.T b) s1=>if b then xB F a U s1 else xB F r U s1|_=>none
 | .whlX c b x,U,s=>DV.whlX (ev F c) (exs F b) (xB F x) U s
structure Xf where
 ps:Nat
 vs:Nat
 body:XB
structure Tf where
 ps:Nat
 vs:Nat
 body:Ss
 xb:XB
 c:String
 i:Nat
 h:Hd
 tl:Ss
 pre:Ss
structure Pr where
 df:String->Option Df
 lm:String->Option Lm
 con:String->Option D
 xf:String->Option Xf
 tf:String->Option Tf
 xc:String->Bool
 xt:String->Bool
 cdc:String->Option (List (List Nat×List Nat))
noncomputable def ax5 (st st':Sto):Bool:=(bE st.length).all λ i=>decide (st'[i]?=st[i]?)||(match st'[i]? with|some o=>o.bnd st.length|none=>false)
def zw (st:Sto)(d:D)(st':Sto):R D :=
 if ax5 st st' then
  match d with
  | .ref r=>if r<st.length then .ok d (st'.take st.length)else match st'[r]? with
   | some o=>if o.bnd st.length then .ok (.ref st.length) (st'.take st.length++[o])else .ok d st'
   | none=>.B
  | d=>if d.bnd st.length then .ok d (st'.take st.length)else .ok d st'
 else .ok d st'
def Hd.out (h:Hd)(c:String)(s s':Sto):R D:=match h with
 | .noe=>zw s (.ref s'.length) (s'++[.J []])
 | h=>match h.kn with
  | some (_,true)=>zw s (.ref s'.length) (s'++[.J [.str (ag4 c)]])
  | some (_,false)=>zw s (.str (ag4 c)) s'
  | none=>zw s (h.vD c) s'
def Tf.tk (d:Tf)(c:String):Bool:=match d.h with|.sup x _=>subC c x|_=>c==d.c
noncomputable def XB.isK:XB->Bool
 | .kind=>true|_=>false
noncomputable def bE8 (P:Pr)(f:String):Bool:=match P.xf f with|some d=>d.ps==1&&(d.vs==1&&d.body.isK)|none=>false
def bo1 (F:Fns)(d:Tf)(s:Sto)(U0:Env)(s0:Sto):R D:=match xB F d.xb U0 s0 with
 | some (c,s')=>if d.tk c=true/\F.xc c=true/\d.h.ok F.xt=true/\d.h.kok F.kd=true then d.h.out c s s' else .B
 | none=>(exs F d.body U0 s0).bind λ c s1=>match c with
  | .ret v=>zw s v s1
  | .next U=>(exs F d.tl U s1).bind λ c s2=>match c with
   | .ret v=>zw s v s2
   | .next _=>zw s .N s2
   | _=>.B
  | _=>.B
def bw5 (F:Fns)(d:Tf)(l:List D)(s:Sto):R D:=match exs F d.pre (l.map some++ax d.vs none) s with
 | .ok (.next U0) s0=>bo1 F d s U0 s0
 | _=>.B
def aa0 (P:Pr):Nat->Fns
 | 0=>⟨λ _ _ _=>.B,λ _ _ _ _=>.B,P.con,λ _ _ _=>none,P.xc,P.xt,P.cdc,bE8 P⟩
 | n+1=>⟨λ f l s=>match P.df f with
   | some d=>if l.length=d.ps then(exs (aa0 P n) d.body (l.map some++ax d.vs none) s).bind λ c s'=>match c with
     | .ret v=>zw s v s'
     | .next _=>zw s .N s'
     | _=>.B else .B
   | none=>match P.tf f with
    | some d=>if l.length=d.ps then bw5 (aa0 P n) d l s else .B
    | none=>.B,
  λ id cs l s=>match P.lm id with
   | some d=>if l.length=d.ps/\cs.length=d.cs/\(D.nclL l&&D.nclL cs&&s.all O.ncl)=true then(ev (aa0 P n) d.body (l.map some++cs.map some) s).bind λ v s'=>zw s v s' else .B
   | none=>.B,P.con,
  λ f l s=>match P.xf f with
   | some d=>if l.length=d.ps then xB (aa0 P n) d.body (l.map some++ax d.vs none) s else none
   | none=>none,P.xc,P.xt,P.cdc,bE8 P⟩
end DV
end
open DV renaming Sto->mn,D->mq,Env->mv,ev->mw,R->my,aa0->mz,subC->mF,LIM->mG,eqv->mJ,Fns->mK,tru->mM,ac6->mO,aa4->mP,Pr->mQ,ag4->mR,DEEP->mU,chk->mV,Es->mW,eqL->mY,rep->mZ,ai1->nh,evs->ni,kd->nj,qg->nk,af1->nq,ak0->nr,O->nv,Tg->ny,af0->nz,xB->nA,Bi->nB,Ct->nD,bc6->nE,sbd->nF,ae9->nG,ag7->nI,look->nJ,Sq->nK,loB->nM,af4->nN,inL->nO,ixn->nP,zJ->nQ,As->nR,Hd->nS,aH4->nT,ah4->nU,ah9->nV,aQ3->nW,ae5->nX,E->nY,evI->nZ,zw->n6,mk->n8,Df->n9,COp->oa,M->og,hiB->oh,slM->ol,aq7->om,exs->on,bi->oq,Mk->ot,Mt->ou,aV4->ow,pur->oy,inM->oz,bi1->oA,as3->oB,ax9->oC,ag8->oD,bS9->oE,meth->oF,BOp->oH,isK->oI,Ww62->oJ,Ss->oK,bX6->oM,XB->oN,ah2->oO,ax5->oP,Tf->oQ
open DV.D renaming bndL->mr,bnd->mD,hdI->nu
open DV.O renaming bnd->mH
open DV.Hd renaming out->oG
noncomputable section
namespace L2
def fb {p:Prop}(h:(DV.R.B:my α)=.ok d s):p:=nomatch h
open PySem PySem.Spec PyProof.Rows
structure LamI where
 qual:Str
 params:fe
 body:Expr
 scope:Scope
 ps:List Str
 fr:List Str
 nm:Option (Str×Pos)
def aB0 (H:Hp)(f:Addr)(J:LamI)(cap:List V)(clos:yC):Prop:=match J.nm with
 | none=>ba4 H f J.qual J.params J.body J.scope J.fr cap clos
 | some p=>aG3 H f p.1 J.qual J.params [.Return (some J.body) p.2] J.scope J.fr cap clos
def aC6 (H:Hp)(f:Addr)(J:LamI)(clos:yC):Prop:=match J.nm with
 | none=>∃ pm c' ctv,H f=some (bF2 f (lp "<lambda>" J.qual J.params J.body J.scope clos pm (.ref c') ctv))/\H c'=some (aS0 c' J.qual)
 | some p=>∃ doc pm c' ctv,H f=some (bF2 f (lY p.1 J.qual J.params [.Return (some J.body) p.2] J.scope clos .none .none doc pm none (.ref c') ctv))/\H c'=some (aS0 c' J.qual)
structure Gm where
 K:ac
 fa:String->Option Addr
 lg:String->LamI->Prop
 T:List (Addr×Str)
variable (Γ:Gm)
mutual
noncomputable def RV (C:Nat->Addr)(H:Hp):mq->V->Prop
 | .N,v=>v=.N
 | .T b,v=>v=.T b
 | .int i,v=>v=.int i
 | .str x,v=>v=.str ⟨x.toArray⟩/\x.length<=mG
 | .tp l,v=>∃ a xs,v=.ref a/\(SqT Γ.K H a xs/\(nu l=true->H a=some (.tp xs)))/\RVL C H l xs
 | .ref n,v=>v=.ref (C n)
 | .fn f,v=>∃ a,Γ.fa f=some a/\v=.ref a
 | .clo id cs,v=>∃ f cap J clos,v=.ref f/\Γ.lg id J/\aB0 H f J cap clos/\cap.length=J.fr.length/\RVL C H cs cap
noncomputable def RVL (C:Nat->Addr)(H:Hp):List mq->List V->Prop
 | [],xs=>xs=[]
 | d::l,xs=>∃ x r,xs=x::r/\RV C H d x/\RVL C H l r
end
noncomputable def bW6:HO->Bool
 | .tp _=>true
 | .frz _ _=>true
 | .ext _=>true
 | _=>false
def Kp (H H':Hp):Prop:=∀ b o,H b=some o->bW6 o=true->H' b=some o
def Kp.refl H :Kp H H:=λ _ _ h _=>h
def Kp.trans (a:Kp H y)(b:Kp y z):Kp H z:=λ c o h f=>b c o (a c o h f) f
def Kp.new (a:Kp H y)(h:y p=none):Kp H (upd y p o):=λ c u e f=>by
 have e1:=a c u e f;rw[zu (zm e1 h)];exact e1
def Kp.put (a:Kp H y)(h:y p=some u)(hu:bW6 u=false):Kp H (upd y p o):=λ c v e f=>by
 have e1:=a c v e f;rw[zu (λ z=>by subst z;rw[h]at e1;cases e1;rw[hu]at f;cases f)];exact e1
def Kp.sqT {K}(e:Kp H H')(h:SqT K H a y):SqT K H' a y:=by
 rcases h with(h|⟨o,h⟩)|h
 .exact .inl (.inl (e _ _ h rfl))
 .exact .inl (.inr ⟨o,e _ _ h rfl⟩)
 .exact .inr h
def ba4.kp (h:ba4 H f qual params body scope fr cap y)(e:Kp H H'):ba4 H' f qual params body scope fr cap y:=by
 obtain⟨pm,J,F,h1,G,h3,h4,h5,Y⟩:=h;refine⟨pm,J,F,e _ _ h1 rfl,e _ _ G rfl,λ x c q=>?_,h4,h5,λ i x v a b=>?_⟩
 .obtain⟨o,v,z,d⟩:=h3 x c q;exact⟨o,v,e _ _ z rfl,d⟩
 .obtain⟨c,o,u,z1,z2,Z⟩:=Y i x v a b;exact⟨c,o,u,z1,e _ _ z2 rfl,Z⟩
def aG3.kp (h:aG3 H f name qual params body scope fr cap y)(e:Kp H H'):aG3 H' f name qual params body scope fr cap y:=by
 obtain⟨G,pm,Y,F,h1,J,h3,h4,h5,Z⟩:=h;refine⟨G,pm,Y,F,e _ _ h1 rfl,e _ _ J rfl,λ x c q=>?_,h4,h5,λ i x v a b=>?_⟩
 .obtain⟨o,v,z,d⟩:=h3 x c q;exact⟨o,v,e _ _ z rfl,d⟩
 .obtain⟨c,o,u,z1,z2,z3⟩:=Z i x v a b;exact⟨c,o,u,z1,e _ _ z2 rfl,z3⟩
theorem aB0.kp (h:aB0 H f J cap y)(e:Kp H H'):aB0 H' f J cap y:=by
 unfold aB0 at h ⊢;cases q:J.nm with
 | none=>rw[q]at h;exact ba4.kp h e
 | some p=>rw[q]at h;exact aG3.kp h e
def aC6.kp (h:aC6 H f J y)(e:Kp H H'):aC6 H' f J y:=by
 unfold aC6 at h ⊢;cases q:J.nm with
 | none =>
  rw[q]at h;obtain⟨Z,c',z,Y,F⟩:=h;exact⟨Z,c',z,e _ _ Y rfl,e _ _ F rfl⟩
 | some p =>
  rw[q]at h;obtain⟨G,Z,c',z,Y,F⟩:=h;exact⟨G,Z,c',z,e _ _ Y rfl,e _ _ F rfl⟩
theorem aB0.fn {K}(h:aB0 H f J cap y):bY2 K H f:=by
 unfold aB0 at h;cases q:J.nm with
 | none=>rw[q]at h;obtain⟨G,Y,F,z,_⟩:=h;exact .inl ⟨_,z⟩
 | some p=>rw[q]at h;exact aG3.fn h
structure Gw (C:Nat->Addr)(n:Nat)(H:Hp)(C':Nat->Addr)(H':Hp):Prop where
 map:∀ i,i<n->C' i=C i
 kp:Kp H H'
variable {Γ:Gm}
mutual
theorem RV.monoW {C C':Nat->Addr}{n:Nat}{H H':Hp}(g:Gw C n H C' H'):∀(d:mq) (v:V),d.bnd n=true->RV Γ C H d v->RV Γ C' H' d v
 | .N,_,_,h=>by unfold RV at h ⊢;exact h
 | .T _,_,_,h=>by unfold RV at h ⊢;exact h
 | .int _,_,_,h=>by unfold RV at h ⊢;exact h
 | .str _,_,_,h=>by unfold RV at h ⊢;exact h
 | .tp l,_,b,h=>by
  unfold RV at h ⊢;unfold mD at b;obtain⟨a,F,e,q,r⟩:=h;exact⟨a,F,e,⟨g.kp.sqT q.1,λ z=>g.kp _ _ (q.2 z) rfl⟩,RVL.monoW g l F b r⟩
 | .ref k,_,b,h=>by
  unfold RV at h ⊢;unfold mD at b;rw[g.map k (of_decide_eq_true b)];exact h
 | .fn _,_,_,h=>by unfold RV at h ⊢;exact h
 | .clo id cs,_,b,h=>by
  unfold RV at h ⊢;unfold mD at b;obtain⟨f,cap,J,y,e,Y,G,h3,h4⟩:=h;exact⟨f,cap,J,y,e,Y,G.kp g.kp,h3,RVL.monoW g cs cap b h4⟩
theorem RVL.monoW {C C':Nat->Addr}{n:Nat}{H H':Hp}(g:Gw C n H C' H'):∀(l:List mq) (y:List V),mr n l=true->RVL Γ C H l y->RVL Γ C' H' l y
 | [],_,_,h=>by unfold RVL at h ⊢;exact h
 | d::l,_,b,h=>by
  unfold RVL at h ⊢;unfold mr at b;rw[am]at b;obtain⟨x,r,e,q,t⟩:=h;exact⟨x,r,e,RV.monoW g d x b.1 q,RVL.monoW g l r b.2 t⟩
end
mutual
theorem zg {n m:Nat}(h:n<=m):∀ d:mq,d.bnd n=true->d.bnd m=true
 | .N,_=>rfl
 | .T _,_=>rfl
 | .int _,_=>rfl
 | .str _,_=>rfl
 | .tp l,b=>by unfold mD at b ⊢;exact ad0 h l b
 | .ref k,b=>by unfold mD at b ⊢;exact decide_eq_true (aK (of_decide_eq_true b) h)
 | .fn _,_=>rfl
 | .clo _ l,b=>by unfold mD at b ⊢;exact ad0 h l b
theorem ad0 {n m:Nat}(h:n<=m):∀ l:List mq,mr n l=true->mr m l=true
 | [],_=>rfl
 | d::l,b=>by
  unfold mr at b ⊢;rw[am]at b ⊢;exact⟨zg h d b.1,ad0 h l b.2⟩
end
theorem ab6 :∀ {l},mr n l=true↔∀ d∈l,d.bnd n=true
 | []=>by unfold mr;simp
 | d::l=>by
  unfold mr;rw[am,ab6 ];simp
def qb (h:mr n l=true)(h':mr n m=true):mr n (l++m)=true :=
 ab6.mpr λ d hd=>(cH.mp hd).elim (ab6.mp h d) (ab6.mp h' d)
def aL1 (h:mr n l=true)(s:∀ d∈m,d∈l):mr n m=true:=ab6.mpr λ d hd=>ab6.mp h d (s d hd)
def am7 {i:Nat}(h:mr n l=true)(e:l[i]?=some d):d.bnd n=true:=ab6.mp h d (aG e)
section
variable {C:Nat->Addr} {H:Hp}
def RVL.nil:RVL Γ C H [] []:=by unfold RVL;rfl
def RVL.cons (a:RV Γ C H d x)(b:RVL Γ C H l y):RVL Γ C H (d::l) (x::y):=by unfold RVL;exact⟨x,y,rfl,a,b⟩
def RVL.unnil (h:RVL Γ C H [] y):y=[]:=by unfold RVL at h;exact h
def RVL.uncons (h:RVL Γ C H (d::l) y):∃ x r,y=x::r/\RV Γ C H d x/\RVL Γ C H l r:=by unfold RVL at h;exact h
theorem RVL.length:∀ {l} {y},RVL Γ C H l y->y.length=l.length
 | [],_,h=>by rw[h.unnil];rfl
 | d::l,_,h=>by
  obtain⟨x,r,rfl,_,t⟩:=h.uncons;rw[aE,aE,RVL.length t]
theorem RVL.get:∀ {l} {z} {i:Nat} {d},RVL Γ C H l z->l[i]?=some d->∃ x,z[i]?=some x/\RV Γ C H d x
 | [],_,_,_,_,e=>by simp at e
 | d::l,_,0,d',h,e=>by
  obtain⟨x,r,rfl,q,t⟩:=h.uncons;have e':=by simpa using e
  subst e';exact⟨x,rfl,q⟩
 | d::l,_,i+1,_,h,e=>by
  obtain⟨x,r,rfl,q,t⟩:=h.uncons;obtain⟨y,e1,e2⟩:=RVL.get t (by simpa using e);exact⟨y,by simpa using e1,e2⟩
theorem RVL.append:∀ {l m} {y ys},RVL Γ C H l y->RVL Γ C H m ys->RVL Γ C H (l++m) (y++ys)
 | [],_,_,_,h,h'=>by rw[h.unnil];exact h'
 | d::l,_,_,_,h,h'=>by
  obtain⟨x,r,rfl,q,t⟩:=h.uncons;exact .cons q (RVL.append t h')
theorem RVL.drop:∀ {l} {y} n ,RVL Γ C H l y->RVL Γ C H (l.drop n) (y.drop n)
 | _,_,0,h=>h
 | [],_,n+1,h=>by rw[h.unnil];exact .nil
 | d::l,_,n+1,h=>by
  obtain⟨x,r,rfl,q,t⟩:=h.uncons;exact RVL.drop n t
theorem RVL.take:∀ {l} {y} n ,RVL Γ C H l y->RVL Γ C H (l.take n) (y.take n)
 | _,_,0,h=>.nil
 | [],_,n+1,h=>by rw[h.unnil];exact .nil
 | d::l,_,n+1,h=>by
  obtain⟨x,r,rfl,q,t⟩:=h.uncons;exact .cons q (RVL.take n t)
theorem RVL.set:∀ {l} {y} {d} {x} i ,RVL Γ C H l y->RV Γ C H d x->RVL Γ C H (l.set i d) (y.set i x)
 | [],_,_,_,_,h,_=>by rw[h.unnil];exact .nil
 | d::l,_,_,_,0,h,q=>by
  obtain⟨x,r,rfl,_,t⟩:=h.uncons;exact .cons q t
 | d::l,_,_,_,i+1,h,q=>by
  obtain⟨x,r,rfl,z,t⟩:=h.uncons;exact .cons z (RVL.set i t q)
def RV.intE (h:RV Γ C H (.int i) v):v=.int i:=by unfold RV at h;exact h
def RV.blE (h:RV Γ C H (.T i) v):v=.T i:=by unfold RV at h;exact h
def RV.nonE (h:RV Γ C H .N v):v=.N:=by unfold RV at h;exact h
def RV.strE (h:RV Γ C H (.str x) v):v=.str ⟨x.toArray⟩:=by unfold RV at h;exact h.1
def RV.strL (h:RV Γ C H (.str x) v):x.length<=mG:=by unfold RV at h;exact h.2
def RV.tupE (h:RV Γ C H (.tp l) v):∃ a y,v=.ref a/\SqT Γ.K H a y/\RVL Γ C H l y:=by unfold RV at h;obtain⟨a,y,e,q,r⟩:=h;exact⟨a,y,e,q.1,r⟩
def RV.tupZ (h:RV Γ C H (.tp l) v):∃ a y,(v=.ref a/\(nu l=true->H a=some (.tp y)))/\SqT Γ.K H a y/\RVL Γ C H l y:=by unfold RV at h;obtain⟨a,y,e,q,r⟩:=h;exact⟨a,y,⟨e,q.2⟩,q.1,r⟩
def RVL.tonil (h:RVL Γ C H l []):l=[]:=de.mp h.length.symm
def RV.refE (h:RV Γ C H (.ref n) v):v=.ref (C n):=by unfold RV at h;exact h
def RV.intI :RV Γ C H (.int i) (.int i):=by unfold RV;rfl
def RV.blI :RV Γ C H (.T i) (.T i):=by unfold RV;rfl
def RV.nonI:RV Γ C H .N .N:=by unfold RV;rfl
def RV.strI (h:x.length<=mG):RV Γ C H (.str x) (.str ⟨x.toArray⟩):=by unfold RV;exact⟨rfl,h⟩
def RV.tupI (h:H a=some (.tp y))(q:RVL Γ C H l y):RV Γ C H (.tp l) (.ref a):=by unfold RV;exact⟨a,y,rfl,⟨SqT.of h,λ _=>h⟩,q⟩
def RV.tupC (h:SqT Γ.K H a y)(z:nu l=true->H a=some (.tp y))(q:RVL Γ C H l y):RV Γ C H (.tp l) (.ref a):=by unfold RV;exact⟨a,y,rfl,⟨h,z⟩,q⟩
def RV.refI :RV Γ C H (.ref n) (.ref (C n)):=by unfold RV;rfl
end
def bz8 (h:nu (nE n l)=true):nu l=true:=by
 cases n with
 | zero=>cases h
 | succ n =>
  cases l with
  | nil => 
   have:∀ k,nE k ([])=[]:=λ k=>by
    induction k with
    | zero=>rfl
    | succ k ih=>show[]++nE k []=[];rw[ih];rfl
   rw[this]at h;cases h
  | cons a l =>
   have e:nE (n+1) (a::l)=a::(l++nE n (a::l)):=rfl;rw[e]at h;cases a with
   | int _=>rfl
   | N=>rfl
   | tp _=>rfl
   | _=>cases h
def aX7 (h:(nr l y F).length=l.length):nr l y F=l:=by
 unfold nr at h ⊢;rw[aQ,be]at h;by_cases z:l=[]
 .subst z;simp
 .have hp:=da.mpr z;have e1:nM l.length y=0:=by lia
  rw[e1]at h ⊢;rw[cB];exact bU (by lia)
def SqF (K:ac)(H:Hp)(a:Addr)(xs:List V):Prop:=SqL K H a xs/\∀ H',Kp H H'->SqL K H' a xs
def RVD {κ:Type}(kf:mq->Option κ)(Γ:Gm)(C:Nat->Addr)(H:Hp):List (mq×mq)->List (κ×V)->Prop
 | [],kvs=>kvs=[]
 | (d,e)::l,kvs=>∃ k v r,kvs=(k,v)::r/\kf d=some k/\RV Γ C H e v/\RVD kf Γ C H l r
variable (Γ)
def RO (C:Nat->Addr)(H:Hp)(a:Addr):nv->Prop
 | .J l=>∃ xs,H a=some (.J xs)/\RVL Γ C H l xs
 | .ro l=>∃ xs,SqF Γ.K H a xs/\RVL Γ C H l xs
 | .ins _ _=>False
abbrev okd:nv->Nat:=DV.O.kd
noncomputable def isMut:nv->Bool
 | .ro _=>false
 | _=>true
structure Rp (C:Nat->Addr)(H:Hp)(s:mn):Prop where
 inj:∀(i j:Nat) (o o':nv),s[i]?=some o->s[j]?=some o'->isMut o=true->isMut o'=true->C i=C j->i=j
 obj:∀(i:Nat) (o:nv),s[i]?=some o->RO Γ C H (C i) o
 wf:∀(i:Nat) (o:nv),s[i]?=some o->o.bnd s.length=true
 tab:TabsH Γ.T H
structure RE (C:Nat->Addr)(H:Hp)(n:Nat)(U:mv)(W:St):Prop where
 len:U.length=W.length
 val:∀(i:Nat) (d:mq),U[i]?=some (some d)->d.bnd n=true/\∃ v,W[i]?=some (some v)/\RV Γ C H d v
structure Gr (C:Nat->Addr)(s:mn)(H:Hp)(C':Nat->Addr)(s':mn)(H':Hp):Prop where
 w:Gw C s.length H C' H'
 le:s.length<=s'.length
 new:∀ i:Nat,s.length<=i->i<s'.length->H (C' i)=none
 kd:∀(i:Nat) (o o':nv),s[i]?=some o->s'[i]?=some o'->okd o'=okd o
 st:∀ b,H b≠none->H' b≠none
 fr:∀ b o,H b=some o->(∀ ps,o≠.tbl ps)->(∀(i:Nat) (ob:nv),s[i]?=some ob->isMut ob=true->C i≠b)->H' b=some o
variable {Γ}
def bD3 (h:okd y=okd o)(m:isMut y=true):isMut o=true:=by
 cases o with
 | ro _=>cases y with
  | ro _=>cases m
  | _=>cases h
 | _=>rfl
def Gr.mu (g:Gr C s H C' s' H')(i:Nat) o y (e:s[i]?=some o)(e':s'[i]?=some y)(m:isMut y=true):isMut o=true:=bD3 (g.kd i o y e e') m
theorem Gr.refl C s H :Gr C s H C s H:=⟨⟨λ _ _=>rfl,Kp.refl H⟩,av _,λ i F y=>absurd y (by lia),λ i o z e e'=>by rw[e]at e';cases e';rfl,λ _ h=>h,λ _ _ h _ _=>h⟩
theorem Gr.trans (a:Gr C s H C1 F Y)(b:Gr C1 F Y C2 s2 Z)(_h:s.length<=F.length):Gr C s H C2 s2 Z:=by
 refine⟨⟨λ i y=>(b.w.map i (aK y a.le)).trans (a.w.map i y),a.w.kp.trans b.w.kp⟩,aq a.le b.le,λ i h1 h2=>?_,λ i o o' e e'=>?_,λ c h=>b.st c (a.st c h),λ c o h J ne=>?_⟩
 .by_cases y:i<F.length
  .rw[b.w.map i y];exact a.new i h1 y
  .have e:=b.new i (by lia) h2;cases q:H (C2 i)with
   | none=>rfl
   | some o=>exact absurd e (a.st _ (by rw[q];simp))
 .have hl:i<F.length:=aK (ah.mp e).1 a.le;obtain⟨o1,e1⟩:∃ o1,F[i]?=some o1:=⟨F[i],aj hl⟩
  exact(b.kd i o1 o' e1 e').trans (a.kd i o o1 e e1)
 .refine b.fr c o (a.fr c o h J ne) J λ i ob e m z=>?_;by_cases y:i<s.length
  .obtain⟨G,e0⟩:∃ G,s[i]?=some G:=⟨s[i],aj y⟩
   exact ne i G e0 (a.mu i G ob e0 e m) (by rw[<-a.w.map i y];exact z)
  .have:=a.new i (by lia) (ah.mp e).1;rw[z,h]at this;cases this
def RV.mono (g:Gr C s H C' s' H') d v (b:d.bnd s.length=true)(h:RV Γ C H d v):RV Γ C' H' d v:=RV.monoW g.w d v b h
def RVL.mono (g:Gr C s H C' s' H') d v (b:mr s.length d=true)(h:RVL Γ C H d v):RVL Γ C' H' d v:=RVL.monoW g.w d v b h
theorem RE.mono (h:RE Γ C H s.length U W)(g:Gr C s H C' s' H')(hn:s.length<=s'.length):RE Γ C' H' s'.length U W :=
 ⟨h.len,λ i d e=>by
  obtain⟨b,v,e1,e2⟩:=h.val i d e;exact⟨zg hn d b,v,e1,RV.mono g d v b e2⟩⟩
def ah1 (Γ:Gm)(C:Nat->Addr)(s:mn)(H:Hp)(d:mq)(s':mn)(Q:VK):Prop :=
 ∀ v C' H',Gr C s H C' s' H'->s.length<=s'.length->d.bnd s'.length=true->RV Γ C' H' d v->Rp Γ C' H' s'->Q v H'
theorem ah1.trans (h:ah1 Γ C s H d s' Q)(g:Gr C s H C1 y z)(l:s.length<=y.length):ah1 Γ C1 y z d s' Q :=
 λ v C' H' g' F b r p=>h v C' H' (g.trans g' l) (aq l F) b r p
def ah1.here (h:ah1 Γ C s H d s Q)(p:Rp Γ C H s)(b:d.bnd s.length=true)(r:RV Γ C H d v):Q v H :=
 h v C H (Gr.refl C s H) (av _) b r p
theorem RVD.monoW (g:Gw C n H C' H'):∀ l (y:List (κ×V)),mr n (l.map (·.2))=true->RVD z Γ C H l y->RVD z Γ C' H' l y
 | [],_,_,h=>h
 | (d,e)::l,_,b,h=>by
  obtain⟨k,v,r,e1,e2,e3,F⟩:=h;rw[aF]at b;unfold mr at b;rw[am]at b;exact⟨k,v,r,e1,e2,RV.monoW g e v b.1 e3,RVD.monoW g l r b.2 F⟩
def RO.mono (h:RO Γ C H a o)(g:Gw C n H C' H')(b:o.bnd n=true)(hl:isMut o=true->∀ u,H a=some u->H' a=some u):RO Γ C' H' a o:=by
 cases o with
 | J l =>
  unfold mH at b;obtain⟨y,e,r⟩:=h;exact⟨y,hl rfl _ e,RVL.monoW g l y b r⟩
 | ro l =>
  unfold mH at b;obtain⟨y,e,r⟩:=h;exact⟨y,⟨e.2 _ g.kp,λ z k=>e.2 _ (g.kp.trans k)⟩,RVL.monoW g l y b r⟩
 | ins _ _=>exact h.elim
def RO.there (h:RO Γ C H a o)(m:isMut o=true):∃ u,H a=some u/\bW6 u=false/\∀ ps,u≠.tbl ps:=by
 cases o with
 | J l=>obtain⟨y,e,_⟩:=h;exact⟨_,e,rfl,by nofun⟩
 | ro l=>cases m
 | ins _ _=>exact h.elim
def Rp.addr (p:Rp Γ C H s)(e:s[i]?=some (.J l)):∃ y,H (C i)=some (.J y)/\RVL Γ C H l y:=p.obj i _ e
def zV (h:n<=m)(o:nv)(b:o.bnd n=true):o.bnd m=true:=by
 cases o with
 | J l=>unfold mH at b ⊢;exact ad0 h l b
 | ro l=>unfold mH at b ⊢;exact ad0 h l b
 | ins c l=>unfold mH at b ⊢;exact ad0 h _ b
def TabsH.keepF (h:TabsH T H)(k:∀ b o,(bW6 o=true\/∃ ps,o=.tbl ps)->H b=some o->H' b=some o):TabsH T H':=λ y hy=>by
 obtain⟨ps,e,t,c⟩:=h y hy;refine⟨ps,k _ _ (.inr ⟨_,rfl⟩) e,t,λ pos z q=>?_⟩;obtain⟨F,e1,e2⟩:=c pos z q;exact⟨F,e1,k _ _ (.inl rfl) e2⟩
theorem Rp.new (r:Rp Γ C H s)(hp:H p=none)(hb:o.bnd s.length=true)
  (ho:∀ C' H',Gw C s.length H C' H'->H' p=some u->RO Γ C' H' p o):Gr C s H (λ i=>if i=s.length then p else C i) (s++[o]) (upd H p u)/\Rp Γ (λ i=>if i=s.length then p else C i) (upd H p u) (s++[o]):=by
 have g:Gw C s.length H (λ i=>if i=s.length then p else C i) (upd H p u):=⟨λ i y=>if_neg (aC y),(Kp.refl H).new hp⟩
 have key:∀ i z,(s++[o])[i]?=some z->(i<s.length/\s[i]?=some z)\/(i=s.length/\z=o):=λ i z e=>by
  rcases gE i s.length with h|h|h
  .rw[bh h]at e;exact .inl ⟨h,e⟩
  .subst h;simp at e;exact .inr ⟨rfl,e.symm⟩
  .rw[dB (by simp;lia)]at e;cases e
 refine⟨⟨g,by simp,λ i h1 h2=>?_,λ i o1 o2 e1 e2=>?_,λ b hb=>?_,λ b ob hb _ _=>by rw[zu (zm hb hp)];exact hb⟩,λ i j G J F ej Z Y e=>?_,λ i z e=>?_,λ i z e=>?_,r.tab.new hp⟩
 .rw[ar,dA]at h2;rw[if_pos (by lia)];exact hp
 .rcases key i o2 e2 with⟨_,e⟩|⟨y,_⟩
  .rw[e1]at e;cases e;rfl
  .have:=(ah.mp e1).1;lia
 .unfold upd;split
  .simp
  .exact hb
 .rcases key i G F with⟨y,F⟩|⟨y,rfl⟩<;>rcases key j J ej with⟨hj,ej⟩|⟨hj,ej'⟩
  .rw[if_neg (aC y),if_neg (aC hj)]at e;exact r.inj i j G J F ej Z Y e
  .rw[if_neg (aC y),if_pos hj]at e;obtain⟨u,hu,_,_⟩:=(r.obj i G F).there Z;rw[e,hp]at hu;cases hu
  .rw[if_neg (aC hj),if_pos y]at e;obtain⟨u,hu,_,_⟩:=(r.obj j J ej).there Y;rw[<-e,hp]at hu;cases hu
  .rw[y,hj]
 .rcases key i z e with⟨y,e⟩|⟨y,rfl⟩
  .show RO Γ _ _ (if i=s.length then p else C i) z;rw[if_neg (aC y)];exact(r.obj i z e).mono g (r.wf i z e) λ _ v hv=>by rw[zu (zm hv hp)];exact hv
  .show RO Γ _ _ (if i=s.length then p else C i) z;rw[if_pos y];exact ho _ _ g zo
 .rw[ar,dA];rcases key i z e with⟨y,e⟩|⟨y,rfl⟩
  .exact zV (fw _) _ (r.wf i z e)
  .exact zV (fw _) _ hb
theorem Rp.set (r:Rp Γ C H s)(hk:s[k]?=some F)(Y:isMut F=true)(hb:o.bnd s.length=true)
  (ho:∀ H',Gw C s.length H C H'->H' (C k)=some u->RO Γ C H' (C k) o) (a1:autoParam (okd o=okd F) Zq4._auto_1):Gr C s H C (s.set k o) (upd H (C k) u)/\Rp Γ C (upd H (C k) u) (s.set k o):=by
 obtain⟨v0,G,f0,a0⟩:=(r.obj k F hk).there Y;have Z:=(ah.mp hk).1;have g:Gw C s.length H C (upd H (C k) u):=⟨λ _ _=>rfl,(Kp.refl H).put G f0⟩
 have key:∀ i y,(s.set k o)[i]?=some y->(i≠k/\s[i]?=some y)\/(i=k/\y=o):=λ i y e=>by
  by_cases h:i=k
  .subst h;rw[aX Z]at e;exact .inr ⟨rfl,(aB e).symm⟩
  .rw[bI (d7 h)]at e;exact .inl ⟨h,e⟩
 have mm:∀ i y,(s.set k o)[i]?=some y->isMut y=true->∃ J,s[i]?=some J/\isMut J=true:=λ i y e m=>by
  rcases key i y e with⟨_,e⟩|⟨h,_⟩
  .exact⟨y,e,m⟩
  .exact⟨F,by rw[h];exact hk,Y⟩
 refine⟨⟨g,by simp,λ i h1 h2=>by rw[bt]at h2;lia,λ i o1 o2 e1 e2=>?_,λ b hb=>?_,λ b ob hb nt ne=>by rw[zu (d7 (ne k F hk Y))];exact hb⟩,λ i j oi oj ei ej mi mj e=>?_,λ i y e=>?_,λ i y e=>?_,r.tab.keepF λ b v hv q=>?_⟩
 .rcases key i o2 e2 with⟨_,e⟩|⟨h,rfl⟩
  .rw[e1]at e;cases e;rfl
  .subst h;rw[hk]at e1;cases e1;exact a1
 .unfold upd;split
  .simp
  .exact hb
 .obtain⟨o1,e1,m1⟩:=mm i oi ei mi;obtain⟨o2,e2,m2⟩:=mm j oj ej mj;exact r.inj i j o1 o2 e1 e2 m1 m2 e
 .rcases key i y e with⟨h,e⟩|⟨h,rfl⟩
  .refine(r.obj i y e).mono g (r.wf i y e) λ m v hv=>?_;rw[zu λ z=>h (r.inj i k y F e hk m Y z)];exact hv
  .subst h;exact ho _ g zo
 .rw[bt];rcases key i y e with⟨_,e⟩|⟨_,rfl⟩
  .exact r.wf i y e
  .exact hb
 .rw[zu λ z=>by
   subst z;rw[G]at q;cases q;rcases hv with h|⟨ps,h⟩
   .rw[f0]at h;cases h
   .exact a0 _ h]
  exact q
theorem Rp.same (r:Rp Γ C H s)(e:af2 H H'):Gr C s H C s H'/\Rp Γ C H' s:=by
 have g:Gw C s.length H C H':=⟨λ _ _=>rfl,λ b o h _=>e b o h⟩
 exact⟨⟨g,av _,λ i F y=>absurd y (by omega),λ i o z e e'=>by rw[e]at e';cases e';rfl,λ b hb=>by
  cases q:H b with
  | none=>exact absurd q hb
  | some o=>rw[e b o q];simp,λ b o h _ _=>e b o h⟩,r.inj,λ i o h=>(r.obj i o h).mono g (r.wf i o h) λ _ u hu=>e _ u hu,r.wf,r.tab.same e⟩
section
variable {C:Nat->Addr} {H:Hp} {s:mn} {Q:VK}
def ah1.alloc (h:ah1 Γ C s H (.ref s.length) (s++[.J l]) Q)(r:Rp Γ C H s)(hl:RVL Γ C H l y)(hb:mr s.length l=true)(hp:H p=none):Q (.ref p) (upd H p (.J y)):=by
 obtain⟨g,z⟩:=r.new (o:=.J l) hp hb λ C' H' g e=>⟨y,e,RVL.monoW g l y hb hl⟩
 have:=h (.ref p) _ _ g (by simp) (by unfold mD;simp) (by unfold RV;simp) z;exact this
def ah1.tup (h:ah1 Γ C s H (.tp l) s Q)(r:Rp Γ C H s)(hl:RVL Γ C H l y)(hb:mr s.length l=true)(hp:H p=none):Q (.ref p) (upd H p (.tp y)):=by
 obtain⟨g,z⟩:=r.same ((af2.refl H).new hp);exact h _ _ _ g (av _) (by unfold mD;exact hb) (RV.tupI zo (RVL.mono g l y hb hl)) z
def ah1.put (h:ah1 Γ C s H d (s.set k (.J l)) Q)(r:Rp Γ C H s)(hk:s[k]?=some (.J l0))(hl:RVL Γ C H l y)(hb:mr s.length l=true)
  (hd:d.bnd s.length=true) (hv:RV Γ C H d v):Q v (upd H (C k) (.J y)):=by
 obtain⟨g,z⟩:=r.set (o:=.J l) hk rfl hb λ H' g e=>⟨y,e,RVL.monoW g l y hb hl⟩
 exact h _ _ _ g (by simp) (by rw[bt];exact hd) (RV.mono g d v hd hv) z
end
variable {Γ:Gm}
def bW4 {κ:Type}(kf:mq->Option κ):Prop:=∀ {a b} {k},kf a=some k->kf b=some k->a=b
section
variable {κ:Type} [DecidableEq κ] {kf:mq->Option κ}
theorem RVD.val (F:bW4 kf)(hk:kf d=some k):∀ {l} {y},RVD kf Γ C H l y->(nJ d l=none/\bl2 y k=none)\/∃ e v,nJ d l=some e/\bl2 y k=some v/\RV Γ C H e v/\e∈l.map (·.2)
 | [],y,h=>by
  have h:=h;subst h;exact .inl ⟨rfl,rfl⟩
 | (a,e)::l,y,h=>by
  obtain⟨G,v,r,rfl,e2,e3,Y⟩:=h;by_cases z:a=d
  .subst z;rw[hk]at e2;cases e2;exact .inr ⟨e,v,by unfold nJ;rw[if_pos rfl],aw5 rfl,e3,by simp⟩
  .have Z:¬ G=k:=λ q=>z (F e2 (by rw[q];exact hk));have J:nJ d ((a,e)::l)=nJ d l:=by
    conv=>lhs;unfold nJ
    rw[if_neg z]
   rw[J,aA0 (Z)];rcases RVD.val F hk Y with q|⟨e',v',q1,q2,q3,q4⟩
   .exact .inl q
   .exact .inr ⟨e',v',q1,q2,q3,by simp at q4 ⊢;exact .inr q4⟩
theorem RVD.repl (F:bW4 kf)(hk:kf d=some k)(hv:RV Γ C H e v):∀ {l} {y},RVD kf Γ C H l y->RVD kf Γ C H (l.map λ p=>if p.1=d then(p.1,e)else p) (y.map λ G=>if G.1=k then(G.1,v)else G)
 | [],y,h=>by
  have h:=h;subst h;exact(rfl)
 | (a,e0)::l,y,h=>by
  obtain⟨Y,v0,r,rfl,e2,e3,J⟩:=h;rw[aF,aF];by_cases z:a=d
  .subst z;rw[hk]at e2;cases e2;rw[if_pos rfl,if_pos rfl];exact⟨k,v,_,rfl,hk,hv,RVD.repl F hk hv J⟩
  .have Z:¬ Y=k:=λ q=>z (F e2 (by rw[q];exact hk));rw[if_neg z,if_neg Z];exact⟨Y,v0,_,rfl,e2,e3,RVD.repl F hk hv J⟩
theorem RVD.snoc (z:bW4 kf)(hk:kf d=some k)(hv:RV Γ C H e v):∀ {l} {y},RVD kf Γ C H l y->RVD kf Γ C H (l++[(d,e)]) (y++[(k,v)])
 | [],y,h=>by
  have h:=h;subst h;exact⟨k,v,[],rfl,hk,hv,rfl⟩
 | (a,e0)::l,y,h=>by
  obtain⟨G,v0,r,rfl,e2,e3,F⟩:=h;exact⟨G,v0,_,rfl,e2,e3,RVD.snoc z hk hv F⟩
def RVD.put (z:bW4 kf)(hk:kf d=some k)(hv:RV Γ C H e v)(h:RVD kf Γ C H l y):RVD kf Γ C H (DV.ch9 d e l) (bW3 y k v):=by
 unfold DV.ch9 bW3;rw[aM6];rcases h.val z hk with⟨q1,q2⟩|⟨e',v',q1,q2,_⟩
 .rw[q1,q2];exact h.snoc z hk hv
 .rw[q1,q2];exact h.repl z hk hv
theorem RVD.get :∀ {l} {y} {i:Nat} {d e},RVD kf Γ C H l y->l[i]?=some (d,e)->∃ k v,y[i]?=some (k,v)/\kf d=some k/\RV Γ C H e v
 | [],_,_,_,_,_,h=>by cases h
 | (a,b)::l,y,0,d,e,h,q=>by
  obtain⟨k,v,r,rfl,e2,e3,z⟩:=h;cases q;exact⟨k,v,rfl,e2,e3⟩
 | (a,b)::l,y,i+1,d,e,h,q=>by
  obtain⟨k,v,r,rfl,e2,e3,z⟩:=h;exact RVD.get (i:=i) z (q)
theorem RVD.length :∀ {l} {y},RVD kf Γ C H l y->y.length=l.length
 | [],y,h=>by
  have h:=h;subst h;rfl
 | (a,e)::l,y,h=>by
  obtain⟨F,v,r,rfl,e2,e3,z⟩:=h;rw[aE,aE,RVD.length z]
end
def am5 (h:mY f (a::l) (b::m)=some z):∃ x y,f a b=some x/\mY f l m=some y/\z=(x&&y):=by
 unfold mY at h;cases e1:f a b with
 | none=>rw[e1]at h;cases h
 | some x =>
  cases e2:mY f l m with
  | none=>rw[e1,e2]at h;cases h
  | some y=>rw[e1,e2]at h;exact⟨x,y,rfl,rfl,(aB h).symm⟩
theorem bc0 :∀ {l m} {z},mY f l m=some z->∃ e,(∀ j d d',l[j]?=some d->m[j]?=some d'->f d d'=some (e j))/\((l.length==m.length)&&(bE (min l.length m.length)).all e)=z
 | [],[],z,h=>by
  unfold mY at h;cases h;exact⟨λ _=>true,λ j d d' h=>by simp at h,by simp⟩
 | [],b::m,z,h=>by
  unfold mY at h;cases h;exact⟨λ _=>true,λ j d d' h=>by simp at h,by simp⟩
 | a::l,[],z,h=>by
  unfold mY at h;cases h;exact⟨λ _=>true,λ j d d' J F=>by simp at F,by simp⟩
 | a::l,b::m,z,h=>by
  obtain⟨x,y,e1,e2,Y⟩:=am5 h;obtain⟨e,J,F⟩:=bc0 e2;refine⟨λ j=>match j with|0=>x|j+1=>e j,λ j d d' g1 G=>?_,?_⟩
  .cases j with
   | zero=>simp at g1 G;subst g1;subst G;exact e1
   | succ j=>exact J j d d' (by simpa using g1) (by simpa using G)
  .rw[aE,aE,show min (l.length+1) (m.length+1)=min l.length m.length+1 by lia,eQ,ci,fY,Y,<-F];have:((l.length+1==m.length+1)=(l.length==m.length)):=by
    by_cases q:l.length=m.length
    .simp[]
    .have:=by omega
     simp[]
   rw[this];show((l.length==m.length)&&(x&&(bE _).all e))=_;cases x<;>cases(l.length==m.length)<;>simp
section
variable {X:Cx} {pins:yA} {W:St} {H:Hp} {sh:af} {C:Nat->Addr} {s:mn}
def aq9 (I:Inv X pins W H sh)(h:H a=some (.J y))(h':SqT X.K H a ys):False:=by
 rcases h' with(z|⟨o,z⟩)|⟨o,its,n,hk,_⟩
 .rw[h]at z;cases z
 .rw[h]at z;cases z
 .have:=(I.bs a o (I.mod.kin a o hk)).2;rw[h]at this;cases this
def rv_two (I:Inv X pins W H sh)(hK:X.K=Γ.K)(R:Rp Γ C H s)(G:RV Γ C H a x)(y:RV Γ C H b x)(n1:nj s a≠9)(z:nj s b≠9):a=b\/∃ l m p J,a=.tp l/\b=.tp m/\x=.ref p/\RVL Γ C H l J/\RVL Γ C H m J:=by
 have F:∀ {r:Nat},nj s (.ref r)≠9->∃ l,s[r]?=some (.J l):=λ {r} h=>by
  have h:(match s[r]? with|some (DV.O.J l)=>4|_=>9:Nat)≠9:=h;cases hs:s[r]? with
  | none=>rw[hs]at h;exact absurd rfl h
  | some o =>
   rw[hs]at h;cases o with
   | J l=>exact⟨l,rfl⟩
   | _=>exact absurd rfl h
 cases a with
 | N=>have e:=G.nonE;subst e;cases b with
  | N=>exact .inl rfl
  | T _=>cases y.blE
  | int _=>cases y.intE
  | str _=>cases y.strE
  | tp _=>obtain⟨_,_,e,_⟩:=y.tupE;cases e
  | ref _=>cases y.refE
  | fn _=>exact absurd rfl z
  | clo _ _=>exact absurd rfl z
 | T p=>have e:=G.blE;subst e;cases b with
  | N=>cases y.nonE
  | T _=>cases y.blE;exact .inl rfl
  | int _=>cases y.intE
  | str _=>cases y.strE
  | tp _=>obtain⟨_,_,e,_⟩:=y.tupE;cases e
  | ref _=>cases y.refE
  | fn _=>exact absurd rfl z
  | clo _ _=>exact absurd rfl z
 | int p=>have e:=G.intE;subst e;cases b with
  | N=>cases y.nonE
  | T _=>cases y.blE
  | int _=>cases y.intE;exact .inl rfl
  | str _=>cases y.strE
  | tp _=>obtain⟨_,_,e,_⟩:=y.tupE;cases e
  | ref _=>cases y.refE
  | fn _=>exact absurd rfl z
  | clo _ _=>exact absurd rfl z
 | str p=>have e:=G.strE;subst e;cases b with
  | N=>cases y.nonE
  | T _=>cases y.blE
  | int _=>cases y.intE
  | str q =>
   have e':p.toArray=q.toArray:=Str.mk.inj (V.str.inj y.strE);have Y:p=q:=by simpa using congrArg jP e'
   subst Y;exact .inl rfl
  | tp _=>obtain⟨_,_,e,_⟩:=y.tupE;cases e
  | ref _=>cases y.refE
  | fn _=>exact absurd rfl z
  | clo _ _=>exact absurd rfl z
 | tp l =>
  obtain⟨p,J,e,q1,d1⟩:=G.tupE;subst e;cases b with
  | N=>cases y.nonE
  | T _=>cases y.blE
  | int _=>cases y.intE
  | str _=>cases y.strE
  | tp m =>
   obtain⟨p',ys,e,q2,Z⟩:=y.tupE;cases e;rw[<-hK]at q1 q2;rw[I.tuple_inj q2 q1]at Z;exact .inr ⟨l,m,p,J,rfl,rfl,rfl,d1,Z⟩
  | ref r =>
   cases y.refE;obtain⟨m,hm⟩:=F z;obtain⟨ys,hy,_⟩:=R.addr hm;rw[<-hK]at q1;exact(aq9 I hy q1).elim
  | fn _=>exact absurd rfl z
  | clo _ _=>exact absurd rfl z
 | ref r =>
  have e:=G.refE;subst e;obtain⟨l,hl⟩:=F n1;obtain⟨J,hx,_⟩:=R.addr hl;cases b with
  | N=>cases y.nonE
  | T _=>cases y.blE
  | int _=>cases y.intE
  | str _=>cases y.strE
  | tp m =>
   obtain⟨p',ys,e,q2,Z⟩:=y.tupE;cases e;rw[<-hK]at q2;exact(aq9 I hx q2).elim
  | ref r' =>
   obtain⟨m,hm⟩:=F z;have e:C r=C r':=V.ref.inj y.refE;rw[R.inj r r' _ _ hl hm rfl rfl e];exact .inl rfl
  | fn _=>exact absurd rfl z
  | clo _ _=>exact absurd rfl z
 | fn _=>exact absurd rfl n1
 | clo _ _=>exact absurd rfl n1
def qH (h:nq s a b=some z):ow a b=some z\/(ow a b=none/\nT (nj s a) (nj s b)=false/\z=false):=by
 unfold nq at h;cases e:ow a b with
 | some w=>rw[e]at h;exact .inl h
 | none =>
  rw[e]at h;cases q:nT (nj s a) (nj s b)with
  | true=>rw[q]at h;cases h
  | false=>rw[q]at h;exact .inr ⟨rfl,rfl,(aB h).symm⟩
def bm5 (h:ow a b=some z):nj s a≠9/\nj s b≠9:=by
 cases a<;>cases b<;>first|(cases h;done)|(constructor<;>(intro z;cases z))
def ai7 (h:nq s a b=some z):nj s a≠9/\nj s b≠9:=by
 rcases qH h with h|⟨_,h,_⟩
 .exact bm5 h
 .unfold nT at h;simp only[fu,beq_eq_false_iff_ne]at h;exact⟨h.1.1,h.1.2⟩
def aI7 (h:nq s a a=some z):z=true:=by
 rcases qH h with h|⟨_,h,_⟩
 .cases a<;>cases h<;>first|rfl|exact beq_self_eq_true _
 .unfold nT at h;simp at h
def aO6 (I:Inv X pins W H sh)(hK:X.K=Γ.K)(R:Rp Γ C H s):∀ n a b x z ,mJ s n a b=some z->RV Γ C H a x->RV Γ C H b x->z=true:=by
 have J:∀ a b x z ,nq s a b=some z->RV Γ C H a x->RV Γ C H b x->z=true:=by
  intro a b x z h F y;rcases rv_two I hK R F y (ai7 h).1 (ai7 h).2 with e|⟨l,m,_,_,rfl,rfl,_⟩
  .subst e;exact aI7 h
  .rcases qH h with h|⟨_,h,_⟩
   .cases h
   .unfold nT at h;simp[nj]at h
 intro n
 induction n with
 | zero=>intro a b x z h;unfold mJ at h;exact J a b x z h
 | succ n ih =>
  have a0:∀ l m G z ,mY (mJ s n) l m=some z->RVL Γ C H l G->RVL Γ C H m G->z=true:=by
   intro l
   induction l with
   | nil =>
    intro m G z h F y;cases m with
    | nil=>unfold mY at h;exact(aB h).symm
    | cons b m=>obtain⟨x,r,e,_⟩:=y.uncons;rw[F.unnil]at e;cases e
   | cons a l ihl =>
    intro m G z h F y;cases m with
    | nil=>obtain⟨x,r,e,_⟩:=F.uncons;rw[y.unnil]at e;cases e
    | cons b m =>
     obtain⟨p,q,e1,e2,ez⟩:=am5 h;obtain⟨v,r,rfl,g1,g2⟩:=F.uncons;obtain⟨v',r',e,g3,g4⟩:=y.uncons;cases e;rw[ez,ih a b v p e1 g1 g3,ihl m r q e2 g2 g4];rfl
  intro a b x z h F y;unfold mJ at h;split at h
  .rename_i l m;obtain⟨a,G,rfl,q1,d1⟩:=F.tupE;obtain⟨b,ys,e,q2,Z⟩:=y.tupE;cases e;rw[<-hK]at q1 q2;rw[I.tuple_inj q2 q1]at Z;exact a0 l m G z h d1 Z
  .rename_i p q;split at h
   .rename_i l m hl hm;obtain⟨G,e1,d1⟩:=R.addr hl;obtain⟨ys,e2,Z⟩:=R.addr hm;have e:=F.refE.symm.trans y.refE;have e':=V.ref.inj e;rw[e',e2]at e1;have e3:=by injection (aB e1)
    subst e3;split at h
    .exact a0 l m ys z h d1 Z
    .rename_i Y;exact absurd (d1.length.symm.trans Z.length) Y
   .cases h
  .exact J a b x z h F y
end
variable {Γ:Gm}
inductive Vw (sh:af):Nat->Value->Prop where
 | N:Vw sh 0 .none
 | T (b:Bool):Vw sh 1 (.bool b)
 | int (i:Int) (t:Tok):Vw sh 1 (.int i t)
 | str (x:Str) (t:Tok):Vw sh 2 (.str x t)
 | tp {l:Addr} {items:yK} (h:sh.heap.IsTuple l items):Vw sh 3 (.ref l)
 | J {l:Addr} {items:yK} (h:sh.heap.IsList l items):Vw sh 4 (.ref l)
def Vw.eq (a:Vw sh k u)(b:Vw sh z v)(y:k≠z)(hu:A.units<cLine):gq A sh u v false:=by
 cases a with
 | N=>cases b with
  | N=>exact absurd rfl y
  | T b=>exact SeqAt.EqAt.none_bool b
  | int i t=>exact jd i t
  | str x t=>exact je x t
  | tp h=>exact SeqAt.EqAt.none_tuple h hu
  | J h=>exact SeqAt.EqAt.none_list h hu
 | T a=>cases b with
  | N=>exact SeqAt.EqAt.bool_none a
  | T b=>exact absurd rfl y
  | int i t=>exact absurd rfl y
  | str x t=>exact SeqAt.EqAt.bool_str a x t
  | tp h=>exact SeqAt.EqAt.bool_tuple a h hu
  | J h=>exact SeqAt.EqAt.bool_list a h hu
 | int a q=>cases b with
  | N=>exact jf a q
  | T b=>exact absurd rfl y
  | int i t=>exact absurd rfl y
  | str x t=>exact ju a q x t
  | tp h=>exact SeqAt.EqAt.int_tuple a q h hu
  | J h=>exact SeqAt.EqAt.int_list a q h hu
 | str a q=>cases b with
  | N=>exact jg a q
  | T b=>exact SeqAt.EqAt.str_bool a q b
  | int i t=>exact jv a q i t
  | str x t=>exact absurd rfl y
  | tp h=>exact SeqAt.EqAt.str_tuple a q h hu
  | J h=>exact SeqAt.EqAt.str_list a q h hu
 | tp g=>cases b with
  | N=>exact SeqAt.EqAt.tuple_none g hu
  | T b=>exact SeqAt.EqAt.tuple_bool b g hu
  | int i t=>exact SeqAt.EqAt.tuple_int i t g hu
  | str x t=>exact SeqAt.EqAt.tuple_str x t g hu
  | tp h=>exact absurd rfl y
  | J h=>exact SeqAt.EqAt.tuple_list g h hu
 | J g=>cases b with
  | N=>exact SeqAt.EqAt.list_none g hu
  | T b=>exact SeqAt.EqAt.list_bool b g hu
  | int i t=>exact SeqAt.EqAt.list_int i t g hu
  | str x t=>exact SeqAt.EqAt.list_str x t g hu
  | tp h=>exact SeqAt.EqAt.list_tuple g h hu
  | J h=>exact absurd rfl y
def Vw.rc (a:Vw sh k u)(b:Vw sh z v)(y:k≠z)(hu:A.units<cLine):l9 A sh u v false:=by
 cases a with
 | N=>cases b with
  | N=>exact absurd rfl y
  | T b=>exact SeqAt.RcAt.none_bool b
  | int i t=>exact SeqAt.RcAt.none_int i t
  | str x t=>exact SeqAt.RcAt.none_str x t
  | tp h=>exact SeqAt.RcAt.none_tuple h hu
  | J h=>exact SeqAt.RcAt.none_list h hu
 | T a=>cases b with
  | N=>exact SeqAt.RcAt.bool_none a
  | T b=>exact absurd rfl y
  | int i t=>exact absurd rfl y
  | str x t=>exact SeqAt.RcAt.bool_str a x t
  | tp h=>exact SeqAt.RcAt.bool_tuple a h hu
  | J h=>exact SeqAt.RcAt.bool_list a h hu
 | int a q=>cases b with
  | N=>exact SeqAt.RcAt.int_none a q
  | T b=>exact absurd rfl y
  | int i t=>exact absurd rfl y
  | str x t=>exact SeqAt.RcAt.int_str a q x t
  | tp h=>exact SeqAt.RcAt.int_tuple a q h hu
  | J h=>exact SeqAt.RcAt.int_list a q h hu
 | str a q=>cases b with
  | N=>exact SeqAt.RcAt.str_none a q
  | T b=>exact SeqAt.RcAt.str_bool a q b
  | int i t=>exact SeqAt.RcAt.str_int a q i t
  | str x t=>exact absurd rfl y
  | tp h=>exact SeqAt.RcAt.str_tuple a q h hu
  | J h=>exact SeqAt.RcAt.str_list a q h hu
 | tp g=>cases b with
  | N=>exact SeqAt.RcAt.tuple_none g hu
  | T b=>exact SeqAt.RcAt.tuple_bool b g hu
  | int i t=>exact SeqAt.RcAt.tuple_int i t g hu
  | str x t=>exact SeqAt.RcAt.tuple_str x t g hu
  | tp h=>exact absurd rfl y
  | J h=>exact SeqAt.RcAt.tuple_list g h hu
 | J g=>cases b with
  | N=>exact SeqAt.RcAt.list_none g hu
  | T b=>exact SeqAt.RcAt.list_bool b g hu
  | int i t=>exact SeqAt.RcAt.list_int i t g hu
  | str x t=>exact SeqAt.RcAt.list_str x t g hu
  | tp h=>exact SeqAt.RcAt.list_tuple g h hu
  | J h=>exact absurd rfl y
def Vw.ne (a:Vw sh k u)(b:Vw sh z v)(y:k≠z)(hu:A.units<cLine):lP A sh u v true:=by
 cases a with
 | N=>cases b with
  | N=>exact absurd rfl y
  | T b=>exact SeqAt.RcNeAt.none_bool b
  | int i t=>exact SeqAt.RcNeAt.none_int i t
  | str x t=>exact SeqAt.RcNeAt.none_str x t
  | tp h=>exact SeqAt.RcNeAt.none_tuple h hu
  | J h=>exact SeqAt.RcNeAt.none_list h hu
 | T a=>cases b with
  | N=>exact SeqAt.RcNeAt.bool_none a
  | T b=>exact absurd rfl y
  | int i t=>exact absurd rfl y
  | str x t=>exact SeqAt.RcNeAt.bool_str a x t
  | tp h=>exact SeqAt.RcNeAt.bool_tuple a h hu
  | J h=>exact SeqAt.RcNeAt.bool_list a h hu
 | int a q=>cases b with
  | N=>exact SeqAt.RcNeAt.int_none a q
  | T b=>exact absurd rfl y
  | int i t=>exact absurd rfl y
  | str x t=>exact SeqAt.RcNeAt.int_str a q x t
  | tp h=>exact SeqAt.RcNeAt.int_tuple a q h hu
  | J h=>exact SeqAt.RcNeAt.int_list a q h hu
 | str a q=>cases b with
  | N=>exact SeqAt.RcNeAt.str_none a q
  | T b=>exact SeqAt.RcNeAt.str_bool a q b
  | int i t=>exact SeqAt.RcNeAt.str_int a q i t
  | str x t=>exact absurd rfl y
  | tp h=>exact SeqAt.RcNeAt.str_tuple a q h hu
  | J h=>exact SeqAt.RcNeAt.str_list a q h hu
 | tp g=>cases b with
  | N=>exact SeqAt.RcNeAt.tuple_none g hu
  | T b=>exact SeqAt.RcNeAt.tuple_bool b g hu
  | int i t=>exact SeqAt.RcNeAt.tuple_int i t g hu
  | str x t=>exact SeqAt.RcNeAt.tuple_str x t g hu
  | tp h=>exact absurd rfl y
  | J h=>exact SeqAt.RcNeAt.tuple_list g h hu
 | J g=>cases b with
  | N=>exact SeqAt.RcNeAt.list_none g hu
  | T b=>exact SeqAt.RcNeAt.list_bool b g hu
  | int i t=>exact SeqAt.RcNeAt.list_int i t g hu
  | str x t=>exact SeqAt.RcNeAt.list_str x t g hu
  | tp h=>exact SeqAt.RcNeAt.list_tuple g h hu
  | J h=>exact absurd rfl y
def bJ4 (a b:List Nat):((⟨a.toArray⟩:Str)==⟨b.toArray⟩)=(a==b):=by
 by_cases e:a=b
 .subst e;simp
 .have:(⟨a.toArray⟩:Str)≠⟨b.toArray⟩:=λ q=>e (by simpa using congrArg (λ z=>z.cps.toList) q);rw[beq_eq_false_iff_ne.mpr this,beq_eq_false_iff_ne.mpr e]
structure Cmp (A:aS)(sh:af)(u v:Value)(z:Bool):Prop where
 rc:l9 A sh u v z
 ne:lP A sh u v (!z)
section
variable {X:Cx} {pins:yA} {W:St} {H:Hp} {sh:af} {C:Nat->Addr} {s:mn}
def bI2 (I:Inv X pins W H sh)(z:X.K=Γ.K)(R:Rp Γ C H s)(h:RV Γ C H d x)(r:RelV x u)(hk:nj s d≠9):Vw sh (nj s d) u:=by
 cases d with
 | N=>have e:=h.nonE;subst e;cases r;exact .N
 | T b=>have e:=h.blE;subst e;cases r;exact .T b
 | int i=>have e:=h.intE;subst e;obtain⟨t,rfl⟩:=r;exact .int i t
 | str y=>have e:=h.strE;subst e;obtain⟨t,rfl⟩:=r;exact .str _ t
 | tp l =>
  obtain⟨a,F,e,q,_⟩:=h.tupE;subst e;cases r;rw[<-z]at q;obtain⟨its,_,t,_⟩:=I.tuple q;exact .tp t
 | ref n =>
  have e:=h.refE;subst e;cases r;have hk:(match s[n]? with|some (DV.O.J l)=>4|_=>9:Nat)≠9:=hk;show Vw sh (match s[n]? with|some (DV.O.J l)=>4|_=>9:Nat) _;cases hs:s[n]? with
  | none=>rw[hs]at hk;exact absurd rfl hk
  | some o =>
   rw[hs]at hk;cases o with
   | J l =>
    obtain⟨F,e,_⟩:=R.addr hs;obtain⟨its,_,t,_⟩:=I.list (SqL.of e);exact .J t.isList
   | _=>exact absurd rfl hk
 | fn _=>exact absurd rfl hk
 | clo _ _=>exact absurd rfl hk
def aA9 (I:Inv X pins W H sh)(Y:X.K=Γ.K)(R:Rp Γ C H s)(h:nq s a b=some z)(G:RV Γ C H a x)(F:RV Γ C H b y)(r1:RelV x u)(r2:RelV y v)(hu:A.units<cLine) :
  gq A sh u v z/\Cmp A sh u v z:=by
 rcases qH h with h|⟨_,hn,hz⟩
 .cases a<;>cases b<;>try cases h
  .cases G.nonE;cases F.nonE;cases r1;cases r2;exact⟨fB _,SeqAt.RcAt.none_none,SeqAt.RcNeAt.none_none⟩
  .cases G.blE;cases F.blE;cases r1;cases r2;exact⟨iQ _ _,SeqAt.RcAt.bool_bool _ _,SeqAt.RcNeAt.bool_bool _ _⟩
  .cases G.blE;cases F.intE;cases r1;obtain⟨t',rfl⟩:=r2;exact⟨SeqAt.EqAt.bool_int _ _ _,SeqAt.RcAt.bool_int _ _ _,SeqAt.RcNeAt.bool_int _ _ _⟩
  .cases G.intE;cases F.blE;obtain⟨t,rfl⟩:=r1;cases r2;exact⟨SeqAt.EqAt.int_bool _ _ _,SeqAt.RcAt.int_bool _ _ _,SeqAt.RcNeAt.int_bool _ _ _⟩
  .cases G.intE;cases F.intE;obtain⟨t,rfl⟩:=r1;obtain⟨t',rfl⟩:=r2;exact⟨SeqAt.EqAt.int_int _ _ _ _,SeqAt.RcAt.int_int _ _ _ _,SeqAt.RcNeAt.int_int _ _ _ _⟩
  .cases G.strE;cases F.strE;obtain⟨t,rfl⟩:=r1;obtain⟨t',rfl⟩:=r2;rw[<-bJ4];exact⟨SeqAt.EqAt.str_str _ _ _ _,SeqAt.RcAt.str_str _ _ _ _,SeqAt.RcNeAt.str_str _ _ _ _⟩
 .subst hz;unfold nT at hn;simp only[fu,beq_eq_false_iff_ne]at hn;have w1:=bI2 I Y R G r1 hn.1.1;have J:=bI2 I Y R F r2 hn.1.2;exact⟨w1.eq J hn.2 hu,w1.rc J hn.2 hu,w1.ne J hn.2 hu⟩
def bg7 (I:Inv X pins W H sh)(hK:X.K=Γ.K)(R:Rp Γ C H s):∀ n a b x y u v A z ,mJ s n a b=some z->RV Γ C H a x->RV Γ C H b y->RelV x u->RelV y v->Room n A ->
  gq A sh u v z/\Cmp A sh u v z:=by
 intro n
 induction n with
 | zero=>intro a b x y u v A z h h1 Z r1 r2 hr;unfold mJ at h;exact aA9 I hK R h h1 Z r1 r2 hr.units0
 | succ n ih =>
  have F:∀ {l m:List mq} {xs ys:List V} {its its':yH} {A:aS} {e:Nat->Bool},RVL Γ C H l xs->RVL Γ C H m ys->Vals xs its->Vals ys its'->Room n A->(∀ j d d',l[j]?=some d->m[j]?=some d'->mJ s n d d'=some (e j)) ->
    ∀ j (h1:j<its.toArray.size) (Z:j<its'.toArray.size),gq A sh its.toArray[j] its'.toArray[j] (e j):=by
   intro l m xs ys its its' A e d1 Y v1 J hr he j h1 Z;have l1:=v1.length;have l2:=J.length;have e1:=d1.length;have e2:=Y.length;have h1':=by simpa using h1
   have a3:=by simpa using Z
   have hj:j<l.length:=by lia
   have a1:j<m.length:=by lia
   obtain⟨x,ex,dx⟩:=d1.get (aj hj);obtain⟨y,ey,dy⟩:=Y.get (aj a1);obtain⟨u,eu,ru⟩:=v1.get ex;obtain⟨w,ew,a2⟩:=J.get ey;have g1:its.toArray[j]=u:=by
    have:=aj h1';rw[eu]at this;simpa using(aB this).symm
   have g2:its'.toArray[j]=w:=by
    have:=aj a3;rw[ew]at this;simpa using(aB this).symm
   rw[g1,g2];exact(ih _ _ x y u w A (e j) (he j _ _ (aj hj) (aj a1)) dx dy ru a2 hr).1
  intro a b x y u v A z h h1 Z r1 r2 hr;have hz:=h;unfold mJ at h;split at h
  .rename_i l m;obtain⟨p,xs,ex,q1,d1⟩:=id h1.tupE;obtain⟨q,ys,ey,q2,Y⟩:=id Z.tupE;subst ex;subst ey;cases r1;cases r2;rw[<-hK]at q1 q2;obtain⟨its,v1,t1,_⟩:=I.tuple q1;obtain⟨its',J,t2,_⟩:=I.tuple q2;obtain⟨e,he,hall⟩:=bc0 h;have l1:=v1.length;have l2:=J.length;have e1:=d1.length;have e2:=Y.length;have sz:((bE (min its.toArray.size its'.toArray.size)).all e&&its.toArray.size==its'.toArray.size)=z:=by
    rw[<-hall,Bool.and_comm,show its.toArray.size=l.length by simp;lia,show its'.toArray.size=m.length by simp;lia]
   have key:=SeqAt.RcAt.tuples t1 t2 hr.units0 (F d1 Y v1 J hr.in1 he);have G:=SeqAt.RcNeAt.tuples t1 t2 hr.units0 (F d1 Y v1 J hr.in1 he);rw[sz]at key G;refine⟨?_,key,G⟩;by_cases hab:p=q
   .subst hab;rw[aO6 I hK R _ _ _ _ _ hz h1 Z];exact fB _
   .exact jK hab key
  .rename_i p q;split at h
   .rename_i l m hl hm;obtain⟨xs,e1,d1⟩:=R.addr hl;obtain⟨ys,e2,Y⟩:=R.addr hm;have ex:=h1.refE;have ey:=Z.refE;subst ex;subst ey;cases r1;cases r2;obtain⟨its,v1,t1,_⟩:=I.list (SqL.of e1);obtain⟨its',J,t2,_⟩:=I.list (SqL.of e2);have l1:=v1.length;have l2:=J.length;have c1:=d1.length;have c2:=Y.length;have fin:Cmp A sh (.ref (C p)) (.ref (C q)) z:=by
     split at h
     .rename_i a0;obtain⟨e,he,hall⟩:=bc0 h;have sz:(bE its.toArray.size).all e=z:=by
       rw[<-hall,show its.toArray.size=l.length by simp;omega,a0];simp
      have key:=SeqAt.RcAt.lists t1.isList t2.isList (by simp;lia) hr.units0 (F d1 Y v1 J hr.in1 he);have G:=SeqAt.RcNeAt.lists (e:=e) t1.isList t2.isList (by simp;omega) hr.units0 (F d1 Y v1 J hr.in1 he);rw[sz]at key G;exact⟨key,G⟩
     .rename_i a0;cases h;have hs:(its.toArray.size != its'.toArray.size)=true:=by simp;lia
      exact⟨SeqAt.RcAt.lists_lengths t1.isList t2.isList hs hr.units0,SeqAt.RcNeAt.lists_lengths t1.isList t2.isList hs hr.units0⟩
    refine⟨?_,fin⟩;by_cases hab:C p=C q
    .rw[aO6 I hK R _ _ _ _ _ hz RV.refI (by rw[hab];exact RV.refI),hab];exact fB _
    .exact jK hab fin.rc
   .cases h
  .exact aA9 I hK R h h1 Z r1 r2 hr.units0
end
variable {Γ:Gm} {X:Cx}
noncomputable def cc3:oH->Operator
 | .add=>.Add|.sub=>.Sub|.mul=>.Mult|.fdiv=>.FloorDiv|.mod=>.Mod|.pow=>.Pow|.shl=>.LShift|.shr=>.RShift|.band=>.BitAnd|.bor=>.BitOr
noncomputable def at1:oa->CmpOp
 | .eq=>.Eq|.ne=>.NotEq|.lt=>.Lt|.le=>.LtE|.gt=>.Gt|.ge=>.GtE|.isin=>.In|.notin=>.NotIn
def rOp (Γ:Gm)(f:mq->mq->mn->my mq):R2:=λ x y H Q=>∃ C s a b d s',Rp Γ C H s/\RV Γ C H a x/\RV Γ C H b y/\a.bnd s.length=true/\b.bnd s.length=true/\f a b s=.ok d s'/\ah1 Γ C s H d s' Q
def zX (h:oy d s=.ok e t):d=e/\s=t:=by
 unfold oy at h;cases h;exact⟨rfl,rfl⟩
def zY (h:nN o s=.ok e t):e=.ref s.length/\t=s++[o]:=by
 unfold nN at h;cases h;exact⟨rfl,rfl⟩
def az7 (a b:List Nat):(⟨a.toArray⟩:Str)++⟨b.toArray⟩=⟨(a++b).toArray⟩:=by
 show Str.append _ _=_;unfold Str.append;simp
def zM:mG<=aP:=by rw[gy];decide
def bu9:OpR X (cx .Mult) (rI (λ i j=>DV.mulOk i j=true) λ i j=>.int (i*j)):=opI λ i j _ _ _ _ _ hc q=>mul_int q (by
 unfold DV.mulOk at hc;simp only[bT,am,decide_eq_true_eq]at hc;rcases hc with(h|h)|⟨z,y⟩
 .exact bW0.ok (.inl (by omega))
 .exact bW0.ok (.inr (by omega))
 .unfold DV.BIG at z y;exact IntMulOk.of_le (intBits_le_iff.mpr z) (intBits_le_iff.mpr y) (by decide))
theorem aP8 l :∀ n y ,(ax n l.toArray).foldl (·++·) y=y++(mZ n l).toArray
 | 0,y=>by simp[mZ]
 | n+1,y=>by
  rw[bM,d8,aP8 l n];simp[mZ]
def bw3 l :mZ 1 l=l:=by simp[mZ]
theorem aX3:∀ n,mZ n []=[]
 | 0=>rfl
 | n+1=>by simp[mZ,aX3 n]
theorem rep_len l :∀ n,(mZ n l).length=l.length*n
 | 0=>by simp[mZ]
 | n+1=>by simp[mZ,rep_len l n,kN];lia
def by0:OpR X (cx .Mult) (λ x y H Q=>∃ l n ,x=.str ⟨l.toArray⟩/\y=.int n/\(0<=n/\n<=1000000/\l.length*n.toNat<=mG)/\Q (.str ⟨(mZ n.toNat l).toArray⟩) H):=by
 intro G s W H x y v u Q I Z ry h;obtain⟨l,n,rfl,rfl,⟨h0,h1,J⟩,q⟩:=h;obtain⟨t,rfl⟩:=Z;obtain⟨t',rfl⟩:=ry;have z:(⟨l.toArray⟩:Str).length=l.length:=by show l.toArray.size=_;simp
 have hL:=zM;have a0:=ap1;refine SB.mul ⟨?_,λ hn _=>?_,λ hn _=>?_⟩ λ t2 k=>?_
 .rw[decide_eq_false (by lia),decide_eq_false (by lia)];rfl
 .rw[z];have F:1<=n:=by omega
  intro Y;have h3:(l.length:Int)*n<=1000000:=by
   have:=Int.ofNat_le.mpr J;rw[kR,fT h0]at this;have e:((mG:Nat):Int)=1000000:=by unfold mG;rfl
   lia
  have h4:=by
   have:(l.length:Int)*1<=(l.length:Int)*n:=fx F (by lia);omega
  have h5:(1000000:Int)<=(2^63 - 1) / n:=by
   rw[Int.le_ediv_iff_mul_le (by omega)];have:=fx h1 (by omega);lia
  omega
 .rw[z];unfold eV;exact decide_eq_false (by lia)
 .have e:Txt.mul ⟨l.toArray⟩ n=⟨(mZ n.toNat l).toArray⟩:=by
   unfold Txt.mul;split
   .have:n.toNat=0:=by lia
    rw[this];rfl
   .split
    .rename_i hc;rw[bT]at hc;rcases hc with hc|hc
     .have:=by simpa using hc
      subst this;show(⟨l.toArray⟩:Str)=⟨(mZ 1 l).toArray⟩;rw[bw3]
     .have:=by
       have:=eq_of_beq hc;rw[z]at this;exact de.mp this
      subst this;rw[aX3]
    .skip
     rw[aP8];simp
  rw[e];exact⟨.str _,H,I.tok _,⟨_,rfl⟩,q⟩
theorem ar0 (h:mr n l=true):∀ k,mr n (nE k l)=true
 | 0=>rfl
 | k+1=>qb h (ar0 h k)
theorem RVL.repD (h:RVL Γ C H l y):∀ k,RVL Γ C H (nE k l) (ar7 k y)
 | 0=>RVL.nil
 | k+1=>h.append (RVL.repD h k)
theorem aB3 (y:List α):∀ k,ar7 k y=(ax k y).flatten
 | 0=>rfl
 | k+1=>by rw[bM,cE,<-aB3 y k];rfl
def bV7 (hK:X.K=Γ.K) op :OpR X (cx (cc3 op)) (rOp Γ (DV.qK op)):=by
 intro F s W H x y v u Q I J Y h;obtain⟨C,st,a,b,d,a0,R,ha,hb,na,nb,hf,q⟩:=h;cases op with
 | add =>
  cases a with
  | int a =>
   cases b with
   | int b =>
    obtain⟨rfl,rfl⟩:=zX hf;have ex:=ha.intE;have G:=hb.intE;subst ex;subst G;exact bL8 F s W H _ _ v u Q I J Y ⟨_,_,rfl,rfl,q.here R rfl RV.intI⟩
   | _=>exact fb hf
  | str a =>
   cases b with
   | str b =>
    change(if _ then _ else _:og mq) st=_ at hf;split at hf
    .rename_i hl;obtain⟨rfl,rfl⟩:=zX hf;have ex:=ha.strE;have G:=hb.strE;subst ex;subst G;refine aT0 F s W H _ _ v u Q I J Y ⟨_,_,rfl,rfl,?_,?_⟩
     .show a.toArray.size+b.toArray.size<=_;simp only[ay];exact aq hl zM
     .rw[az7];exact q.here R rfl (RV.strI (by rw[ar];exact hl))
    .exact fb hf
   | _=>exact fb hf
  | tp a =>
   cases b with
   | tp b =>
    change(if _ then _ else _:og mq) st=_ at hf;split at hf
    .rename_i hl;obtain⟨rfl,rfl⟩:=zX hf;obtain⟨p,xs,⟨rfl,z1⟩,Z,d1⟩:=ha.tupZ;obtain⟨p',ys,⟨rfl,z2⟩,h2,d2⟩:=hb.tupZ;refine bt6 hK F s W H _ _ v u Q I J Y ⟨p,p',xs,ys,rfl,rfl,Z,h2,?_,λ t H' e ht hn=>?_⟩
     .rw[d1.length,d2.length];exact aq hl zM
     .obtain⟨g,r'⟩:=R.same e;unfold mD at na nb;refine q _ _ _ g (av _) (by unfold mD;exact qb na nb) (RV.tupC ht (λ z=>?_) ((RVL.mono g _ _ na d1).append (RVL.mono g _ _ nb d2))) r';rcases hn with hn|⟨rfl,rfl⟩|⟨rfl,rfl⟩
      .exact hn
      .rw[d2.tonil,az]at z;rw[az];exact e _ _ (z1 z)
      .rw[d1.tonil]at z;exact e _ _ (z2 z)
    .exact fb hf
   | _=>exact fb hf
  | ref a =>
   cases b with
   | ref b =>
    change(match st[a]?,st[b]? with|some (DV.O.J l),some (DV.O.J m)=>if l.length+m.length<=mG then nN (.J (l++m)) st else .B|_,_=>.B:my mq)=_ at hf;split at hf
    .rename_i l m Z h2;split at hf
     .rename_i hl;obtain⟨rfl,rfl⟩:=zY hf;obtain⟨xs,e1,d1⟩:=R.addr Z;obtain⟨ys,e2,d2⟩:=R.addr h2;have ex:=ha.refE;have G:=hb.refE;subst ex;subst G;have b1:=R.wf _ _ Z;have b2:=R.wf _ _ h2;unfold mH at b1 b2;refine bq1 F s W H _ _ v u Q I J Y ⟨C a,C b,xs,ys,rfl,rfl,e1,e2,?_,λ p hp=>?_⟩
      .rw[d1.length,d2.length];exact aq hl zM
      .exact q.alloc R (d1.append d2) (qb b1 b2) hp
     .exact fb hf
    .exact fb hf
   | _=>exact fb hf
  | _=>exact fb hf
 | sub =>
  cases a with
  | int a =>
   cases b with
   | int b =>
    obtain⟨rfl,rfl⟩:=zX hf;have ex:=ha.intE;have G:=hb.intE;subst ex;subst G;exact bS3 F s W H _ _ v u Q I J Y ⟨_,_,rfl,rfl,q.here R rfl RV.intI⟩
   | _=>exact fb hf
  | _=>exact fb hf
 | mul =>
  cases a with
  | int a =>
   cases b with
   | int b =>
    change(if _ then _ else _:og mq) st=_ at hf;split at hf
    .rename_i hc;obtain⟨rfl,rfl⟩:=zX hf;have ex:=ha.intE;have G:=hb.intE;subst ex;subst G;exact bu9 F s W H _ _ v u Q I J Y ⟨_,_,rfl,rfl,hc,q.here R rfl RV.intI⟩
    .exact fb hf
   | _=>exact fb hf
  | str a =>
   cases b with
   | int b =>
    change(if _ then _ else _:og mq) st=_ at hf;split at hf
    .rename_i hc;obtain⟨rfl,rfl⟩:=zX hf;have ex:=ha.strE;have G:=hb.intE;subst ex;subst G;exact by0 F s W H _ _ v u Q I J Y ⟨_,_,rfl,rfl,hc,q.here R rfl (RV.strI (by rw[rep_len];exact hc.2.2))⟩
    .exact fb hf
   | _=>exact fb hf
  | tp a =>
   cases b with
   | int b =>
    change(if _ then _ else _:og mq) st=_ at hf;split at hf
    .rename_i hc;obtain⟨rfl,rfl⟩:=zX hf;obtain⟨p,xs,⟨rfl,z1⟩,Z,d1⟩:=ha.tupZ;have G:=hb.intE;subst G;refine bC8 hK F s W H _ _ v u Q I J Y ⟨p,xs,_,rfl,rfl,Z,⟨hc.1,hc.2.1,by rw[d1.length];exact hc.2.2⟩,λ t H' e ht hn=>?_⟩;obtain⟨g,r'⟩:=R.same e;unfold mD at na;refine q _ _ _ g (av _) (by unfold mD;exact ar0 na _) (RV.tupC ht (λ z=>?_) (RVL.repD (RVL.mono g _ _ na d1) _)) r';rcases hn with hn|⟨rfl,ex⟩
     .exact hn
     .rw[ex];exact e _ _ (z1 (bz8 z))
    .exact fb hf
   | _=>exact fb hf
  | ref a =>
   cases b with
   | int b =>
    change(match st[a]? with|some (DV.O.J l)=>if 0<=b/\b<=1000000/\l.length*b.toNat<=mG then nN (.J (nE b.toNat l)) st else .B|_=>.B:my mq)=_ at hf;split at hf
    .rename_i l Z;split at hf
     .rename_i hc;obtain⟨rfl,rfl⟩:=zY hf;obtain⟨xs,e1,d1⟩:=R.addr Z;have ex:=ha.refE;have G:=hb.intE;subst ex;subst G;have b1:=R.wf _ _ Z;unfold mH at b1;refine bT6 F s W H _ _ v u Q I J Y ⟨C a,b,xs,rfl,rfl,e1,by lia,by omega,?_,λ p hp=>?_⟩
      .rw[d1.length];exact aq hc.2.2 zM
      .rw[<-aB3];exact q.alloc R (RVL.repD d1 _) (ar0 b1 _) hp
     .exact fb hf
    .exact fb hf
   | _=>exact fb hf
  | _=>exact fb hf
 | fdiv =>
  cases a with
  | int a =>
   cases b with
   | int b =>
    change(if _ then _ else _:og mq) st=_ at hf;split at hf
    .rename_i hc;obtain⟨rfl,rfl⟩:=zX hf;have ex:=ha.intE;have G:=hb.intE;subst ex;subst G;refine bl4 F s W H _ _ v u Q I J Y ⟨_,_,rfl,rfl,⟨hc.1,?_⟩,q.here R rfl RV.intI⟩;have:=hc.2;unfold DV.DIVL at this;simpa using this
    .exact fb hf
   | _=>exact fb hf
  | _=>exact fb hf
 | mod =>
  cases a with
  | int a =>
   cases b with
   | int b =>
    change(if _ then _ else _:og mq) st=_ at hf;split at hf
    .rename_i hc;obtain⟨rfl,rfl⟩:=zX hf;have ex:=ha.intE;have G:=hb.intE;subst ex;subst G;exact bT4 F s W H _ _ v u Q I J Y ⟨_,_,rfl,rfl,hc,q.here R rfl RV.intI⟩
    .exact fb hf
   | _=>exact fb hf
  | _=>exact fb hf
 | pow =>
  cases a with
  | int a =>
   cases b with
   | int b =>
    change(if _ then _ else _:og mq) st=_ at hf;split at hf
    .rename_i hc;obtain⟨rfl,rfl⟩:=zX hf;have ex:=ha.intE;have G:=hb.intE;subst ex;subst G;exact bL2 F s W H _ _ v u Q I J Y ⟨_,_,rfl,rfl,hc,q.here R rfl RV.intI⟩
    .exact fb hf
   | _=>exact fb hf
  | _=>exact fb hf
 | shl =>
  cases a with
  | int a =>
   cases b with
   | int b =>
    change(if _ then _ else _:og mq) st=_ at hf;split at hf
    .rename_i hc;obtain⟨rfl,rfl⟩:=zX hf;have ex:=ha.intE;have G:=hb.intE;subst ex;subst G;exact bJ5 F s W H _ _ v u Q I J Y ⟨_,_,rfl,rfl,hc,q.here R rfl RV.intI⟩
    .exact fb hf
   | _=>exact fb hf
  | _=>exact fb hf
 | shr=>exact fb hf
 | band=>exact fb hf
 | bor=>exact fb hf
variable {Γ:Gm} {X:Cx} {pins:yA} {W:St} {H:Hp} {sh:af} {C:Nat->Addr} {s:mn}
def aN3 (h:mJ s n a b=some z):nj s a≠9:=by
 cases n with
 | zero=>unfold mJ at h;exact(ai7 h).1
 | succ n =>
  unfold mJ at h;split at h
  .simp[nj]
  .split at h
   .rename_i y _;simp[nj,y]
   .cases h
  .exact(ai7 h).1
def aZ1 (I:Inv X pins W H sh)(J:X.K=Γ.K)(R:Rp Γ C H s):∀ n a b c x p q ,RV Γ C H a x->RV Γ C H b x->mJ s n a c=some p->mJ s n b c=some q->p=q:=by
 intro n
 induction n with
 | zero =>
  intro a b c x p q z y e1 e2;rcases rv_two I J R z y (aN3 e1) (aN3 e2)with e|⟨l,m,_,_,rfl,rfl,_⟩
  .subst e;rw[e1]at e2;exact aB e2
  .unfold mJ at e1 e2;have:nq s (.tp l) c=nq s (.tp m) c:=by unfold nq;cases c<;>rfl
   rw[this,e2]at e1;exact(aB e1).symm
 | succ n ih =>
  have G:∀ l m k F p q ,RVL Γ C H l F->RVL Γ C H m F->mY (mJ s n) l k=some p->mY (mJ s n) m k=some q->p=q:=by
   intro l
   induction l with
   | nil =>
    intro m k F p q z y e1 e2;have:=z.unnil;subst this;have hm:=by have:=y.length;exact de.mp this.symm
    subst hm;rw[e1]at e2;exact aB e2
   | cons a l ihl =>
    intro m k F p q z y e1 e2;obtain⟨x,r,rfl,g1,g2⟩:=z.uncons;cases m with
    | nil=>have:=y.unnil;cases this
    | cons b m =>
     obtain⟨x',r',e,g3,g4⟩:=y.uncons;cases e;cases k with
     | nil=>unfold mY at e1 e2;rw[<-aB e1,<-aB e2]
     | cons c k =>
      obtain⟨p1,p2,a1,a2,a3⟩:=am5 e1;obtain⟨q1,q2,b1,b2,Y⟩:=am5 e2;rw[a3,Y,ih a b c x p1 q1 g1 g3 a1 b1,ihl m k r p2 q2 g2 g4 a2 b2]
  intro a b c x p q z y e1 e2;rcases rv_two I J R z y (aN3 e1) (aN3 e2)with e|⟨l,m,_,F,rfl,rfl,_,d1,Z⟩
  .subst e;rw[e1]at e2;exact aB e2
  .cases c with
   | tp k=>unfold mJ at e1 e2;exact G l m k F p q d1 Z e1 e2
   | _ =>
    unfold mJ at e1 e2;simp only at e1 e2;have e3:nq s (.tp l)=nq s (.tp m):=by funext c;unfold nq;cases c<;>rfl
    rw[e3]at e1;exact aB (e1.symm.trans e2)
theorem bp0 :∀ {l} {z},nO s x l=some z->∃ e:Nat->Bool,(∀ j d,l[j]?=some d->mJ s mU d x=some (e j))/\(z=true↔∃ j,j<l.length/\e j=true)
 | [],z,h=>by
  unfold nO at h;cases h;exact⟨λ _=>true,λ j d h=>by simp at h,by simp⟩
 | y::l,z,h=>by
  unfold nO at h;cases e1:mJ s mU y x with
  | none=>rw[e1]at h;cases h
  | some a =>
   cases e2:nO s x l with
   | none=>rw[e1,e2]at h;cases h
   | some b =>
    rw[e1,e2]at h;obtain⟨e,G,F⟩:=bp0 e2;refine⟨λ j=>match j with|0=>a|j+1=>e j,λ j d g=>?_,?_⟩
    .cases j with
     | zero=>simp at g;subst g;exact e1
     | succ j=>exact G j d (by simpa using g)
    .have hz:=aB h;rw[<-hz,bT,F];constructor
     .rintro(q|⟨j,hj,q⟩)
      .exact⟨0,by simp,q⟩
      .exact⟨j+1,by simpa using hj,q⟩
     .rintro⟨j,hj,q⟩
      cases j with
      | zero=>exact .inl q
      | succ j=>exact .inr ⟨j,by simpa using hj,q⟩
def bp5 (I:Inv X pins W H sh)(hK:X.K=Γ.K)(R:Rp Γ C H s)(hx:RV Γ C H x xv)(rx:RelV xv Z){its:yH}(hl:RVL Γ C H l ys)(hv:Vals ys its)(h:nO s x l=some z)(hr:Room mU A) :
  ∃ e:Value->Bool,(∀ y,y∈its.toArray->gq A sh y Z (e y))/\its.toArray.any e=z:=by
 obtain⟨e,h1,h2⟩:=bp0 h;have len:its.length=l.length:=by rw[<-hv.length];exact hl.length
 have F:∀ j u,its[j]?=some u->∃ d y,l[j]?=some d/\ys[j]?=some y/\RV Γ C H d y/\RelV y u:=λ j u g=>by
  have hj:j<l.length:=by rw[<-len];exact(ah.mp g).1
  obtain⟨y,g1,g2⟩:=hl.get (aj hj);obtain⟨u',G,Y⟩:=hv.get g1;rw[g]at G;cases G;exact⟨_,y,aj hj,g1,g2,Y⟩
 classical
 let f:Value->Bool:=λ u=>decide (∃ j,its[j]?=some u/\e j=true)
 have hf:∀ j u,its[j]?=some u->f u=e j:=λ j u g=>by
  obtain⟨d,y,g1,g2,G,Y⟩:=F j u g;cases q:e j with
  | true=>exact decide_eq_true ⟨j,g,q⟩
  | false =>
   refine decide_eq_false λ⟨k,g',q'⟩=>?_;obtain⟨d',y',k1,k2,k3,k4⟩:=F k u g';have ey:y'=y:=k4.inj Y;subst ey;have:=aZ1 I hK R _ d d' x _ _ _ G k3 (h1 j d g1) (h1 k d' k1);rw[q,q']at this;cases this
 refine⟨f,λ u hu=>?_,?_⟩
 .obtain⟨j,hj,g⟩:=dJ.mp (by simpa using hu:u∈its);have g':its[j]?=some u:=by rw[aj hj,g]
  obtain⟨d,y,g1,g2,G,Y⟩:=F j u g';rw[hf j u g'];exact(bg7 I hK R _ d x y xv u Z A _ (h1 j d g1) G hx Y rx hr).1
 .have e1:its.toArray.any f=true↔z=true:=by
   rw[h2,List.any_toArray,ky];constructor
   .rintro⟨u,hu,q⟩
    obtain⟨j,hj,g⟩:=dJ.mp hu;have g':its[j]?=some u:=by rw[aj hj,g]
    exact⟨j,by lia,by rw[<-hf j u g'];exact q⟩
   .rintro⟨j,hj,q⟩
    have J:j<its.length:=by lia
    exact⟨its[j],bK J,by rw[hf j _ (aj J)];exact q⟩
  cases z<;>cases q:its.toArray.any f
  .rfl
  .have:=e1.mp q;cases this
  .rw[q]at e1;have:=e1.mpr rfl;cases this
  .rfl
variable {Γ:Gm} {X:Cx}
def aa1 {r:my α}{b:β}(h:r.bind f=.ok b t):∃ a s,r=.ok a s/\f a s=.ok b t:=DV.R.bind_inv h
def bp2 (hK:X.K=Γ.K)(hr:Room (mU+1) X.A)(neg:Bool){st }
  (I:Inv X F W H sh) (rx:RelV x v) (ry:RelV y u) (R:Rp Γ C H st) (ha:RV Γ C H a x) (hb:RV Γ C H b y) (hf:oz a b st=.ok z J) :
  J=st/\∀ Q:Value->af->Prop,(∀ Z,Inv X F W H Z->Q (.bool (if neg then !z else z)) Z)->wpAny (model X.prog X.w) X.A (cW (if neg then .NotIn else .In) v u) Q X.xe sh:=by
 unfold oz at hf;cases b with
 | tp l =>
  simp only at hf;cases e:nO st a l with
  | none=>rw[e]at hf;cases hf
  | some w =>
   rw[e]at hf;cases hf;obtain⟨p,ys,rfl,q,d⟩:=hb.tupE;cases ry;rw[<-hK]at q;obtain⟨its,rv,t,_⟩:=I.tuple q;obtain⟨f,h1,G⟩:=bp5 I hK R ha rx d rv e (A:=X.A.in1) hr.in1;refine⟨rfl,λ Q hq=>?_⟩;cases neg with
   | false=>exact SeqAt.in_tupleAt f t h1 (by rw[G];exact hq _ I)
   | true=>exact SeqAt.notIn_tupleAt f t h1 (by rw[G];exact hq _ I)
 | str y0 =>
  simp only at hf;split at hf
  case h_2=>exact fb hf
  rename_i c;cases hf;refine⟨rfl,λ Q hq=>?_⟩;have e1:=ha.strE;have e2:=hb.strE;subst e1 e2;obtain⟨t1,rfl⟩:=rx;obtain⟨t2,rfl⟩:=ry;have Y:=lL (⟨y0.toArray⟩:Str) c;cases neg with
  | false=>exact in_str (by rw[show(⟨[c].toArray⟩:Str)=⟨#[c]⟩from rfl,Y];simpa using hq _ I)
  | true=>exact notIn_str (by rw[show(⟨[c].toArray⟩:Str)=⟨#[c]⟩from rfl,Y];simpa using hq _ I)
 | ref r =>
  simp only at hf;cases hs:st[r]? with
  | none=>rw[hs]at hf;cases hf
  | some o =>
   rw[hs]at hf;cases o with
   | J l =>
    simp only at hf;cases e:nO st a l with
    | none=>rw[e]at hf;cases hf
    | some w =>
     rw[e]at hf;cases hf;obtain⟨ys,e1,d⟩:=R.addr hs;have ey:=hb.refE;subst ey;cases ry;obtain⟨its,rv,t,_⟩:=I.list (SqL.of e1);obtain⟨f,h1,G⟩:=bp5 I hK R ha rx d rv e (A:=X.A.in1) hr.in1;refine⟨rfl,λ Q hq=>?_⟩;cases neg with
     | false=>exact SeqAt.in_listAt f t.isList h1 (by rw[G];exact hq _ I)
     | true=>exact SeqAt.notIn_listAt f t.isList h1 (by rw[G];exact hq _ I)
   | ro l=>exact fb hf
   | ins c l=>exact fb hf
 | _=>exact fb hf
def bH6 {st }(h:DV.zQ .le a b st=.ok d y):∃ i j,a=.int i/\b=.int j:=by
 cases a with
 | int i =>
  (cases b with
  | int j=>exact⟨i,j,rfl,rfl⟩
  | _=>exact fb h)
 | _=>exact fb h
def aE1 (h:DV.bl7 a=some (i,x)):a=.tp [.int i,.str x]:=by
 unfold DV.bl7 at h;split at h
 .cases h;rfl
 .cases h
def bk7 {st }(h:DV.cg3 f a b st=.ok d z):∃ i x j y,a=.tp [.int i,.str x]/\b=.tp [.int j,.str y]:=by
 unfold DV.cg3 at h;split at h
 .rename_i i x j y e1 e2;exact⟨i,x,j,y,aE1 e1,aE1 e2⟩
 .exact fb h
def ord_inv {st }(ho:op=.lt\/op=.gt\/op=.ge)(h:DV.zQ op a b st=.ok d z):(∃ i j,a=.int i/\b=.int j)\/∃ i x j y,a=.tp [.int i,.str x]/\b=.tp [.int j,.str y]:=by
 rcases ho with rfl|rfl|rfl <;>
 (cases a with
 | int i =>
  (cases b with
  | int j=>exact .inl ⟨i,j,rfl,rfl⟩
  | _=>exact fb h)
 | tp l =>
  (cases b with
  | tp m=>first|exact .inr (bk7 h)|exact fb h
  | _=>exact fb h)
 | _=>exact fb h)
section
variable {pins:yA} {sh:af} {W:St} {H:Hp} {C:Nat->Addr} {st:mn}
end
def aW8 (hK:X.K=Γ.K)(hr:Room (mU+1) X.A) op :OpR X (cW (at1 op)) (rOp Γ (DV.zQ op)):=by
 intro F s W H x y v u Q I J Y h;obtain⟨C,st,a,b,d,G,R,ha,hb,na,nb,hf,q⟩:=h;cases op with
 | eq =>
  have hf:DV.eqM a b st=.ok d G:=hf;unfold DV.eqM at hf;cases e:mJ st mU a b with
  | none=>rw[e]at hf;cases hf
  | some z =>
   rw[e]at hf;cases hf;exact(bg7 I hK R _ a b x y v u X.A z e ha hb J Y (hr.mono (by lia))).2.rc X.prog X.w X.xe _ ⟨.T z,H,I,rfl,q.here R rfl RV.blI⟩
 | ne =>
  have hf:(match mJ st mU a b with|some r=>.ok (.T (!r)) st|none=>.B:my mq)=.ok d G:=hf;cases e:mJ st mU a b with
  | none=>rw[e]at hf;cases hf
  | some z =>
   rw[e]at hf;cases hf;exact(bg7 I hK R _ a b x y v u X.A z e ha hb J Y (hr.mono (by omega))).2.ne X.prog X.w X.xe _ ⟨.T (!z),H,I,rfl,q.here R rfl RV.blI⟩
 | lt =>
  rcases ord_inv (.inl rfl) hf with⟨i,j,rfl,rfl⟩|⟨i,x0,j,y0,rfl,rfl⟩
  .cases hf;have ex:=ha.intE;have Z:=hb.intE;subst ex;subst Z;exact bZ0 F s W H _ _ v u Q I J Y ⟨_,_,rfl,rfl,q.here R rfl RV.blI⟩
  .exact fb hf
 | le =>
  obtain⟨i,j,rfl,rfl⟩:=bH6 hf;cases hf;have ex:=ha.intE;have Z:=hb.intE;subst ex;subst Z;exact cd4 F s W H _ _ v u Q I J Y ⟨_,_,rfl,rfl,q.here R rfl RV.blI⟩
 | gt =>
  rcases ord_inv (.inr (.inl rfl)) hf with⟨i,j,rfl,rfl⟩|⟨i,x0,j,y0,rfl,rfl⟩
  .cases hf;have ex:=ha.intE;have Z:=hb.intE;subst ex;subst Z;exact ca7 F s W H _ _ v u Q I J Y ⟨_,_,rfl,rfl,q.here R rfl RV.blI⟩
  .exact fb hf
 | ge=>exact fb hf
 | isin =>
  have hf:=hf;obtain⟨z,s1,e1,e2⟩:=aa1 hf;obtain⟨rfl,w⟩:=bp2 hK hr false I J Y R ha hb e1;cases e2;exact w _ λ s' I'=>⟨.T z,H,I',rfl,q.here R rfl RV.blI⟩
 | notin =>
  have hf:=hf;obtain⟨z,s1,e1,e2⟩:=aa1 hf;obtain⟨rfl,w⟩:=bp2 hK hr true I J Y R ha hb e1;cases e2;exact w _ λ s' I'=>⟨.T (!z),H,I',rfl,q.here R rfl RV.blI⟩
def bc3 (h:RVL Γ C H l y)(e:((nP l.length i).bind λ j=>l[j]?)=some d):∃ v,atI y i=some v/\RV Γ C H d v:=by
 cases hj:nP l.length i with
 | none=>rw[hj]at e;cases e
 | some j =>
  rw[hj]at e;obtain⟨v,e1,e2⟩:=h.get (e);refine⟨v,?_,e2⟩;unfold atI;have:ixN y.length i=some j:=by rw[h.length];exact hj
  rw[this];exact e1
def aK5 {l:List mq}(e:((nP l.length i).bind λ j=>l[j]?)=some d):d∈l:=by
 cases hj:nP l.length i with
 | none=>rw[hj]at e;cases e
 | some j=>rw[hj]at e;exact aG (e)
def cf6 (hK:X.K=Γ.K)(hu:X.A.units+2<cLine):IxR X (rOp Γ DV.ixM):=by
 intro F z G s W H x y v u Q I Z ry h hs;obtain⟨C,st,a,b,d,a0,R,ha,hb,na,nb,hf,q⟩:=h;unfold DV.ixM at hf;cases a with
 | tp l =>
  cases b with
  | int i =>
   simp only at hf;split at hf
   .rename_i d' e;cases hf;obtain⟨p,Y,rfl,h1,d1⟩:=ha.tupE;have J:=hb.intE;subst J;obtain⟨w,e1,e2⟩:=bc3 d1 e;unfold mD at na;exact bB8 hK F z G s W H _ _ v u Q I Z ry ⟨p,Y,i,w,rfl,rfl,h1,e1,q.here R (ab6.mp na _ (aK5 e)) e2⟩ hs
   .exact fb hf
  | _=>exact fb hf
 | str l =>
  cases b with
  | int i =>
   simp only at hf;split at hf
   .rename_i c e;cases hf;have hl:=ha.strL;have ex:=ha.strE;have J:=hb.intE;subst ex;subst J;exact ix_str F z G s W H _ _ v u Q I Z ry ⟨⟨l.toArray⟩,i,c,rfl,rfl,by show l.toArray.size<=_;rw[ay];exact aq hl zM,e,q.here R rfl (RV.strI (by simp;decide))⟩ hs
   .exact fb hf
  | _=>exact fb hf
 | ref r =>
  have ex:=ha.refE;subst ex;simp only at hf;cases hsr:st[r]? with
  | none=>rw[hsr]at hf;cases hf
  | some o =>
   rw[hsr]at hf;cases o with
   | J l =>
    cases b with
    | int i =>
     simp only at hf;split at hf
     .rename_i d' e;cases hf;have J:=hb.intE;subst J;obtain⟨Y,e1,d1⟩:=R.addr hsr;obtain⟨w,e2,e3⟩:=bc3 d1 e;have wf:=R.wf _ _ hsr;unfold mH at wf;exact aM1 hK F z G s W H _ _ v u Q I Z ry ⟨C r,Y,i,w,rfl,rfl,SqL.of e1,e2,q.here R (ab6.mp wf _ (aK5 e)) e3⟩ hs
     .exact fb hf
    | _=>exact fb hf
   | ro l =>
    cases b with
    | int i =>
     simp only at hf;split at hf
     .rename_i d' e;cases hf;have J:=hb.intE;subst J;obtain⟨Y,e1,d1⟩:=R.obj _ _ hsr;obtain⟨w,e2,e3⟩:=bc3 d1 e;have wf:=R.wf _ _ hsr;unfold mH at wf;exact aM1 hK F z G s W H _ _ v u Q I Z ry ⟨C r,Y,i,w,rfl,rfl,e1.1,e2,q.here R (ab6.mp wf _ (aK5 e)) e3⟩ hs
     .exact fb hf
    | _=>exact fb hf
   | ins c l=>cases b<;>cases hf
 | _=>cases b<;>cases hf
def bg3 n d i :HT.sIx n d (some i)=nF n i:=by
 show(if i<0 then(i+(n)).toNat else min i.toNat n)=_;unfold nF;by_cases h:i<0
 .rw[if_pos h,if_neg (by lia)]
 .rw[if_neg h,if_pos (by lia)]
def bo8 (h:RVL Γ C H l z)(y F:Option Int):RVL Γ C H (nr l y F) (aV0 z y F):=by
 unfold nr aV0;have e1:HT.sIx z.length 0 y=nM l.length y:=by
  cases y with
  | none=>rfl
  | some i=>rw[bg3,h.length];rfl
 have e2:HT.sIx z.length z.length F=oh l.length F:=by
  cases F with
  | none=>exact h.length
  | some i=>rw[bg3,h.length];rfl
 rw[e1,e2];exact(h.drop _).take _
def aP5 :∀ d∈nr l y z,d∈l:=λ d hd=>dK (fy hd)
def bm1 (l:List α) y z :(nr l y z).length<=l.length:=by
 unfold nr;rw[aQ,be];lia
def ce1 y z n :bF y z 1 n=(bE (oh n z - nM n y)).map (nM n y+·):=by
 rw[<-sliceRange_one];unfold bF;have cl:∀ i:Int,max 0 (min (if i<0 then i+(n)else i) (n))=((nF n i)):=λ i=>by
  unfold nF;by_cases h:i<0
  .rw[if_pos h,if_neg (by omega)];omega
  .rw[if_neg h,if_pos (by omega)];omega
 simp only[if_true];cases y<;>cases z<;>simp only[cl,oh]<;>rfl
theorem aO7 {l:List Nat}:∀ a k ,a+k<=l.length->((bE k).map (a+·)).filterMap (λ x=>l.toArray[x]?)=(l.drop a).take k
 | a,0,_=>by simp
 | a,k+1,h=>by
  rw[List.range_succ,cb,List.filterMap_append,aO7 a k (by lia)];have hk:a+k<l.length:=by lia
  rw[List.take_add_one,gu];simp[hk]
def aZ9 l y z :fK ⟨l.toArray⟩ y z=⟨(nr l y z).toArray⟩:=by
 unfold fK;have hn:(⟨l.toArray⟩:Str).length=l.length:=by show l.toArray.size=_;simp
 rw[hn,ce1];have hb:oh l.length z<=l.length:=by
  cases z with
  | none=>exact av _
  | some i=>show nF l.length i<=_;unfold nF;split<;>lia
 have ha:nM l.length y<=l.length:=by
  cases y with
  | none=>exact cA _
  | some i=>show nF l.length i<=_;unfold nF;split<;>lia
 unfold nr;generalize oh l.length z=b at *;generalize nM l.length y=a at *;by_cases hc:((1:Int)==1&&((bE (b - a)).map (a+·)).length==l.length)=true
 .rw[if_pos hc];have:=by simpa using hc
  have h0:a=0\/l.length=0:=by lia
  rcases h0 with h0|h0
  .subst h0;rw[this];simp
  .have:=de.mp h0;subst this;simp
 .rw[if_neg hc];by_cases hab:a<=b
  .have e:=aO7 (l:=l) a (b - a) (by omega);rw[e]
  .rw[show b - a=0 by lia];simp
def rSl (Γ:Gm):V->Option Int->Option Int->Hp->VK->Prop:=λ x lo hi H Q=>∃ C s a d s',Rp Γ C H s/\RV Γ C H a x/\a.bnd s.length=true/\ol a lo hi s=.ok d s'/\ah1 Γ C s H d s' Q
def bK0 (hK:X.K=Γ.K):SlR X (rSl Γ):=by
 intro y s W H x v vl vu F G sl Q I J hs Z pu h;obtain⟨C,st,a,d,a0,R,ha,na,hf,q⟩:=h;unfold ol at hf;cases a with
 | tp l =>
  cases hf;obtain⟨p,Y,⟨rfl,z1⟩,h1,d1⟩:=ha.tupZ;unfold mD at na;refine bx0 hK y s W H _ v vl vu F G sl Q I J hs Z pu ⟨p,Y,rfl,h1,λ t H' e ht hn=>?_⟩;obtain⟨g,r'⟩:=R.same e;have d2:=bo8 (RVL.mono g _ _ na d1) F G;refine q _ _ _ g (av _) (by unfold mD;exact aL1 na aP5) (RV.tupC ht (λ z=>?_) d2) r';rcases hn with hn|⟨rfl,ex⟩
  .exact hn
  .rw[ex];refine e _ _ (z1 ?_);have hl:(nr l F G).length=l.length:=by rw[<-d2.length,ex,d1.length]
   rwa [aX7 hl]at z
 | str l =>
  cases hf;have hl:=ha.strL;have ex:=ha.strE;subst ex;refine bG8 y s W H _ v vl vu F G sl Q I J hs Z pu ⟨_,rfl,by show l.toArray.size<=_;rw[ay];exact aq hl zM,?_⟩;rw[aZ9];exact q.here R rfl (RV.strI (aq (bm1 l F G) hl))
 | ref r =>
  have ex:=ha.refE;subst ex;simp only at hf;cases hsr:st[r]? with
  | none=>rw[hsr]at hf;cases hf
  | some o =>
   rw[hsr]at hf;cases o with
   | J l =>
    obtain⟨rfl,rfl⟩:=zY hf;obtain⟨Y,e1,d1⟩:=R.addr hsr;have wf:=R.wf _ _ hsr;unfold mH at wf;exact bm3 hK y s W H _ v vl vu F G sl Q I J hs Z pu ⟨C r,Y,rfl,SqL.of e1,λ p hp=>q.alloc R (bo8 d1 F G) (aL1 wf aP5) hp⟩
   | _=>exact fb hf
 | _=>exact fb hf
variable {Γ:Gm} {X:Cx}
def rCl (Γ:Gm)(f:List mq->mn->my mq):List V->Hp->VK->Prop:=λ xs H Q=>∃ C s l d s',Rp Γ C H s/\RVL Γ C H l xs/\mr s.length l=true/\f l s=.ok d s'/\ah1 Γ C s H d s' Q
def RVL.one (h:RVL Γ C H [d] y):∃ x,y=[x]/\RV Γ C H d x:=by
 obtain⟨x,r,rfl,F,z⟩:=h.uncons;rw[z.unnil];exact⟨x,rfl,F⟩
noncomputable def biN:nB->Option (String×Nat)
 | .len=>some ("len",1)|.abs=>some ("abs",1)|.min2=>some ("min",2)|.max2=>some ("max",2)|_=>none
theorem qj:∀ {l} {is},nG l=some is->l=is.map DV.D.int
 | [],is,h=>by unfold nG at h;cases h;rfl
 | d::l,is,h=>by
  cases d with
  | int i =>
   have h:(nG l).map (i::·)=some is:=h;cases e:nG l with
   | none=>rw[e]at h;cases h
   | some m=>rw[e]at h;cases h;rw[qj e];rfl
  | _=>cases h
theorem an9:∀ {l} {is},nU l=some is->l=is.map DV.D.T
 | [],is,h=>by unfold nU at h;cases h;rfl
 | d::l,is,h=>by
  cases d with
  | T i =>
   have h:(nU l).map (i::·)=some is:=h;cases e:nU l with
   | none=>rw[e]at h;cases h
   | some m=>rw[e]at h;cases h;rw[an9 e];rfl
  | _=>cases h
theorem RVL.ints :∀ {is:List Int} {y},RVL Γ C H (is.map DV.D.int) y->y=is.map V.int
 | [],_,h=>h.unnil
 | i::is,_,h=>by
  obtain⟨x,r,rfl,F,z⟩:=RVL.uncons h;rw[F.intE,RVL.ints z];rfl
theorem RVL.bls :∀ {is:List Bool} {y},RVL Γ C H (is.map DV.D.T) y->y=is.map V.T
 | [],_,h=>h.unnil
 | i::is,_,h=>by
  obtain⟨x,r,rfl,F,z⟩:=RVL.uncons h;rw[F.blE,RVL.bls z];rfl
def bg0 (h:oA f l s=.ok d s'):∃ a,l=[a]/\f a s=.ok d s':=by
 match l,h with
 | [a],h=>exact⟨a,rfl,h⟩
 | [],h=>exact fb h
 | _::_::_,h=>exact fb h
def bk8 (F:X.K=Γ.K)(hc:X.calm=true)(hn:biN b=some (nm,k)):ae3 X (.builtin nm) (rCl Γ (oq b)):=by
 intro y s W H J us Q I r h;obtain⟨C,st,l,d,z,R,hl,Y,hf,q⟩:=h;cases b with
 | len =>
  cases hn;have hf:=hf;obtain⟨a,rfl,hg⟩:=bg0 hf;clear hf;obtain⟨x,rfl,hx⟩:=hl.one;unfold DV.bv4 at hg;cases a with
  | tp l =>
   cases hg;obtain⟨p,ys,rfl,G,d1⟩:=hx.tupE;refine ap7 F y s W H _ us Q I r ⟨p,ys,rfl,.inr G,?_⟩;rw[d1.length];exact q.here R rfl RV.intI
  | str l =>
   cases hg;have hL:=hx.strL;have e:=hx.strE;subst e;refine aC2 y s W H _ us Q I r ⟨_,rfl,by show l.toArray.size<=_;rw[ay];exact aq hL zM,?_⟩;show Q (.int ((l.toArray.size))) H;rw[ay];exact q.here R rfl RV.intI
  | ref n =>
   have e:=hx.refE;subst e;simp only at hg;cases hs:st[n]? with
   | none=>rw[hs]at hg;cases hg
   | some o =>
    rw[hs]at hg;cases o with
    | J l =>
     cases hg;obtain⟨ys,e1,d1⟩:=R.addr hs;refine ap7 F y s W H _ us Q I r ⟨C n,ys,rfl,.inl (SqL.of e1),?_⟩;rw[d1.length];exact q.here R rfl RV.intI
    | ro l =>
     cases hg;obtain⟨ys,e1,d1⟩:=R.obj _ _ hs;refine ap7 F y s W H _ us Q I r ⟨C n,ys,rfl,.inl e1.1,?_⟩;rw[d1.length];exact q.here R rfl RV.intI
    | ins c l=>exact fb hg
  | _=>exact fb hg
 | abs =>
  cases hn;have hf:(match nG l with|some [i]=>.ok (.int (if i<0 then -i else i)) st|_=>.B:my mq)=.ok d z:=hf;split at hf
  .rename_i i e;cases hf;have:=qj e;subst this;have:=RVL.ints hl;subst this;exact bj5 y s W H _ us Q I r ⟨i,rfl,q.here R rfl RV.intI⟩
  .exact fb hf
 | min2 =>
  cases hn;have hf:(match nG l with|some [a,b]=>.ok (.int (if b<a then b else a)) st|_=>.B:my mq)=.ok d z:=hf;split at hf
  .rename_i a b e;cases hf;have:=qj e;subst this;have:=RVL.ints hl;subst this;exact bf4 hc y s W H _ us Q I r ⟨_,_,rfl,q.here R rfl RV.intI⟩
  .exact fb hf
 | max2 =>
  cases hn;have hf:(match nG l with|some [a,b]=>.ok (.int (if b > a then b else a)) st|_=>.B:my mq)=.ok d z:=hf;split at hf
  .rename_i a b e;cases hf;have:=qj e;subst this;have:=RVL.ints hl;subst this;exact aW0 hc y s W H _ us Q I r ⟨_,_,rfl,q.here R rfl RV.intI⟩
  .exact fb hf
 | _=>cases hn
def aQ5:∀ j:Nat,j<=9->bp (toString (j:Int))=(⟨[48+j].toArray⟩):=by decide
def bJ1:ae3 X (.type "int") (rCl Γ (oq .int)):=by
 intro y s W H G us Q I r h;obtain⟨C,st,l,d,F,R,hl,J,hf,q⟩:=h;have hf:(match nU l with|some [b]=>.ok (.int (if b then 1 else 0)) st|some _=>.B|none=>DV.bz6 l st:my mq)=.ok d F:=hf;split at hf
 .rename_i b e;cases hf;have:=an9 e;subst this;have:=RVL.bls hl;subst this;exact be0 y s W H _ us Q I r (.inr ⟨b,rfl,q.here R rfl RV.intI⟩)
 .exact fb hf
 .unfold DV.bz6 at hf;split at hf
  .rename_i c _ _;split at hf
   .rename_i hc;cases hf;obtain⟨x,z,rfl,r1,r2⟩:=hl.uncons;cases(r2);have:=r1.strE;subst this;obtain⟨u,rfl,t,rfl⟩:=ai2 r;obtain⟨j,hj,rfl⟩:∃ j,j<=9/\c=48+j:=⟨c - 48,by omega,by omega⟩
    rw[(aQ5 j hj).symm];refine PySem.W.KIN.call_num (by lia) (by lia) ⟨.int (j),H,I.tok _,⟨_,rfl⟩,?_⟩;have:=q.here R rfl (RV.intI );rw[show 48+j - 48=j by lia]at this;exact this
   .exact fb hf
  .exact fb hf
def bS0:ae3 X (.type "str") (rCl Γ (oq .str)):=by
 intro F s W H J us Q I r h;obtain⟨C,st,l,d,z,R,hl,G,hf,q⟩:=h;have hf:DV.bA8 l st=.ok d z:=hf;unfold DV.bA8 at hf;split at hf
 .rename_i i _;split at hf
  .rename_i Y;cases hf;obtain⟨x,y,rfl,r1,r2⟩:=hl.uncons;cases(r2);have:=r1.intE;subst this;obtain⟨u,rfl,t,rfl⟩:=ai2 r;obtain⟨j,rfl⟩:∃ j:Nat,i=(j):=⟨i.toNat,by lia⟩
   have hj:j<=9:=by lia
   refine PySem.P.str_of_int ?_ ⟨.str ⟨[48+j].toArray⟩,H,I.tok _,⟨s.toks,?_⟩,?_⟩
   .have:(j:Int).natAbs.log2<=(j:Int).natAbs:=Nat.log2_le_self _;lia
   .rw[<-aQ5 j hj]
   .have:=q.here R rfl (RV.strI (by show 1<=mG;decide));rw[cr]at this;exact this
  .exact fb hf
 .rename_i w _;cases hf;obtain⟨x,y,rfl,r1,r2⟩:=hl.uncons;cases(r2);have e:=r1.strE;subst e;obtain⟨u,rfl,t,rfl⟩:=ai2 r;refine PySem.P.str_of_str ⟨.str ⟨w.toArray⟩,H,I,⟨_,rfl⟩,?_⟩;unfold mr at G;exact q.here R rfl r1
 .exact fb hf
noncomputable def as4:Nat->String
 | 1 => "int" | 2 => "bool" | 3 => "str" | 4 => "tuple" | _ => "list"
def bA9 {K} k (hk:1<=k/\k<=5):bc K (.type "NoneType") (.type (as4 k))=some false/\bc K (.type "bool") (.type (as4 k))=some (k==1||k==2) /\
  bc K (.type "int") (.type (as4 k))=some (k==1)/\bc K (.type "str") (.type (as4 k))=some (k==3)/\bc K (.type "tuple") (.type (as4 k))=some (k==4)/\bc K (.type "list") (.type (as4 k))=some (k==5):=by
 obtain⟨y,h5⟩:=hk;rcases(by lia:k=1\/k=2\/k=3\/k=4\/k=5)with h|h|h|h|h<;>subst h<;>refine⟨?_,?_,?_,?_,?_,?_⟩<;>with_unfolding_all rfl
def aR5 {s}{E:yB}{Q:yB}(I:Inv X y W H s)(J:SqT X.K H a F)(e:bc X.K (.type "tuple") c=some b)
  (h:∀ tk,Q (.bool b) { s with toks:=tk }):wpAny (model X.prog X.w) A (call (.builtin "isinstance") [.ref a,c]) Q E s:=by
 obtain⟨its,_,⟨o,g1,G,_⟩,_⟩:=I.tuple J;exact bS jy I.kIn ⟨o,g1,G⟩ e (λ z=>nomatch z) h
def bG3 (Y:X.K=Γ.K)(hk:1<=k/\k<=5):ae3 X (.builtin "isinstance") (λ z H Q=>∃ x,z=[x,.ty (as4 k)]/\rCl Γ (oA (oI k)) [x] H Q):=by
 intro F s W H z us Q I r h;obtain⟨x,rfl,C,st,l,d,y,R,hl,nl,hf,q⟩:=h;obtain⟨a,rfl,hg⟩:=bg0 hf;clear hf;obtain⟨u,w',rfl,r1,r2⟩:=bf6 r;cases r2;obtain⟨Z,e',hx⟩:=hl.one;cases e';obtain⟨k0,k1,k2,k3,J,k5⟩:=bA9 k hk;unfold oI at hg;cases a with
 | N=>cases hg;have e:=hx.nonE;subst e;exact qC I r1 .N k0 λ tk=>⟨.T _,H,I.tok _,rfl,q.here R rfl RV.blI⟩
 | T b=>cases hg;have e:=hx.blE;subst e;exact qC I r1 (.T b) k1 λ tk=>⟨.T _,H,I.tok _,rfl,q.here R rfl RV.blI⟩
 | int b=>cases hg;have e:=hx.intE;subst e;exact qC I r1 (.int b) k2 λ tk=>⟨.T _,H,I.tok _,rfl,q.here R rfl RV.blI⟩
 | str b=>cases hg;have e:=hx.strE;subst e;exact qC I r1 (.str _) k3 λ tk=>⟨.T _,H,I.tok _,rfl,q.here R rfl RV.blI⟩
 | tp l =>
  cases hg;obtain⟨p,ys,rfl,G,d1⟩:=hx.tupE;cases r1;rw[<-Y]at G;exact aR5 I G J λ tk=>⟨.T _,H,I.tok _,rfl,q.here R rfl RV.blI⟩
 | ref n =>
  have e:=hx.refE;subst e;have hg:(match st[n]? with|some (.J _)=>.ok (.T (k==5)) st|_=>.B:my mq)=.ok d y:=hg;cases hs:st[n]? with
  | none=>rw[hs]at hg;cases hg
  | some o =>
   rw[hs]at hg;cases o with
   | J l =>
    cases hg;obtain⟨ys,e1,d1⟩:=R.addr hs;exact qC I r1 (.J e1) k5 λ tk=>⟨.T _,H,I.tok _,rfl,q.here R rfl RV.blI⟩
   | _=>exact fb hg
 | _=>exact fb hg
variable {X:Cx}
def by3 {bs:List Bool}{its:yH}(r:Vals (bs.map V.T) its){i:Nat}(h:its[i]?=some v):∃ z,bs[i]?=some z/\v=Value.bool z:=by
 induction bs generalizing its i with
 | nil=>rw[eM]at r;cases r;simp at h
 | cons b bs ih =>
  rw[aF]at r;cases r with
  | cons r1 r2 =>
   cases i with
   | zero =>
    cases r1;have:=aB h;exact⟨b,rfl,this.symm⟩
   | succ i=>exact ih r2 h
def bb3 {bs:List Bool}:(bE bs.length).all (λ i=>bs.getD i false)=bs.all id:=by
 rw[cI,aD,aD];constructor
 .intro h b hb;obtain⟨i,y,e⟩:=dJ.mp hb;have:=h i (cO.mpr y);rw[bq,aj y]at this;rw[<-e];exact this
 .intro h i y;have y:=cO.mp y;rw[bq,aj y];exact h _ (bK y)
def bd6 {K}(hc:X.calm=true)(hK:X.K=K):ae3 X (.builtin "all") (λ J H Q=>∃(a:Addr) (bs:List Bool),J=[.ref a]/\SqL K H a (bs.map V.T)/\Q (.T (bs.all id)) H):=by
 subst hK;intro Y s W H J us Q I r h;obtain⟨a,bs,rfl,hS,q⟩:=h;obtain⟨u,rfl,ru⟩:=ai2 r;cases ru;obtain⟨its,Z,F,hz⟩:=I.list hS;have hl:=Z.length;rw[ao]at hl;refine call_all_walk (eG F.isList ?_);have G:a<s.heap.objs.size:=by obtain⟨o,_,e,_⟩:=F;exact aL e
 have Ww:=l8 (prog:=X.prog) (w:=X.w) (A:=X.A.in1) (I.ok.hd hc) s.heap.objs.size a (aC G) its.toArray;refine⟨_,_,_,_,_,_,λ i=>bs.getD i false,rfl,Ww,⟨⟨_,aM _ rfl,rfl,rfl⟩,?_⟩,λ i v s' Q' E' y hQ=>?_,λ h' tk k=>?_⟩
 .obtain⟨o,e,r⟩:=F.isList;exact⟨o,ak _ e,r⟩
 .obtain⟨z,e1,e2⟩:=by3 Z (by have y:its.toArray[i]?=some v:=y;rw[eT]at y;exact y);subst e2;refine bO ?_;have:bs.getD i false=z:=by rw[bq,e1];rfl
  rw[<-this];exact hQ
 .have es:its.toArray.size=bs.length:=by rw[ay];lia
  rw[es,bb3];refine⟨.T (bs.all id),H,I.kept λ b o q=>k b o ?_ (ak _ q),rfl,q⟩;intro z;have z':=by simpa using z
  exact absurd (aL q) (by rw[z'];exact bX _)
noncomputable def sgV (x:List Nat):List V:=x.map λ c=>.str ⟨#[c]⟩
def bA3 {y:yH}(hl:vs.length=y.length)(h:∀(i:Nat) (x:V) (u:Value),vs[i]?=some x->y[i]?=some u->RelV x u):Vals vs y:=by
 induction vs generalizing y with
 | nil=>cases y with
  | nil=>exact .nil
  | cons _ _=>cases hl
 | cons v vs ih=>cases y with
  | nil=>cases hl
  | cons a y=>exact .cons (h 0 v a rfl rfl) (ih (by simpa using hl) λ i x u e1 e2=>h (i+1) x u e1 e2)
def av2 {y:yK}(h:ItemsOf (SignAt ⟨x.toArray⟩) y x.length):Vals (sgV x) y.toList:=by
 have hl:(sgV x).length=y.toList.length:=by unfold sgV;rw[ao];simpa using h.1.symm
 refine bA3 hl λ i v u e1 e2=>?_;obtain⟨c,t,z,F⟩:=h.2 i u (by rw[<-Array.getElem?_toList];exact e2);unfold sgV at e1;rw[aY]at e1;have z:=by simpa using z
 rw[z]at e1;cases e1;exact⟨t,F⟩
def ao8 (hc:X.calm=true):ae3 X (.type "tuple") (λ J H Q=>∃ x,J=[.str ⟨x.toArray⟩]/\x.length<=mG/\∀ l,H l=none->Q (.ref l) (upd H l (.tp (sgV x)))):=by
 intro y s W H J us Q I r h;obtain⟨x,rfl,hl,q⟩:=h;obtain⟨u,rfl,Y⟩:=ai2 r;obtain⟨t,rfl⟩:=Y;have hz:(sgV x).length<=aP:=by unfold sgV;rw[ao];exact aq hl zM
 refine call_tuple_str (I.ok.hd hc) _ t (λ h' tk z kp F=>?_) (by skip;rw[ay];exact aq hl zM);have F:=by simpa using F
 have rv:=av2 F;have G:=I.kept (t':=tk) kp;have Z :=
  G.laid (t':=tk) (λ b o e=>ak _ e) (av _) (show af6 X.prog X.w _ _ _ (.tp (sgV x))from⟨hz,z.toList,rv,kq _ _⟩)
 exact⟨.ref h'.objs.size,_,Z,rfl,q _ (G.hok.fresh (av _))⟩
def aR9 (hc:X.calm=true):ae3 X (.type "list") (λ F H Q=>∃ x,F=[.str ⟨x.toArray⟩]/\x.length<=mG/\∀ l,H l=none->Q (.ref l) (upd H l (.J (sgV x)))):=by
 intro G s W H F us Q I r h;obtain⟨x,rfl,hl,q⟩:=h;obtain⟨u,rfl,J⟩:=ai2 r;obtain⟨t,rfl⟩:=J;have hz:(sgV x).length<=aP:=by unfold sgV;rw[ao];exact aq hl zM
 refine call_list_str (I.ok.hd hc) _ t (λ h' tk y Y kp e z=>?_) (by skip;rw[ay];exact aq hl zM);have z:=by simpa using z
 have Z:=av2 z;exact⟨.ref s.heap.objs.size,_,I.laid kp (av _) (show af6 X.prog X.w _ h' _ (.J (sgV x))from⟨hz,y.toList,Y,Z,e⟩),rfl,q _ (I.hok.fresh (av _))⟩
section
variable {Γ:Gm} {C C':Nat->Addr} {H H' H1 H2 H3:Hp} {clos:yC} {s s':mn}
def Gr.put (hc:Cells clos H)(F:∀ b,isC clos b=true->H' b=none)(Z:∀ b o,Γ.K.lookup b=some o->H b=none)(Y:Rp Γ C' H' s')(g:Gr C s (ay9 clos H) C' s' H'):Gr C s H C' s' (Put clos H H'):=by
 refine⟨⟨g.w.map,λ b o e f=>?_⟩,g.le,λ i h1 G=>?_,g.kd,λ b e=>?_,λ b o e J no=>?_⟩
 .by_cases z:isC clos b=true
  .rw[Put.cell z];exact e
  .rw[Put.ne z];exact g.w.kp b o (by rw[ay9.ne z];exact e) f
 .have hd:=g.new i h1 G;by_cases z:isC clos (C' i)=true
  .have hg:=F _ z;obtain⟨o,eo⟩:∃ o,s'[i]?=some o:=⟨s'[i],aj G⟩
   have y:=Y.obj i o eo;cases o with
   | J l=>obtain⟨xs,e,_⟩:=y;rw[hg]at e;cases e
   | ro l =>
    obtain⟨xs,e,_⟩:=y;rcases e.1 with(e|⟨_,e⟩)|⟨ob,its,n,e,_⟩
    .rw[hg]at e;cases e
    .rw[hg]at e;cases e
    .exact Z _ _ e
   | ins _ _=>exact y.elim
  .rw[ay9.ne z]at hd;exact hd
 .by_cases z:isC clos b=true
  .rw[Put.cell z];exact e
  .rw[Put.ne z];exact g.st b (by rw[ay9.ne z];exact e)
 .by_cases z:isC clos b=true
  .rw[Put.cell z];exact e
  .rw[Put.ne z];exact g.fr b o (by rw[ay9.ne z];exact e) J no
def Cells.kp (h:Cells clos H)(k:Kp H H'):Cells clos H':=λ x c e=>by
 obtain⟨o,v,q,d⟩:=h x c e;exact⟨o,v,k _ _ q rfl,d⟩
def PVp (Γ:Gm)(cells:yC)(N:yI)(W:St)(C:Nat->Addr)(H:Hp)(d:mq)(v:V):Prop:=RV Γ C H d v\/∃ id cs,d=.clo id cs/\∃ f J,v=.ref f/\Γ.lg id J/\aC6 H f J (ar8 cells J.scope.names []) /\
  cs.length=J.fr.length/\(∀ x,J.scope.names.lookup x=some .free->∃ c,cells.lookup x=some c) /\
  ∃ cap,RVL Γ C H cs cap/\∀(i:Nat) x v ,J.fr[i]?=some x->cap[i]?=some v->J.scope.names.lookup x=some .free/\∃ j:Nat,N[j]?=some x/\W[j]?=some (some v)
inductive PVL (Γ:Gm)(cells:yC)(N:yI)(W:St)(C:Nat->Addr)(H:Hp):List mq->List V->Prop where
 | nil:PVL Γ cells N W C H [] []
 | cons {d v l vs} (a:PVp Γ cells N W C H d v) (b:PVL Γ cells N W C H l vs):PVL Γ cells N W C H (d::l) (v::vs)
theorem PVp.mono (g:Gr C s H C' s' H')(b:d.bnd s.length=true)(h:PVp Γ cells N W C H d v):PVp Γ cells N W C' H' d v:=by
 rcases h with h|⟨id,y,rfl,h⟩
 .exact .inl (RV.mono g _ _ b h)
 .obtain⟨f,J,e,G,z,h4,h5,cap,F,h7⟩:=h;unfold mD at b;exact .inr ⟨id,y,rfl,f,J,e,G,z.kp g.w.kp,h4,h5,cap,RVL.mono g y cap b F,h7⟩
end
variable {Γ:Gm} {X:Cx}
def TEv (Γ:Gm)(m:mv->mn->my mq):TE:=λ W H Q=>∃ C U s d s',RE Γ C H s.length U W/\Rp Γ C H s/\m U s=.ok d s'/\ah1 Γ C s H d s' Q
def bO8 (Γ:Gm)(C:Nat->Addr)(s:mn)(H:Hp)(l:List mq)(s':mn)(Q:List V->Hp->Prop):Prop :=
 ∀ vs C' H',Gr C s H C' s' H'->s.length<=s'.length->mr s'.length l=true->RVL Γ C' H' l vs->Rp Γ C' H' s'->Q vs H'
def TAv (Γ:Gm)(m:mv->mn->my (List mq)):TA:=λ W H Q=>∃ C U s l s',RE Γ C H s.length U W/\Rp Γ C H s/\m U s=.ok l s'/\bO8 Γ C s H l s' Q
def aL4 (Γ:Gm)(C:Nat->Addr)(s:mn)(H:Hp)(b:Bool)(s':mn)(Q:Bool->Hp->Prop):Prop :=
 ∀ C' H',Gr C s H C' s' H'->s.length<=s'.length->Rp Γ C' H' s'->Q b H'
def TTv (Γ:Gm)(m:mv->mn->my mq):TT:=λ W H Q=>∃ C U s b s',RE Γ C H s.length U W/\Rp Γ C H s/\m U s=.ok (.T b) s'/\aL4 Γ C s H b s' Q
def PE.imp (h:PE X e t)(i:∀ W H Q,t' W H Q->t W H Q):PE X e t':=λ y s W H Q I q=>h y s W H Q I (i W H Q q)
def PT.imp (h:PT X e t)(i:∀ W H Q,t' W H Q->t W H Q):PT X e t':=λ y s W H Q I q=>h y s W H Q I (i W H Q q)
def PA.imp (h:PA X e t)(i:∀ W H Q,t' W H Q->t W H Q):PA X e t':=λ pos y s W H Q I q=>h pos y s W H Q I (i W H Q q)
theorem aL4.trans (h:aL4 Γ C s H b s' Q)(g:Gr C s H C1 y z)(l:s.length<=y.length):aL4 Γ C1 y z b s' Q :=
 λ C' H' g' F p=>h C' H' (g.trans g' l) (aq l F) p
def bQ9 i (h:TEv Γ (λ U s=>DV.bq2 U i s) W H Q):bq8 i W H Q:=by
 obtain⟨C,U,s,d,s',E,R,hm,q⟩:=h;simp only[DV.bq2]at hm;split at hm
 .rename_i d' e;cases hm;obtain⟨b,v,e1,e2⟩:=E.val i _ e;exact⟨v,e1,q.here R b e2⟩
 .exact fb hm
def aA7 (hb:∀ n,c.bnd n=true)(hv:∀ C H,RV Γ C H c v)(h:TEv Γ (λ U s=>.ok c s) W H Q):tC v W H Q:=by
 obtain⟨C,U,s,d,s',E,R,hm,q⟩:=h;cases hm;exact q.here R (hb _) (hv _ _)
def bl0 (h:TEv Γ (λ U s=>(Y U s).bind λ x s=>(z U s).bind λ y s=>f x y s) W H Q):tOp (rOp Γ f) (TEv Γ Y) (TEv Γ z) W H Q:=by
 obtain⟨C,U,s,d,s',E,R,hm,q⟩:=h;obtain⟨x,F,e1,hm⟩:=aa1 hm;obtain⟨y,s2,e2,hm⟩:=aa1 hm;refine⟨C,U,s,x,F,E,R,e1,λ v1 C1 H1 g1 l1 b1 r1 R1=>?_⟩;refine⟨C1,U,F,y,s2,E.mono g1 l1,R1,e2,λ v2 C2 H2 G J Z r2 R2=>?_⟩;exact⟨C2,s2,x,y,d,s',R2,RV.mono G x v1 b1 r1,r2,zg J x b1,Z,hm,q.trans (g1.trans G l1) (aq l1 J)⟩
def cf5 {f:mq->mn->my mq}(h:TEv Γ (λ U s=>(m U s).bind λ x s=>f x s) W H Q)
  (hr:∀ C s x d s' v H',Rp Γ C H' s->RV Γ C H' x v->x.bnd s.length=true->f x s=.ok d s'->ah1 Γ C s H' d s' Q->r v H' Q):tUn r (TEv Γ m) W H Q:=by
 obtain⟨C,U,s,d,s',E,R,hm,q⟩:=h;obtain⟨x,y,e1,hm⟩:=aa1 hm;exact⟨C,U,s,x,y,E,R,e1,λ v1 C1 z g1 l1 b1 r1 R1=>hr C1 y x d s' v1 z R1 r1 b1 hm (q.trans g1 l1)⟩
def zE {a:α}(h:mM r f=.ok a t):∃ b s,r=.ok (.T b) s/\f b s=.ok a t:=by
 unfold mM at h;obtain⟨d,s,e,h⟩:=aa1 h;cases d with
 | T b=>exact⟨b,s,e,h⟩
 | _=>exact fb h
def bg1 (h:TTv Γ m W H Q):tB (TEv Γ m) W H Q:=by
 obtain⟨C,U,s,b,s',E,R,hm,q⟩:=h;refine⟨C,U,s,.T b,s',E,R,hm,λ v C' H' g l z r y=>?_⟩;exact⟨b,r.blE,q C' H' g l y⟩
def bb8 (h:TTv Γ m W H Q):bD0 (TEv Γ m) W H Q:=bg1 h
def bR5 (h:TTv Γ (λ U s=>mM (m U s) λ b s=>.ok (.T (!b)) s) W H Q):cg6 (TTv Γ m) W H Q:=by
 obtain⟨C,U,s,b,s',E,R,hm,q⟩:=h;obtain⟨c,y,e1,hm⟩:=zE hm;cases hm;exact⟨C,U,s,c,_,E,R,e1,q⟩
def br2 (h:TTv Γ (λ U s=>mM (F U s) λ c s=>if c then mM (y U s) λ c s=>.ok (.T c) s else .ok (.T false) s) W H Q):cg0 (TTv Γ F) (TTv Γ y) W H Q:=by
 obtain⟨C,U,s,b,s',E,R,hm,q⟩:=h;obtain⟨c,z,e1,hm⟩:=zE hm;refine⟨C,U,s,c,z,E,R,e1,λ C1 G g1 l1 R1=>?_⟩;cases c with
 | true =>
  rw[if_pos rfl]at hm ⊢;obtain⟨J,s2,e2,hm⟩:=zE hm;cases hm;exact⟨C1,U,z,_,_,E.mono g1 l1,R1,e2,q.trans g1 l1⟩
 | false =>
  rw[if_neg aI]at hm ⊢;cases hm;exact q C1 G g1 l1 R1
def bL1 (h:TTv Γ (λ U s=>mM (F U s) λ c s=>if c then .ok (.T true) s else mM (y U s) λ c s=>.ok (.T c) s) W H Q):tOr (TTv Γ F) (TTv Γ y) W H Q:=by
 obtain⟨C,U,s,b,s',E,R,hm,q⟩:=h;obtain⟨c,z,e1,hm⟩:=zE hm;refine⟨C,U,s,c,z,E,R,e1,λ C1 G g1 l1 R1=>?_⟩;cases c with
 | true =>
  rw[if_pos rfl]at hm ⊢;cases hm;exact q C1 G g1 l1 R1
 | false =>
  rw[if_neg aI]at hm ⊢;obtain⟨J,s2,e2,hm⟩:=zE hm;cases hm;exact⟨C1,U,z,_,_,E.mono g1 l1,R1,e2,q.trans g1 l1⟩
def bO7 (h:TEv Γ (λ U s=>mM (m U s) λ b s=>.ok (.T (!b)) s) W H Q):bI6 (TEv Γ m) W H Q:=by
 obtain⟨C,U,s,d,s',E,R,hm,q⟩:=h;obtain⟨c,z,e1,hm⟩:=zE hm;cases hm;exact⟨C,U,s,.T c,_,E,R,e1,λ v C1 y g l b r R1=>⟨c,r.blE,q _ C1 y g l rfl RV.blI R1⟩⟩
def bt4 (h:TEv Γ (λ U s=>mM (F U s) λ c s=>if c then mM (y U s) λ c s=>.ok (.T c) s else .ok (.T false) s) W H Q):bG0 (TEv Γ F) (TEv Γ y) W H Q:=by
 obtain⟨C,U,s,d,s',E,R,hm,q⟩:=h;obtain⟨c,z,e1,hm⟩:=zE hm;refine⟨C,U,s,.T c,z,E,R,e1,λ v C1 G g1 l1 b1 r1 R1=>⟨c,r1.blE,?_⟩⟩;cases c with
 | true =>
  rw[if_pos rfl]at hm ⊢;obtain⟨c,s2,e2,hm⟩:=zE hm;cases hm;exact⟨C1,U,z,.T c,_,E.mono g1 l1,R1,e2,q.trans g1 l1⟩
 | false =>
  rw[if_neg aI]at hm ⊢;cases hm;exact q _ C1 G g1 l1 rfl RV.blI R1
def bI8 (h:TEv Γ (λ U s=>mM (F U s) λ c s=>if c then .ok (.T true) s else mM (y U s) λ c s=>.ok (.T c) s) W H Q):ch5 (TEv Γ F) (TEv Γ y) W H Q:=by
 obtain⟨C,U,s,d,s',E,R,hm,q⟩:=h;obtain⟨c,z,e1,hm⟩:=zE hm;refine⟨C,U,s,.T c,z,E,R,e1,λ v C1 G g1 l1 b1 r1 R1=>⟨c,r1.blE,?_⟩⟩;cases c with
 | true =>
  rw[if_pos rfl]at hm ⊢;cases hm;exact q _ C1 G g1 l1 rfl RV.blI R1
 | false =>
  rw[if_neg aI]at hm ⊢;obtain⟨c,s2,e2,hm⟩:=zE hm;cases hm;exact⟨C1,U,z,.T c,_,E.mono g1 l1,R1,e2,q.trans g1 l1⟩
def bJ2 (h:TEv Γ (λ U s=>mM (mc U s) λ k s=>if k then F U s else z U s) W H Q):tIf (TTv Γ mc) (TEv Γ F) (TEv Γ z) W H Q:=by
 obtain⟨C,U,s,d,s',E,R,hm,q⟩:=h;obtain⟨c,y,e1,hm⟩:=zE hm;refine⟨C,U,s,c,y,E,R,e1,λ C1 G g1 l1 R1=>?_⟩;cases c with
 | true =>
  rw[if_pos rfl]at hm ⊢;exact⟨C1,U,y,d,s',E.mono g1 l1,R1,hm,q.trans g1 l1⟩
 | false =>
  rw[if_neg aI]at hm ⊢;exact⟨C1,U,y,d,s',E.mono g1 l1,R1,hm,q.trans g1 l1⟩
def aL6 (h:TEv Γ (λ U s=>(ma U s).bind λ x s=>(mb U s).bind λ y s=>mM (f x y s) λ k s=>if k then(mc U s).bind λ z s=>g y z s else .ok (.T false) s) W H Q) :
  aX8 (rOp Γ f) (rOp Γ g) (TEv Γ ma) (TEv Γ mb) (TEv Γ mc) W H Q:=by
 obtain⟨C,U,s,d,s',E,R,hm,q⟩:=h;obtain⟨x,Z,e1,hm⟩:=aa1 hm;obtain⟨y,s2,e2,hm⟩:=aa1 hm;obtain⟨c,s3,e3,hm⟩:=zE hm;refine⟨C,U,s,x,Z,E,R,e1,λ v1 C1 H1 g1 l1 b1 r1 R1=>?_⟩;refine⟨C1,U,Z,y,s2,E.mono g1 l1,R1,e2,λ v2 C2 H2 g2 J F r2 R2=>?_⟩;refine⟨C2,s2,x,y,.T c,s3,R2,RV.mono g2 x v1 b1 r1,r2,zg J x b1,F,e3,λ v3 C3 H3 g3 Y b3 r3 R3=>⟨c,r3.blE,?_⟩⟩;have G:=(g1.trans g2 l1).trans g3 (aq l1 J);have L:=aq (aq l1 J) Y;cases c with
 | true =>
  rw[if_pos rfl]at hm ⊢;obtain⟨z,s4,e4,hm⟩:=aa1 hm;refine⟨C3,U,s3,z,s4,E.mono G L,R3,e4,λ v4 C4 H4 g4 l4 b4 r4 R4=>?_⟩;exact⟨C4,s4,y,z,d,s',R4,RV.mono (g3.trans g4 Y) y v2 F r2,r4,zg (aq Y l4) y F,b4,hm,q.trans (G.trans g4 L) (aq L l4)⟩
 | false =>
  rw[if_neg aI]at hm ⊢;cases hm;exact q _ C3 H3 G L rfl RV.blI R3
def aP3 (h:TAv Γ (λ U s=>.ok [] s) W H Q):bg8 W H Q:=by
 obtain⟨C,U,s,d,s',E,R,hm,q⟩:=h;cases hm;exact q [] C H (Gr.refl _ _ _) (av _) rfl .nil R
def bA6 (h:TAv Γ (λ U s=>(m U s).bind λ d s=>(J U s).bind λ l s=>.ok (d::l) s) W H Q):ao2 (TEv Γ m) (TAv Γ J) W H Q:=by
 obtain⟨C,U,s,l,s',E,R,hm,q⟩:=h;obtain⟨x,z,e1,hm⟩:=aa1 hm;obtain⟨y,s2,e2,hm⟩:=aa1 hm;cases hm;refine⟨C,U,s,x,z,E,R,e1,λ v1 C1 H1 g1 l1 b1 r1 R1=>?_⟩;refine⟨C1,U,z,y,_,E.mono g1 l1,R1,e2,λ Y C2 H2 F G Z r2 R2=>?_⟩;refine q (v1::Y) C2 H2 (g1.trans F l1) (aq l1 G) ?_ (.cons (RV.mono F x v1 b1 r1) r2) R2;unfold mr;rw[zg G x b1,Z];rfl
def aI4 (h:TEv Γ (λ U s=>(y U s).bind λ l s=>f l s) W H Q):tCB (rCl Γ f) (TAv Γ y) W H Q:=by
 obtain⟨C,U,s,d,s',E,R,hm,q⟩:=h;obtain⟨l,z,e1,hm⟩:=aa1 hm;exact⟨C,U,s,l,z,E,R,e1,λ vs C1 F g1 l1 b1 r1 R1=>⟨C1,z,l,d,s',R1,r1,b1,hm,q.trans g1 l1⟩⟩
def bN4 :
  (TEv Γ (λ U s=>(m U s).bind λ x s=>(ml U s).bind λ y s=>match y with|.int i=>ol x (some i) none s|_=>.B) W H Q->tSl (rSl Γ) (TEv Γ m) (be6 (TEv Γ ml)) aK4 W H Q) /\
  (TEv Γ (λ U s=>(m U s).bind λ x s=>(mh U s).bind λ y s=>match y with|.int i=>ol x none (some i) s|_=>.B) W H Q->tSl (rSl Γ) (TEv Γ m) aK4 (be6 (TEv Γ mh)) W H Q) /\
  (TEv Γ (λ U s=>(m U s).bind λ x s=>(ml U s).bind λ y s=>match y with|.int i=>(mh U s).bind (λ z s=>match z with|.int j=>ol x (some i) (some j) s|_=>.B)|_=>.B) W H Q->tSl (rSl Γ) (TEv Γ m) (be6 (TEv Γ ml)) (be6 (TEv Γ mh)) W H Q):=by
 refine⟨λ h=>?_,λ h=>?_,λ h=>?_⟩
 .obtain⟨C,U,s,d,s',E,R,hm,q⟩:=h;obtain⟨x,J,e1,hm⟩:=aa1 hm;obtain⟨y,s2,e2,hm⟩:=aa1 hm;refine⟨C,U,s,x,J,E,R,e1,λ v1 C1 Y g1 l1 b1 r1 R1=>?_⟩;refine⟨C1,U,J,y,s2,E.mono g1 l1,R1,e2,λ v2 C2 H2 G F b2 r2 R2=>?_⟩;cases y with
  | int i=>exact⟨i,r2.intE,C2,s2,x,d,s',R2,RV.mono G x v1 b1 r1,zg F x b1,hm,q.trans (g1.trans G l1) (aq l1 F)⟩
  | _=>exact fb hm
 .obtain⟨C,U,s,d,s',E,R,hm,q⟩:=h;obtain⟨x,J,e1,hm⟩:=aa1 hm;obtain⟨y,s2,e2,hm⟩:=aa1 hm;refine⟨C,U,s,x,J,E,R,e1,λ v1 C1 Y g1 l1 b1 r1 R1=>?_⟩;refine⟨C1,U,J,y,s2,E.mono g1 l1,R1,e2,λ v2 C2 H2 G F b2 r2 R2=>?_⟩;cases y with
  | int i=>exact⟨i,r2.intE,C2,s2,x,d,s',R2,RV.mono G x v1 b1 r1,zg F x b1,hm,q.trans (g1.trans G l1) (aq l1 F)⟩
  | _=>exact fb hm
 .obtain⟨C,U,s,d,s',E,R,hm,q⟩:=h;obtain⟨x,J,e1,hm⟩:=aa1 hm;obtain⟨y,s2,e2,hm⟩:=aa1 hm;refine⟨C,U,s,x,J,E,R,e1,λ v1 C1 Y g1 l1 b1 r1 R1=>?_⟩;refine⟨C1,U,J,y,s2,E.mono g1 l1,R1,e2,λ v2 C2 H2 G F b2 r2 R2=>?_⟩;cases y with
  | int i =>
   obtain⟨z,s3,e3,hm⟩:=aa1 hm;refine⟨i,r2.intE,C2,U,s2,z,s3,E.mono (g1.trans G l1) (aq l1 F),R2,e3,λ v3 C3 H3 g3 Z b3 r3 R3=>?_⟩;cases z with
   | int j=>exact⟨j,r3.intE,C3,s3,x,d,s',R3,RV.mono (G.trans g3 F) x v1 b1 r1,zg (aq F Z) x b1,hm,q.trans ((g1.trans G l1).trans g3 (aq l1 F)) (aq (aq l1 F) Z)⟩
   | _=>exact fb hm
  | _=>exact fb hm
variable {Γ:Gm} {X:Cx}
def qM (Γ:Gm)(J:It)(C0:Nat->Addr)(H0:Hp)(s0:mn)(q:nK):Prop :=
 ∀ C H s,Gr C0 s0 H0 C s H->s0.length<=s.length->Rp Γ C H s->mV s0 s q.src=true->∀ i:Nat,
  (i<q.its.length->J.go i H/\∀ x H',J.yld i H x H'->af2 H H'/\∀ d,q.its[i]?=some d->RV Γ C H' d x)/\(q.its.length<=i->J.stop i H)
def TIv (Γ:Gm)(m:mv->mn->my nK):TI:=λ W H R=>∃ C U s q s',RE Γ C H s.length U W/\Rp Γ C H s/\m U s=.ok q s' /\
 ∀ J C' H',Gr C s H C' s' H'->s.length<=s'.length->mr s'.length q.its=true->Rp Γ C' H' s'->qM Γ J C' H' s' q->R J H'
def PI.imp (h:PI X tg e t)(i:∀ W H R,t' W H R->t W H R):PI X tg e t':=λ y s W H R I q=>h y s W H R I (i W H R q)
def PI.or (h:PI X tg e t)(h':PI X tg e t'):PI X tg e (λ W H R=>t W H R\/t' W H R):=λ y s W H R I q=>q.elim (h y s W H R I) (h' y s W H R I)
def aQ8 (h:SqT Γ.K H0 a z)(hl:RVL Γ C0 H0 l z)(hb:mr s0.length l=true):qM Γ (Itt Γ.K a) C0 H0 s0 ⟨l,[]⟩:=by
 intro C H s g _ R _ i;have h':=g.w.kp.sqT h;have F:=RVL.mono g l z hb hl;refine⟨λ hlt=>⟨⟨z,z[i]'(by rw[F.length];exact hlt),h',aj _⟩,λ x H' y=>?_⟩,λ G=>⟨z,h',by rw[F.length];exact G⟩⟩;obtain⟨e,y⟩:=y;subst e;refine⟨af2.refl _,λ d hd=>?_⟩;obtain⟨v,e1,e2⟩:=F.get hd;rw[y z h']at e1;cases e1;exact e2
def aZ4 (h:SqF Γ.K H0 a z)(hl:RVL Γ C0 H0 l z)(hb:mr s0.length l=true):qM Γ (Itl Γ.K a) C0 H0 s0 ⟨l,[]⟩:=by
 intro C H s g _ R _ i;have h':=h.2 _ g.w.kp;have F:=RVL.mono g l z hb hl;refine⟨λ hlt=>⟨⟨z,z[i]'(by rw[F.length];exact hlt),h',aj _⟩,λ x H' y=>?_⟩,λ G=>⟨z,h',by rw[F.length];exact G⟩⟩;obtain⟨e,y⟩:=y;subst e;refine⟨af2.refl _,λ d hd=>?_⟩;obtain⟨v,e1,e2⟩:=F.get hd;rw[y z h']at e1;cases e1;exact e2
def aO2 (hr:s0[r]?=some (.J l)):qM Γ (Itl Γ.K (C0 r)) C0 H0 s0 ⟨l,[r]⟩:=by
 intro C H s g _ R J i;have G:=(ah.mp hr).1;have hs:s[r]?=some (.J l):=by
  unfold mV at J;simp only[ci,dQ,dz,decide_eq_true_eq]at J;rw[J];exact hr
 obtain⟨F,e,z⟩:=R.addr hs;rw[g.w.map r G]at e;have h':SqL Γ.K H (C0 r) F:=SqL.of e;refine⟨λ hlt=>⟨⟨F,F[i]'(by rw[z.length];exact hlt),h',aj _⟩,λ x H' y=>?_⟩,λ Y=>⟨F,h',by rw[z.length];exact Y⟩⟩;obtain⟨e,y⟩:=y;subst e;refine⟨af2.refl _,λ d hd=>?_⟩;obtain⟨v,e1,e2⟩:=z.get hd;rw[y F h']at e1;cases e1;exact e2
def aN9 {l:List Nat}:qM Γ (Its ⟨l.toArray⟩) C0 H0 s0 ⟨l.map λ c=>.str [c],[]⟩:=by
 intro C H s g _ R _ i;have F:(⟨l.toArray⟩:Str).cps.size=l.length:=by simp
 refine⟨λ hlt=>?_,λ z=>?_⟩
 .simp only[ao]at hlt;refine⟨show i<(⟨l.toArray⟩:Str).cps.size by rw[F];exact hlt,λ x H' y=>?_⟩;obtain⟨e,c,hc,rfl⟩:=y;subst e;refine⟨af2.refl _,λ d hd=>?_⟩;have G:=by simpa using hc
  rw[aY,G]at hd;cases hd;exact RV.strI (by simp;decide)
 .simp only[ao]at z;show(⟨l.toArray⟩:Str).cps.size<=i;rw[F];exact z
def bh2 :qM Γ (Itr a (b - a).toNat) C0 H0 s0 ⟨nV a b,[]⟩:=by
 intro C H s g _ R _ i;have hn:(nV a b).length=(b - a).toNat:=by simp[nV]
 refine⟨λ hlt=>⟨show i<(b - a).toNat by rw[<-hn];exact hlt,λ x H' y=>?_⟩,λ z=>show(b - a).toNat<=i by rw[<-hn];exact z⟩;obtain⟨e,rfl⟩:=y;subst e;refine⟨af2.refl _,λ d hd=>?_⟩;simp only[nV]at hd hlt;rw[aY,jl (by simpa using hlt)]at hd;cases hd;exact RV.intI
def bt7 (h:TIv Γ (λ U s=>(m U s).bind λ x s=>match x with|.int i=>if -oJ<=i/\i<oJ then .ok ⟨nV 0 i,[]⟩ s else .B|_=>.B) W H R) :
  bH2 (ao2 (TEv Γ m) bg8) W H R:=by
 obtain⟨C,U,s,q,s',E,P,hm,k⟩:=h;obtain⟨x,G,e1,hm⟩:=aa1 hm;refine⟨C,U,s,x,G,E,P,e1,λ v C1 z g l b r F=>?_⟩;cases x with
 | int i =>
  simp only at hm;split at hm
  .rename_i y;cases hm;have hw:oJ=2^62:=by decide
   rw[hw]at y;refine⟨i,by rw[r.intE],y.1,y.2,k _ C1 z g l ?_ F ?_⟩
   .refine ab6.mpr λ d hd=>?_;simp only[nV,aN]at hd;obtain⟨_,_,rfl⟩:=hd;rfl
   .have:=bh2 (Γ:=Γ) (C0:=C1) (H0:=z) (s0:=s') (a:=0) (b:=i)
    rwa [lQ]at this
  .exact fb hm
 | _=>exact fb hm
def bT5 (h:TIv Γ (λ U s=>(m U s).bind λ d s=>DV.qG d s) W H R) :
  bZ8 Γ.K (TEv Γ m) W H R\/bD6 Γ.K (TEv Γ m) W H R\/ch0 (TEv Γ m) W H R:=by
 obtain⟨C,U,s,q,s',E,P,hm,k⟩:=h;obtain⟨x,Z,e1,hm⟩:=aa1 hm;unfold DV.qG at hm;cases x with
 | tp l =>
  cases hm;refine .inl ⟨C,U,s,_,_,E,P,e1,λ v C1 z g l b r y=>?_⟩;obtain⟨a,G,rfl,Y,d1⟩:=r.tupE;unfold mD at b;exact⟨a,rfl,⟨G,Y⟩,k _ C1 z g l b y (aQ8 Y d1 b)⟩
 | str l =>
  cases hm;refine .inr (.inr ⟨C,U,s,_,_,E,P,e1,λ v C1 z g F b r y=>?_⟩);refine⟨_,r.strE,k _ C1 z g F ?_ y aN9⟩;refine ab6.mpr λ d hd=>?_;simp only[aN]at hd;obtain⟨_,_,rfl⟩:=hd;rfl
 | ref r =>
  simp only at hm;cases hs:Z[r]? with
  | none=>rw[hs]at hm;cases hm
  | some o =>
   rw[hs]at hm;cases o with
   | J l =>
    cases hm;refine .inr (.inl ⟨C,U,s,_,_,E,P,e1,λ v C1 z g F b J y=>?_⟩);have e:=J.refE;subst e;obtain⟨G,e2,d1⟩:=y.addr hs;have wf:=y.wf _ _ hs;unfold mH at wf;exact⟨C1 r,rfl,⟨G,SqL.of e2⟩,k _ C1 z g F wf y (aO2 hs)⟩
   | ro l =>
    cases hm;refine .inr (.inl ⟨C,U,s,_,_,E,P,e1,λ v C1 z g F b J y=>?_⟩);have e:=J.refE;subst e;obtain⟨G,e2,d1⟩:=y.obj _ _ hs;have wf:=y.wf _ _ hs;unfold mH at wf;exact⟨C1 r,rfl,⟨G,e2.1⟩,k _ C1 z g F wf y (aZ4 e2 d1 wf)⟩
   | ins c l=>exact fb hm
 | _=>exact fb hm
def be3 (h:oB d s=.ok q s'):s'=s/\∀ C H v,RV Γ C H d v->Rp Γ C H s->d.bnd s.length=true ->
  ∃ J,Sr Γ.K H v J/\qM Γ J C H s q/\mr s.length q.its=true:=by
 unfold oB at h;cases d with
 | tp l =>
  cases h;refine⟨rfl,λ C H v r P b=>?_⟩;obtain⟨a,y,rfl,F,d1⟩:=r.tupE;unfold mD at b;exact⟨_,.inr (.inl ⟨a,rfl,⟨y,F⟩,rfl⟩),aQ8 F d1 b,b⟩
 | str l =>
  cases h;refine⟨rfl,λ C H v r P b=>⟨_,.inr (.inr ⟨_,r.strE,rfl⟩),aN9,?_⟩⟩;refine ab6.mpr λ d hd=>?_;simp only[aN]at hd;obtain⟨_,_,rfl⟩:=hd;rfl
 | ref r =>
  simp only at h;cases hs:s[r]? with
  | none=>rw[hs]at h;cases h
  | some o =>
   rw[hs]at h;cases o with
   | J l =>
    cases h;refine⟨rfl,λ C H v z P b=>?_⟩;have e:=z.refE;subst e;obtain⟨y,e2,d1⟩:=P.addr hs;have wf:=P.wf _ _ hs;unfold mH at wf;exact⟨_,.inl ⟨_,rfl,⟨y,SqL.of e2⟩,rfl⟩,aO2 hs,wf⟩
   | ro l =>
    cases h;refine⟨rfl,λ C H v z P b=>?_⟩;have e:=z.refE;subst e;obtain⟨y,e2,d1⟩:=P.obj _ _ hs;have wf:=P.wf _ _ hs;unfold mH at wf;exact⟨_,.inl ⟨_,rfl,⟨y,e2.1⟩,rfl⟩,aZ4 e2 d1 wf,wf⟩
   | ins c l=>exact fb h
 | _=>exact fb h
def bw9 :mV s0 s (a++b)=(mV s0 s a&&mV s0 s b):=by unfold mV;exact List.all_append
theorem ay7:∀ l m (i:Nat),(nh l m)[i]?=(match l[i]?,m[i]? with|some a,some b=>some (.tp [a,b])|_,_=>none)
 | [],m,i=>by rw[nh]<;>simp
 | a::l,[],i=>by
  rw[nh]<;>simp
 | a::l,b::m,0=>by rw[nh];rfl
 | a::l,b::m,i+1=>by
  rw[nh];exact ay7 l m i
theorem aA2:∀ l m ,(nh l m).length=min l.length m.length
 | [],m=>by rw[nh]<;>simp
 | a::l,[]=>by rw[nh]<;>simp
 | a::l,b::m=>by rw[nh];simp[aA2 l m]
def bo0 (w1:qM Γ J1 C0 H0 s0 p)(w2:qM Γ J2 C0 H0 s0 q)(b1:mr s0.length p.its=true)(b2:mr s0.length q.its=true) :
  qM Γ (Jz J1 J2) C0 H0 s0 ⟨nh p.its q.its,p.src++q.src⟩:=by
 intro C H s g hl R J i;rw[bw9,am]at J;obtain⟨u1,u2⟩:=w1 C H s g hl R J.1 i;obtain⟨v1,v2⟩:=w2 C H s g hl R J.2 i;refine⟨λ hlt=>?_,λ Y=>?_⟩
 .simp only[aA2]at hlt;have z:=aK hlt (Nat.min_le_left ..);have G:=aK hlt (ko ..);obtain⟨g1,y1⟩:=u1 z;obtain⟨g2,y2⟩:=v1 G;refine⟨⟨g1,g2⟩,λ x H' y=>?_⟩;obtain⟨a,x1,x2,e1,e2,hn,rfl,rfl⟩:=y;have Z:af2 H (upd H a (.tp [x1,x2])):=(af2.refl H).new hn;refine⟨Z,λ d hd=>?_⟩;have F:=hd;rw[ay7,aj z,aj G]at F;cases F;obtain⟨gr,R'⟩:=R.same Z;have c1:=ab6.mp b1 _ (bK z);have c2:=ab6.mp b2 _ (bK G);exact RV.tupI zo (RVL.cons (RV.mono gr _ _ (zg hl _ c1) ((y1 _ _ e1).2 _ (aj z))) (RVL.cons (RV.mono gr _ _ (zg hl _ c2) ((y2 _ _ e2).2 _ (aj G))) RVL.nil))
 .simp only[aA2]at Y;by_cases z:p.its.length<=i
  .exact .inl (u2 z)
  .refine .inr ⟨(u1 (by lia)).1,v2 (by lia)⟩
def bD4 (a:mr n l=true)(b:mr n m=true):mr n (nh l m)=true:=by
 refine ab6.mpr λ d hd=>?_;obtain⟨i,z⟩:=cC hd;rw[ay7]at z;split at z
 .rename_i x y e1 e2;cases z;unfold mD;exact ab6.mpr λ d hd=>by
   simp only[aw,aR,or_false]at hd;rcases hd with rfl|rfl
   .exact ab6.mp a _ (aG e1)
   .exact ab6.mp b _ (aG e2)
 .cases z
def bM7 (h:TIv Γ (λ U s=>(m1 U s).bind λ x s=>(G U s).bind λ y s=>(oB x s).bind λ p s=>(oB y s).bind λ q s=>.ok ⟨nh p.its q.its,p.src++q.src⟩ s) W H R) :
  ch4 Γ.K (ao2 (TEv Γ m1) (ao2 (TEv Γ G) bg8)) W H R:=by
 obtain⟨C,U,s,q,s',E,P,hm,k⟩:=h;obtain⟨x,Y,e1,hm⟩:=aa1 hm;obtain⟨y,s2,e2,hm⟩:=aa1 hm;obtain⟨p1,s3,e3,hm⟩:=aa1 hm;obtain⟨p2,s4,e4,hm⟩:=aa1 hm;cases hm;obtain⟨rfl,d1⟩:=be3 e3;obtain⟨rfl,d2⟩:=be3 e4;refine⟨C,U,s,x,Y,E,P,e1,λ v C1 H1 g l b r P1=>?_⟩;refine⟨C1,U,Y,y,_,E.mono g l,P1,e2,λ Z C2 z g2 l2 b2 r2 F=>?_⟩;obtain⟨J1,S1,w1,c1⟩:=d1 C2 z v (RV.mono g2 _ _ b r) F (zg l2 _ b);obtain⟨J2,S2,w2,J⟩:=d2 C2 z Z r2 F b2;exact⟨v,Z,J1,J2,rfl,S1,S2,k _ C2 z (g.trans g2 l) (aq l l2) (bD4 c1 J) F (bo0 w1 w2 c1 J)⟩
variable {Γ:Gm} {X:Cx}
noncomputable def bX0:List Nat->TGs
 | []=>ci5
 | i::is=>bN9 (aD4 i) (bX0 is)
def gOf (K:ac):ny->TG
 | .Y i=>aD4 i
 | .tp is=>bY5 K is.length (bX0 is)
def br8 (E:RE Γ C H n U W)(r:RV Γ C H d v)(b:d.bnd n=true)(h:nW U i d=some U'):RE Γ C H n U' (W.set i (some v)):=by
 unfold nW at h;split at h
 .rename_i y;cases h;refine⟨by rw[bt,bt];exact E.len,λ j e hj=>?_⟩;by_cases hij:j=i
  .subst hij;rw[aX y]at hj;cases hj;exact⟨b,v,by rw[aX (by rw[<-E.len];exact y)],r⟩
  .rw[bI (d7 hij)]at hj;obtain⟨F,w,z,h3⟩:=E.val j e hj;exact⟨F,w,by rw[bI (d7 hij)];exact z,h3⟩
 .cases h
theorem bN1 :∀ is l y U U' W ,RE Γ C H n U W->RVL Γ C H l y->mr n l=true->om U is l=some U'->(∀ W',RE Γ C H n U' W'->Q W' H)->bX0 is y W H Q
 | [],[],y,U,U',W,E,r,_,h,k=>by
  cases h;exact⟨r.unnil,k W E⟩
 | [],d::l,_,_,_,_,_,_,_,h,_=>by cases h
 | i::is,[],_,_,_,_,_,_,_,h,_=>by cases h
 | i::is,d::l,y,U,U',W,E,r,b,h,k=>by
  have h:(nW U i d).bind (λ U=>om U is l)=some U':=h;obtain⟨x,z,rfl,G,F⟩:=r.uncons;unfold mr at b;rw[am]at b;cases e:nW U i d with
  | none=>rw[e]at h;cases h
  | some U1 =>
   rw[e]at h;exact⟨x,z,rfl,bN1 is l z U1 U' _ (br8 E G b.1 e) F b.2 h k⟩
def bg6 :∀ {is} {U U'},om U is l=some U'->is.length=l.length:=by
 induction l with
 | nil=>intro is U U' h;cases is with
  | nil=>rfl
  | cons i is=>cases h
 | cons d l ih=>intro is U U' h;cases is with
  | nil=>cases h
  | cons i is =>
   have h:(nW U i d).bind (λ U=>om U is l)=some U':=h;cases e:nW U i d with
   | none=>rw[e]at h;cases h
   | some U1=>rw[e]at h;rw[aE,aE,ih h]
def bl5 (E:RE Γ C H n U W)(r:RV Γ C H d v)(b:d.bnd n=true)(h:nk U tg d=some U')(k:∀ W',RE Γ C H n U' W'->Q W' H):gOf Γ.K tg v W H Q:=by
 cases tg with
 | Y i=>exact k _ (br8 E r b h)
 | tp is =>
  cases d with
  | tp l =>
   have h:=h;obtain⟨a,y,rfl,z,d1⟩:=r.tupE;unfold mD at b;exact⟨a,y,rfl,z,by rw[d1.length,bg6 h],bN1 is l y U U' W E d1 b h k⟩
  | _=>cases h
def Off (C:Nat->Addr)(s:mn)(b:Addr):Prop:=∀ i ob ,s[i]?=some ob->isMut ob=true->C i≠b
def Off.mono (h:Off C s b)(g:Gr C s H C' s' H')(hb:H b=some o):Off C' s' b:=λ i ob e m z=>by
 by_cases F:i<s.length
 .obtain⟨y,e0⟩:∃ y,s[i]?=some y:=⟨s[i],aj F⟩
  exact h i y e0 (g.mu i y ob e0 e m) (by rw[<-g.w.map i F];exact z)
 .have:=g.new i (by lia) (ah.mp e).1;rw[z,hb]at this;cases this
def Off.new (r:Rp Γ C H s)(h:H b=none):Off C s b:=λ i ob e m z=>by
 obtain⟨u,hu,_⟩:=(r.obj i ob e).there m;rw[z,h]at hu;cases hu
def Rp.foreign (r:Rp Γ C H s)(hb:H b=some (.J ys))(ho:Off C s b):Rp Γ C (upd H b (.J y)) s:=by
 have g:Gw C s.length H C (upd H b (.J y)):=⟨λ _ _=>rfl,(Kp.refl H).put hb rfl⟩
 exact⟨r.inj,λ i o e=>(r.obj i o e).mono g (r.wf i o e) λ m u hu=>by rw[zu (ho i o e m)];exact hu,r.wf,r.tab.put hb⟩
def Gr.foreign (g:Gr C s H C' s' H')(h0:H b=none)(hb:H' b=some (.J ys)):Gr C s H C' s' (upd H' b (.J z)):=by
 have ne:∀ c o,H c=some o->c≠b:=λ c o e=>zm e h0;refine⟨⟨g.w.map,λ c o e f=>?_⟩,g.le,g.new,g.kd,λ c hc=>?_,λ c o e y no=>?_⟩
 .rw[zu (ne c o e)];exact g.w.kp c o e f
 .unfold upd;split
  .simp
  .exact g.st c hc
 .rw[zu (ne c o e)];exact g.fr c o e y no
def bO3 (Γ:Gm)(C:Nat->Addr)(s:mn)(H:Hp)(l:List mq)(s':mn)(Q:VK):Prop :=
 ∀ p ys C' H',Gr C s H C' s' H'->s.length<=s'.length->mr s'.length l=true->H' p=some (.J ys)->H p=none->Off C' s' p->RVL Γ C' H' l ys->Rp Γ C' H' s'->Q (.ref p) H'
def TFv (Γ:Gm)(m:mv->mn->my (List mq)):TE:=λ W H Q=>∃ C U s l s',RE Γ C H s.length U W/\Rp Γ C H s/\m U s=.ok l s'/\bO3 Γ C s H l s' Q
def aW7 (h:TEv Γ (λ U s=>(m U s).bind λ l s=>nN (.J l) s) W H Q):TFv Γ m W H Q:=by
 obtain⟨C,U,s,d,s',E,R,hm,q⟩:=h;obtain⟨l,y,e1,hm⟩:=aa1 hm;obtain⟨rfl,rfl⟩:=zY hm;refine⟨C,U,s,l,y,E,R,e1,λ p ys C' H' g hl hb hp h0 ho r J=>?_⟩;have gw:Gw C' y.length H' (λ i=>if i=y.length then p else C' i) H':=⟨λ i z=>if_neg (aC z),Kp.refl _⟩
 have key:∀ i F ,(y++[DV.O.J l])[i]?=some F->(i<y.length/\y[i]?=some F)\/(i=y.length/\F=.J l):=λ i F e=>by
  rcases gE i y.length with h|h|h
  .rw[bh h]at e;exact .inl ⟨h,e⟩
  .subst h;simp at e;exact .inr ⟨rfl,e.symm⟩
  .rw[dB (by simp;lia)]at e;cases e
 have G:Gr C s H (λ i=>if i=y.length then p else C' i) (y++[.J l]) H':=by
  refine⟨⟨λ i z=>by skip;rw[if_neg (by lia)];exact g.w.map i z,g.w.kp⟩,by simp;lia,λ i h1 h2=>?_,λ i o F e e'=>?_,g.st,g.fr⟩
  .by_cases z:i=y.length
   .skip
    rw[if_pos z];exact h0
   .skip
    rw[if_neg z];exact g.new i h1 (by simp at h2;lia)
  .rcases key i F e' with⟨_,e2⟩|⟨z,_⟩
   .exact g.kd i o F e e2
   .have:=(ah.mp e).1;lia
 have P:Rp Γ (λ i=>if i=y.length then p else C' i) H' (y++[.J l]):=by
  refine⟨λ i j Z oj Y ej mi mj e=>?_,λ i o e=>?_,λ i o e=>?_,J.tab⟩
  .rcases key i Z Y with⟨z,Y⟩|⟨z,_⟩<;>rcases key j oj ej with⟨hj,ej⟩|⟨hj,_⟩
   .rw[if_neg (aC z),if_neg (aC hj)]at e;exact J.inj i j Z oj Y ej mi mj e
   .rw[if_neg (aC z),if_pos hj]at e;exact absurd e (ho i Z Y mi)
   .rw[if_neg (aC hj),if_pos z]at e;exact absurd e.symm (ho j oj ej mj)
   .rw[z,hj]
  .rcases key i o e with⟨z,e⟩|⟨z,rfl⟩
   .skip
    rw[if_neg (aC z)];exact(J.obj i o e).mono gw (J.wf i o e) λ _ u hu=>hu
   .skip
    rw[if_pos z];exact⟨ys,hp,RVL.monoW gw l ys hb r⟩
  .rw[ar,dA];rcases key i o e with⟨_,e⟩|⟨_,rfl⟩
   .exact zV (fw _) _ (J.wf i o e)
   .exact zV (fw _) _ (by unfold mH;exact hb)
 exact q (.ref p) _ H' G (by simp;omega) (by unfold mD;simp) (by unfold RV;simp) P
def br1 (E:RE Γ C H n U W) caps :RE Γ C H n (nQ U caps) (aE0 caps W):=by
 refine⟨by unfold nQ aE0;simp,λ i d e=>?_⟩;unfold nQ at e;rw[aY]at e;cases q:caps[i]? with
 | none=>rw[q]at e;cases e
 | some o =>
  rw[q]at e;cases o with
  | none=>cases e
  | some j =>
   have e':(U[j]?).join=some d:=aB e;have ej:U[j]?=some (some d):=by
    cases q2:U[j]? with
    | none=>rw[q2]at e';cases e'
    | some o2=>rw[q2]at e';exact congrArg some e'
   obtain⟨b,v,z,y⟩:=E.val j d ej;refine⟨b,v,?_,y⟩;unfold aE0;rw[aY,q];show some ((W[j]?).join)=_;rw[z];rfl
def bc2 
  (h:TFv Γ (λ U s=>(mI U s).bind λ q s0=>if q.its.length<=mG then nX (λ s=>mV s0 s q.src) (λ d U s=>match nk U tg d with
   | some U=>mM (mc U s) λ k s=>if k then(me U s).bind λ v s=>.ok (some v,U) s else .ok (none,U) s
   | none=>.B) q.its (nQ U caps) s0 else .B) W H Q):tComp caps (TIv Γ mI) (gOf Γ.K tg) (TTv Γ mc) (TEv Γ me) W H Q:=by
 obtain⟨C,U,s,l,s',E,R,hm,k⟩:=h;obtain⟨q,s0,e1,hm⟩:=aa1 hm;split at hm
 case isFalse=>exact fb hm
 rename_i hlim;refine⟨C,U,s,q,s0,E,R,e1,λ J C1 H1 g1 l1 b1 R1 wk D hD=>?_⟩;have h0:H D=none:=by
  cases e:H D with
  | none=>rfl
  | some o=>exact absurd hD (g1.st D (by rw[e];simp))
 refine⟨λ i m W' H'=>∃ C' U' t y ys rest,Gr C1 s0 H1 C' t H'/\Rp Γ C' H' t/\RE Γ C' H' t.length U' W'/\H' D=some (.J ys)/\Off C' t D/\RVL Γ C' H' y ys/\mr t.length y=true/\y.length<=i/\i<=q.its.length/\m=q.its.length - i /\
  nX (λ s=>mV s0 s q.src) (λ d U s=>match nk U tg d with
   | some U=>mM (mc U s) λ k s=>if k then(me U s).bind λ v s=>.ok (some v,U) s else .ok (none,U) s
   | none=>.B) (q.its.drop i) U' t=.ok rest s'/\l=y++rest,⟨q.its.length,?_⟩,?_⟩
 .obtain⟨g2,R2⟩:=R1.same ((af2.refl H1).new hD);exact⟨C1,nQ U caps,s0,[],[],l,g2,R2,br1 ((E.mono g1 l1).mono g2 (av _)) caps,zo,Off.new R1 hD,.nil,rfl,av _,cA _,by simp,by rw[cB];exact hm,rfl⟩
 .rintro i m W' H' ⟨C',U',t,y,ys,rest,g,R',E',hy,a1,ra,ba,a9,b0,rfl,hc,hl⟩
  have F:=g.le;rcases j9 i q.its.length with hlt|hge
  .have hd:=aj hlt;rw[dS hlt]at hc;unfold nX at hc;split at hc
   case isFalse=>exact fb hc
   rename_i a0;obtain⟨a7,a8⟩:=(wk C' H' t g F R' a0 i).1 hlt;refine .inr ⟨a7,_,λ W2 H2 n=>⟨q.its.length - (i+1),by omega,n⟩,λ x H2 a5=>?_⟩;obtain⟨sm,rv⟩:=a8 x H2 a5;obtain⟨g2,R2⟩:=R'.same sm;have rd:=rv _ hd;have bd:=zg F _ (am7 b1 hd);obtain⟨p,t3,hs,hc⟩:=aa1 hc;obtain⟨r2,t4,a4,hc⟩:=aa1 hc;cases hb:nk U' tg q.its[i]with
   | none=>rw[hb]at hs;cases hs
   | some U3 =>
    rw[hb]at hs;refine bl5 (E'.mono g2 (av _)) rd bd hb λ W3 E3=>?_;obtain⟨c,t1,ec,hs⟩:=zE hs;refine⟨C',U3,t,c,t1,E3,R2,ec,λ C2 H4 g4 l4 R4=>?_⟩;have a3:=sm _ _ hy;have a2:=g4.fr D _ a3 (by nofun) a1;have G:=a1.mono g4 a3;have G4:=(g.trans g2 F).trans g4 F;cases c with
    | true =>
     rw[if_pos rfl]at hs;refine iteT ?_;obtain⟨v,t2,ev,hs⟩:=aa1 hs;cases hs;refine⟨C2,U3,t1,v,t3,E3.mono g4 l4,R4,ev,λ w C3 H5 g5 l5 b5 r5 R5=>?_⟩;have Y:=g5.fr D _ a2 (by nofun) G;have Z:=G.mono g5 a2;refine⟨ys,Y,?_,?_⟩
     .rw[ra.length];have:=zM;lia
     .have gw:Gw C3 t3.length H5 C3 (upd H5 D (.J (ys++[w]))):=⟨λ _ _=>rfl,(Kp.refl H5).put Y rfl⟩
      have G5:=G4.trans g5 (aq F l4);have GG:=g2.trans (g4.trans g5 l4) (av _);have a6:=RVL.mono GG _ _ ba ra;have bb:mr t3.length (y++[v])=true:=qb (ad0 GG.le _ ba) (by unfold mr;rw[b5];rfl);refine⟨C3,U3,t3,y++[v],ys++[w],r2,G5.foreign hD Y,R5.foreign Y Z,?_,zo,Z,RVL.monoW gw _ _ bb (a6.append (.cons r5 .nil)),bb,by simp;omega,hlt,rfl,?_,?_⟩
      .have E5:=(E3.mono g4 l4).mono g5 l5;exact⟨E5.len,λ j e hj=>by
        obtain⟨h1,z,h2,h3⟩:=E5.val j e hj;exact⟨h1,z,h2,RV.monoW gw _ _ h1 h3⟩⟩
      .cases hc;exact a4
      .cases hc;rw[hl];simp
    | false =>
     rw[if_neg aI]at hs;refine ck7 ?_;cases hs;have GG:=g2.trans g4 (av _);exact⟨C2,U3,t3,y,ys,r2,G4,R4,E3.mono g4 l4,a2,G,RVL.mono GG _ _ ba ra,ad0 l4 _ ba,by lia,hlt,rfl,by cases hc;exact a4,by cases hc;exact hl⟩
  .have hi:=by omega
   rw[eR hge]at hc;unfold nX at hc;split at hc
   case isFalse=>exact fb hc
   rename_i a0;cases hc;refine .inl ⟨(wk C' H' s' g F R' a0 i).2 hge,?_⟩;rw[az]at hl;subst hl;exact k D ys C' H' (g1.trans g l1) (aq l1 F) ba hy h0 a1 ra R'
variable {Γ:Gm} {X:Cx}
def cg4 (Γ:Gm)(C:Nat->Addr)(H:Hp)(n:Nat)(D:Ends):nD->Prop
 | .next U=>∀ W,RE Γ C H n U W->D.nx W H
 | .ret d=>∀ v,d.bnd n=true->RV Γ C H d v->D.rt v H
 | .cont U=>∀ W,RE Γ C H n U W->D.ct W H
 | .brk U=>∀ W,RE Γ C H n U W->D.bk W H
def ao1 (Γ:Gm)(C:Nat->Addr)(s:mn)(H:Hp)(c:nD)(s':mn)(D:Ends):Prop :=
 ∀ C' H',Gr C s H C' s' H'->s.length<=s'.length->Rp Γ C' H' s'->cg4 Γ C' H' s'.length D c
def TSv (Γ:Gm)(m:mv->mn->my nD):TS:=λ D W H=>∃ C U s c s',RE Γ C H s.length U W/\Rp Γ C H s/\m U s=.ok c s'/\ao1 Γ C s H c s' D
def PS.imp (h:PS X e t)(i:∀ D W H,t' D W H->t D W H):PS X e t':=λ y s W H Q I q=>h y s W H Q I (i Q W H q)
def PSs.imp (h:PSs X e t)(i:∀ D W H,t' D W H->t D W H):PSs X e t':=λ y s W H Q I q=>h y s W H Q I (i Q W H q)
theorem ao1.trans {D}(h:ao1 Γ C s H c s' D)(g:Gr C s H C1 y z)(l:s.length<=y.length):ao1 Γ C1 y z c s' D :=
 λ C' H' g' F p=>h C' H' (g.trans g' l) (aq l F) p
def ao1.here {D}(h:ao1 Γ C s H c s D)(p:Rp Γ C H s):cg4 Γ C H s.length D c:=h C H (Gr.refl C s H) (av _) p
variable {D:Ends} {W:St} {H:Hp}
def bE5 (hm:∀ U s,m U s=.ok (.next U) s)(h:TSv Γ m D W H):bQ1 D W H:=by
 obtain⟨C,U,s,c,s',E,R,e,q⟩:=h;rw[hm]at e;cases e;exact q.here R W E
def bN2 (h:TSv Γ (λ U s=>(m U s).bind λ d s=>.ok (.ret d) s) D W H):ci3 (TEv Γ m) D W H:=by
 obtain⟨C,U,s,c,s',E,R,e,q⟩:=h;obtain⟨x,z,e1,e⟩:=aa1 e;cases e;exact⟨C,U,s,x,_,E,R,e1,λ v C1 y g1 l1 b1 r1 R1=>q C1 y g1 l1 R1 v b1 r1⟩
def bE4 (h:TSv Γ (λ U s=>(m U s).bind λ _ s=>.ok (.next U) s) D W H):bN8 (TEv Γ m) D W H:=by
 obtain⟨C,U,s,c,s',E,R,e,q⟩:=h;obtain⟨x,z,e1,e⟩:=aa1 e;cases e;exact⟨C,U,s,x,_,E,R,e1,λ v C1 y g1 l1 b1 r1 R1=>q C1 y g1 l1 R1 W (E.mono g1 l1)⟩
def bc7 (h:TSv Γ (λ U s=>(m U s).bind λ d s=>match nk U tg d with|some U=>.ok (.next U) s|none=>.B) D W H):bj1 (TEv Γ m) (gOf Γ.K tg) D W H:=by
 obtain⟨C,U,s,c,s',E,R,e,q⟩:=h;obtain⟨x,z,e1,e⟩:=aa1 e;refine⟨C,U,s,x,z,E,R,e1,λ v C1 y g1 l1 b1 r1 R1=>?_⟩;cases hb:nk U tg x with
 | none=>rw[hb]at e;cases e
 | some U1 =>
  rw[hb]at e;cases e;exact bl5 (E.mono g1 l1) r1 b1 hb λ W' F=>q C1 y g1 l1 R1 W' F
def bn7 (h:TSv Γ (λ U s=>((m U s).bind λ l s=>nN (.J l) s).bind λ d s=>match nk U tg d with|some U=>.ok (.next U) s|none=>.B) D W H):bj1 (TFv Γ m) (gOf Γ.K tg) D W H :=
 aW7 (bc7 h)
def bK5 (Γ:Gm):bX2:=λ o i v H Q=>∃ C s x y d s',Rp Γ C H s/\RV Γ C H x o/\RV Γ C H y i/\RV Γ C H d v/\x.bnd s.length=true/\y.bnd s.length=true/\d.bnd s.length=true/\DV.setIx x y d s=.ok () s' /\
 ∀ C' H',Gr C s H C' s' H'->s.length<=s'.length->Rp Γ C' H' s'->Q H'
def bi6 (h:TSv Γ (λ U s=>(me U s).bind λ d s=>(mo U s).bind λ x s=>(mi U s).bind λ y s=>(DV.setIx x y d s).bind λ _ s=>.ok (.next U) s) D W H) :
  bj1 (TEv Γ me) (cg7 (TEv Γ mo) (TEv Γ mi) (bK5 Γ)) D W H:=by
 obtain⟨C,U,s,c,s',E,R,e,q⟩:=h;obtain⟨d,J,e1,e⟩:=aa1 e;obtain⟨x,s2,e2,e⟩:=aa1 e;obtain⟨y,s3,e3,e⟩:=aa1 e;obtain⟨u,s4,e4,e⟩:=aa1 e;cases e;refine⟨C,U,s,d,J,E,R,e1,λ v1 C1 H1 g1 l1 b1 r1 R1=>?_⟩;refine⟨C1,U,J,x,s2,E.mono g1 l1,R1,e2,λ v2 C2 H2 Z G Y r2 R2=>?_⟩;have G2:=g1.trans Z l1;have L2:=aq l1 G;refine⟨C2,U,s2,y,s3,E.mono G2 L2,R2,e3,λ v3 C3 H3 F z b3 r3 R3=>?_⟩;refine⟨C3,s3,x,y,d,_,R3,RV.mono F x v2 Y r2,r3,RV.mono (Z.trans F G) d v1 b1 r1,zg z x Y,b3,zg (aq G z) d b1,e4,λ C4 H4 g4 l4 R4=>?_⟩;have G3:=G2.trans F L2;have L3:=aq L2 z;exact q C4 H4 (G3.trans g4 L3) (aq L3 l4) R4 W (E.mono (G3.trans g4 L3) (aq L3 l4))
def bJ8 (hu:X.A.units+2<cLine):cf1 X (bK5 Γ):=by
 intro F sh W H o i v ov iv u Q I ro Z rv h;obtain⟨C,s,x,y,d,s',R,Y,ry,rd,bx,a0,bd,hm,q⟩:=h;cases x with
 | ref r =>
  have hm:(match s[r]? with
   | some (.J l)=>(match y with
    | .int i=>(match nP l.length i with|some j=>DV.R.ok () (s.set r (.J (l.set j d)))|none=>.B)
    | _=>.B)
   | _=>.B)=.ok () s':=hm
  cases e:s[r]? with
  | none=>rw[e]at hm;cases hm
  | some ob =>
   rw[e]at hm;cases ob with
   | J l =>
    cases y with
    | int k =>
     have hm:(match nP l.length k with|some j=>DV.R.ok () (s.set r (.J (l.set j d)))|none=>.B)=.ok () s':=hm;cases ej:nP l.length k with
     | none=>rw[ej]at hm;cases hm
     | some j =>
      rw[ej]at hm;cases hm;obtain⟨J,h1,G⟩:=R.addr e;have hb:mr s.length (l.set j d)=true:=ab6.mpr λ z hz=>by
       rcases List.mem_or_eq_of_mem_set hz with h|h
       .exact ab6.mp (by have:=R.wf r _ e;unfold mH at this;exact this) z h
       .subst h;exact bd
      refine bk9 F sh W H o i v ov iv u Q I ro Z rv ⟨C r,J,k,j,Y.refE,ry.intE,h1,?_,?_⟩
      .rw[G.length];exact ej
      .obtain⟨g,R'⟩:=R.set (o:=.J (l.set j d)) e rfl hb λ H' g e=>⟨_,e,RVL.monoW g _ _ hb (G.set j rd)⟩
       exact q _ _ g (by simp) R'
    | _=>exact fb hm
   | _=>exact fb hm
 | _=>exact fb hm
def ca6 (h:TSv Γ (λ U s=>mM (mc U s) λ k s=>if k then F U s else z U s) D W H):cg5 (TTv Γ mc) (TSv Γ F) (TSv Γ z) D W H:=by
 obtain⟨C,U,s,d,s',E,R,hm,q⟩:=h;obtain⟨c,y,e1,hm⟩:=zE hm;refine⟨C,U,s,c,y,E,R,e1,λ C1 G g1 l1 R1=>?_⟩;cases c with
 | true =>
  rw[if_pos rfl]at hm ⊢;exact⟨C1,U,y,d,s',E.mono g1 l1,R1,hm,q.trans g1 l1⟩
 | false =>
  rw[if_neg aI]at hm ⊢;exact⟨C1,U,y,d,s',E.mono g1 l1,R1,hm,q.trans g1 l1⟩
def br7 (h:TSv Γ (λ U s=>(G U s).bind λ c s=>match c with|.next U=>z U s|c=>.ok c s) D W H):ce4 (TSv Γ G) (TSv Γ z) D W H:=by
 obtain⟨C,U,s,c,s',E,R,hm,q⟩:=h;obtain⟨J,F,e1,hm⟩:=aa1 hm;refine⟨C,U,s,J,F,E,R,e1,λ C1 y g1 l1 R1=>?_⟩;cases J with
 | next U1=>exact λ W1 Y=>⟨C1,U1,F,c,s',Y,R1,hm,q.trans g1 l1⟩
 | ret d=>cases hm;exact q C1 y g1 l1 R1
 | cont U=>cases hm;exact q C1 y g1 l1 R1
 | brk U=>cases hm;exact q C1 y g1 l1 R1
def bi2 (h:TSv Γ (DV.whl mc y) D W H):bq4 (TTv Γ mc) (TSv Γ y) D W H:=by
 obtain⟨C,U,s,c,s',E,R,hm,q⟩:=h;unfold DV.whl at hm;split at hm
 case isFalse=>exact fb hm
 rename_i hn;generalize hn.choose=n at hm;refine⟨λ n W H=>∃ C U s,RE Γ C H s.length U W/\Rp Γ C H s/\DV.ah8 mc y n U s=.ok c s'/\ao1 Γ C s H c s' D,⟨n,C,U,s,E,R,hm,q⟩,?_⟩;clear E R hm q hn
 rintro n W H ⟨C,U,s,E,R,hm,q⟩
 cases n with
 | zero=>exact fb hm
 | succ n =>
  unfold DV.ah8 at hm;obtain⟨b,F,e1,hm⟩:=zE hm;refine⟨C,U,s,b,F,E,R,e1,λ C1 Z g1 l1 R1=>?_⟩;cases b with
  | false =>
   rw[if_neg aI]at hm ⊢;cases hm;exact q C1 Z g1 l1 R1 W (E.mono g1 l1)
  | true =>
   rw[if_pos rfl]at hm ⊢;obtain⟨J,s2,e2,hm⟩:=aa1 hm;refine⟨_,λ W' H' w=>⟨n,dM n,w⟩,C1,U,F,J,s2,E.mono g1 l1,R1,e2,λ C2 Y g2 l2 R2=>?_⟩;have G:=g1.trans g2 l1;have L:=aq l1 l2;cases J with
   | next U1=>exact λ W1 z=>⟨C2,U1,s2,z,R2,hm,q.trans G L⟩
   | cont U1=>exact λ W1 z=>⟨C2,U1,s2,z,R2,hm,q.trans G L⟩
   | ret d=>cases hm;exact q C2 Y G L R2
   | brk U=>cases hm;exact q C2 Y G L R2
def bQ3 (h:TSv Γ (λ U s=>(mI U s).bind λ q s0=>oC (λ s=>mV s0 s q.src) (λ d U s=>match nk U tg d with
  | some U=>mb U s
  | none=>.B) q.its U s0) D W H):ch3 (TIv Γ mI) (gOf Γ.K tg) (TSv Γ mb) D W H:=by
 obtain⟨C,U,s,c,s',E,R,hm,k⟩:=h;obtain⟨q,s0,e1,hm⟩:=aa1 hm;refine⟨C,U,s,q,s0,E,R,e1,λ J C1 H1 g1 l1 b1 R1 wk=>?_⟩;refine⟨λ i m W' H'=>∃ C' U' t,Gr C1 s0 H1 C' t H'/\Rp Γ C' H' t/\RE Γ C' H' t.length U' W'/\i<=q.its.length/\m=q.its.length - i /\
  oC (λ s=>mV s0 s q.src) (λ d U s=>match nk U tg d with
   | some U=>mb U s
   | none=>.B) (q.its.drop i) U' t=.ok c s',⟨q.its.length,?_⟩,?_⟩
 .exact⟨C1,U,s0,Gr.refl _ _ _,R1,E.mono g1 l1,cA _,by simp,by rw[cB];exact hm⟩
 .rintro i m W' H' ⟨C',U',t,g,F,E',a2,rfl,hc⟩
  have y:=g.le;rcases j9 i q.its.length with hlt|hge
  .have hd:=aj hlt;rw[dS hlt]at hc;unfold oC at hc;split at hc
   case isFalse=>exact fb hc
   rename_i z;obtain⟨Z,a0⟩:=(wk C' H' t g y F z i).1 hlt;refine .inr ⟨Z,_,λ W2 H2 n=>⟨q.its.length - (i+1),by omega,n⟩,λ x H2 a1=>?_⟩;obtain⟨sm,rv⟩:=a0 x H2 a1;obtain⟨g2,R2⟩:=F.same sm;have rd:=rv _ hd;have bd:=zg y _ (am7 b1 hd);obtain⟨c1,Y,hs,hc⟩:=aa1 hc;cases hb:nk U' tg q.its[i]with
   | none=>rw[hb]at hs;cases hs
   | some U3 =>
    rw[hb]at hs;refine bl5 (E'.mono g2 (av _)) rd bd hb λ W3 E3=>?_;refine⟨C',U3,t,c1,Y,E3,R2,hs,λ C2 H4 g4 l4 G=>?_⟩;have G4:=(g.trans g2 y).trans g4 y;have L4:=aq y l4;have GG:=g1.trans G4 l1;cases c1 with
    | next U1=>exact λ W1 E1=>⟨C2,U1,Y,G4,G,E1,hlt,rfl,hc⟩
    | cont U1=>exact λ W1 E1=>⟨C2,U1,Y,G4,G,E1,hlt,rfl,hc⟩
    | ret d=>cases hc;exact k C2 H4 GG (aq l1 L4) G
    | brk U=>cases hc;exact k C2 H4 GG (aq l1 L4) G
  .rw[eR hge]at hc;unfold oC at hc;split at hc
   case isFalse=>exact fb hc
   rename_i z;cases hc;exact .inl ⟨(wk C' H' s' g y F z i).2 hge,k C' H' (g1.trans g l1) (aq l1 y) F W' E'⟩
structure Ck where
 N:List Str
 sc:Scope
 lk:String->List Nat->Expr->Bool
noncomputable def Ck.vis (c:Ck)(x:Str):Bool:=match c.sc.names.lookup x with|some .local=>true|some .cell=>true|some .free=>true|_=>false
noncomputable def Ck.loc (c:Ck)(x:Str):Bool:=match c.sc.names.lookup x with|some .local=>true|some .cell=>true|_=>false
noncomputable def Ck.gl (c:Ck)(x:Str):Bool:=(match c.sc.names.lookup x with|some .globalImplicit=>true|_=>false)&&!(x==("__debug__"))&&!decide (x=("__name__"))
noncomputable def Ck.var (c:Ck)(i:Nat)(x:Str):Bool:=decide (c.N[i]?=some x)&&c.vis x&&!(x==("__debug__"))&&!(x==("__classdict__"))
noncomputable def shp:Expr->Bool
 | .Starred ..=>false
 | .Set ..=>false
 | .SetComp ..=>false
 | .DictComp ..=>false
 | .GeneratorExp ..=>false
 | .Slice ..=>false
 | .NamedExpr ..=>false
 | _=>true
noncomputable def ar2:Expr->Bool
 | .ListComp ..=>false
 | .SetComp ..=>false
 | .DictComp ..=>false
 | _=>true
noncomputable def bV8:Expr->Bool
 | .Tuple ..=>false
 | _=>true
noncomputable def bv1:Expr->Bool
 | .Call _ [] [] _=>false
 | _=>true
noncomputable def mC:DV.Cn->Const->Bool
 | .N,.none=>true
 | .T b,.bool c=>b==c
 | .int i,.int j=>decide (i=j)
 | .str x,.str y=>decide (y=⟨x.toArray⟩)&&decide (x.length<=1000)
 | _,_=>false
noncomputable def bW5 (ck:Ck):List Nat->List Expr->Bool
 | [],[]=>true
 | i::is,.Name x _::es=>decide (ck.N[i]?=some x)&&ck.loc x&&bW5 ck is es
 | _,_=>false
def mTg (ck:Ck):ny->Expr->Bool
 | .Y i,.Name x _=>decide (ck.N[i]?=some x)&&ck.loc x
 | .tp is,.Tuple es _ _=>bW5 ck is es
 | _,_=>false
noncomputable def tgN:Expr->List Str
 | .Name x _=>[x]
 | .Tuple es _ _=>es.filterMap λ e=>match e with|.Name x _=>some x|_=>none
 | _=>[]
structure ItT where
 x:Str
 y:Str
 ob:Expr
 sc:Scope
 p1:Pos
 p2:Pos
 p3:Pos
 p4:Pos
 p5:Pos
 p6:Pos
 p7:Pos
 k1:Nat
 k2:Nat
 ap:Pos
 cp:Pos
 pos:Pos
noncomputable def ItT.tg (q:ItT):Expr:=.Tuple [.Name q.x q.p5,.Name q.y q.p6] q.k2 q.p7
noncomputable def ItT.it (q:ItT):Expr:=.Call (.Attribute q.ob "items" q.ap) [] [] q.cp
noncomputable def ItT.text (q:ItT):Expr:=.ListComp (.BinOp (.Name q.x q.p1) .Add (.Tuple [.Name q.y q.p2] q.k1 q.p3) q.p4) [⟨q.tg,q.it,[],0⟩] q.sc q.pos
def ckC (ck:Ck)(tgt:Expr)(caps:yE)(scope:Scope):Ck:=⟨tgN tgt++(caps.filterMap id).map λ j=>ck.N.getD j "",scope,λ _ _ _=>false⟩
def aI5 (ck:Ck)(tg:ny)(tgt iter:Expr)(caps:yE)(scope:Scope):Bool :=
 zF (ckC ck tgt caps scope).N caps scope ck.N ck.sc&&decide ((ckC ck tgt caps scope).N.Nodup)&&mTg (ckC ck tgt caps scope) tg tgt&&shp iter
noncomputable def bQ8:Expr->Bool
 | .Tuple ..=>true
 | _=>false
noncomputable def biT:nB->Option Str
 | .len=>some "len" | .abs=>some "abs" | .min2=>some "min" | .max2=>some "max" | .int=>some "int" | .str=>some "str" | _=>none
noncomputable def biK:nB->Option (Nat×Str)
 | .isInt=>some (1, "int")|.isBool=>some (2, "bool")|.isStr=>some (3, "str")|.isTup=>some (4, "tuple")|.isList=>some (5, "list")|_=>none
noncomputable def mkT:ot->Option Str
 | .tuple=>some "tuple" | .list=>some "list" | _=>none
noncomputable def mkF:ot->Option Str
 | .all=>some "all" | .min=>some "min" | _=>none
noncomputable def mtT:ou->Option (Str×Nat)
 | .append=>some ("append",1)|_=>none
def bX8 (ck:Ck)(b:nB)(x:Str)(xs:yL)(m1 m2:Bool):Bool:=match biK b with
 | some p=>(match xs with|[_,.Name y _]=>decide (x=("isinstance"))&&ck.gl x&&decide (y=p.2)&&ck.gl y&&m2|_=>false)
 | none=>(match xs with|_::_=>decide (biT b=some x)&&ck.gl x&&m1|[]=>false)
mutual
noncomputable def mE (ck:Ck):nY->Expr->Bool
 | .X i,E=>match E with|.Name x _=>ck.var i x|_=>false
 | .K c,E=>match E with|.Constant v _ _=>mC c v|_=>false
 | .gl g,E=>match E with|.Name x _=>decide (x=(g:Str))&&ck.gl x|_=>false
 | .G op a b,E=>match E with|.BinOp l o r _=>decide (o=cc3 op)&&mE ck a l&&mE ck b r|_=>false
 | .neg a,E=>match E with|.UnaryOp .USub l _=>mE ck a l|_=>false
 | .not a,E=>match E with|.UnaryOp .Not l _=>mE ck a l|_=>false
 | .Z op a b,E=>match E with|.Compare l [o] [r] _=>decide (o=at1 op)&&mE ck a l&&mE ck b r|_=>false
 | .chain o p a b c,E=>match E with|.Compare l [o1,o2] [m,r] _=>decide (o1=at1 o)&&decide (o2=at1 p)&&mE ck a l&&mE ck b m&&mE ck c r|_=>false
 | .isN a,E=>match E with|.Compare l [.Is] [.Constant .none _ _] _=>mE ck a l|_=>false
 | .and a b,E=>match E with
  | .BoolOp .And [l,r] _=>mE ck a l&&mE ck b r
  | .BoolOp .And (l::m::r::es) p=>mE ck a l&&mE ck b (.BoolOp .And (m::r::es) p)
  | _=>false
 | .or a b,E=>match E with
  | .BoolOp .Or [l,r] _=>mE ck a l&&mE ck b r
  | .BoolOp .Or (l::m::r::es) p=>mE ck a l&&mE ck b (.BoolOp .Or (m::r::es) p)
  | _=>false
 | .ite c a b,E=>match E with|.IfExp t l r _=>mE ck c t&&mE ck a l&&mE ck b r|_=>false
 | .tp es,E=>match E with|.Tuple xs _ _=>mEs ck es xs&&decide (xs.length<=1000)|_=>false
 | .J es,E=>match E with|.List xs _=>mEs ck es xs&&decide (xs.length<=1000)|_=>false
 | .slL a lo,E=>match E with|.Subscript o (.Slice (some l) none none _) _=>mE ck a o&&mE ck lo l|_=>false
 | .slU a hi,E=>match E with|.Subscript o (.Slice none (some h) none _) _=>mE ck a o&&mE ck hi h|_=>false
 | .ix a b,E=>match E with|.Subscript o i _=>mE ck a o&&mE ck b i|_=>false
 | .call f as,E=>match E with|.Call (.Name x _) xs [] _=>decide (x=(f:Str))&&ck.gl x&&mAs ck as xs|_=>false
 | .bi b es,E=>match E with|.Call (.Name x _) xs [] _=>bX8 ck b x xs (mEs ck es xs) (mEs ck es (xs.take 1))|_=>false
 | .mk k l,E=>match E with
  | .Call (.Name x _) [a] [] _=>ck.gl x&&shp a&&((decide (mkT k=some x)&&mL ck 2 l a)||(decide (mkF k=some x)&&mL ck 1 l a))
  | .ListComp e gs sc p=>decide (k=.list)&&mL ck 0 l (.ListComp e gs sc p)
  | _=>false
 | .me m o es,E=>match E with
  | .Call (.Attribute ob x ap) xs [] cp=>decide (mtT m=some (x,xs.length))&&bv1 ob&&(ap.endLine==cp.line)&&mE ck o ob&&mEs ck es xs
  | _=>false
 | .spl o c,E=>match E with
  | .Call (.Attribute ob x ap) [a] [] cp=>(match a with|.Constant v _ _=>decide (v=.str ⟨#[c]⟩)|_=>false)&&decide (x=("split":Str))&&bv1 ob&&(ap.endLine==cp.line)&&mE ck o ob
  | _=>false
 | .join o e,E=>match E with
  | .Call (.Attribute ob x ap) [a] [] cp=>decide (x=("join":Str))&&bv1 ob&&(ap.endLine==cp.line)&&mE ck o ob&&mE ck e a&&shp a
  | _=>false
noncomputable def mEs (ck:Ck):mW->List Expr->Bool
 | .nil,xs=>match xs with|[]=>true|_=>false
 | .cons e es,xs=>match xs with|x::xs=>mE ck e x&&shp x&&mEs ck es xs|_=>false
noncomputable def mFs (ck:Ck):mW->List Expr->Bool
 | .nil,xs=>match xs with|[]=>true|_=>false
 | .cons e es,xs=>match xs with
  | .FormattedValue v c none _::xs=>decide (c=-1)&&mE ck e v&&mFs ck es xs
  | .Constant v j p::xs=>mE ck e (.Constant v j p)&&mFs ck es xs
  | _=>false
noncomputable def mAs (ck:Ck):nR->List Expr->Bool
 | .nil,xs=>match xs with|[]=>true|_=>false
 | .ex e es,xs=>match xs with|x::xs=>mE ck e x&&shp x&&mAs ck es xs|_=>false
 | .fn _ _,_=>false
noncomputable def ch8 (ck:Ck):nR->List Expr->Bool
 | .nil,xs=>match xs with|[]=>true|_=>false
 | .ex e es,xs=>match xs with|x::xs=>mE ck e x&&shp x&&ch8 ck es xs|_=>false
 | .fn _ _,_=>false
noncomputable def mI (ck:Ck)(tgt:Expr):DV.I->Expr->Bool
 | .rg a,E=>match E with|.Call (.Name x _) [l] [] _=>decide (x=("range":Str))&&ck.gl x&&mE ck a l&&shp l|_=>false
 | .seq e,x=>mE ck e x&&shp x
 | .zip (.seq a) (.seq b),E=>match E with|.Call (.Name x _) [l,r] [] _=>decide (x=("zip":Str))&&ck.gl x&&mE ck a l&&shp l&&mE ck b r&&shp r&&bQ8 tgt|_=>false
 | .zip _ _,_=>false
noncomputable def mL (ck:Ck)(k:Nat):DV.L->Expr->Bool
 | .comp tg it e caps,E=>match E with|.ListComp elt [⟨tgt,iter,[],z⟩] scope _=>decide (z=0)&&aI5 ck tg tgt iter caps scope&&mI ck tgt it iter&&mE (ckC ck tgt caps scope) e elt|_=>false
 | .compIf tg it c e caps,E=>match E with|.ListComp elt [⟨tgt,iter,[i],z⟩] scope _=>decide (z=0)&&aI5 ck tg tgt iter caps scope&&mI ck tgt it iter&&mE (ckC ck tgt caps scope) c i&&mE (ckC ck tgt caps scope) e elt|_=>false
 | .disp es,E=>match E with|.List xs _=>decide (1<=k)&&mEs ck es xs&&decide (xs.length<=1000)|_=>false
 | .seq e,x=>decide (k=2)&&mE ck e x
end
def ff {p:Prop}(h:false=true):p:=kF h
mutual
noncomputable def mS (ck:Ck):DV.S->Stmt->Bool
 | .A tg e,S=>match S with
  | .Assign [t] v _=>mTg ck tg t&&mE ck e v&&(match tg with|.Y _=>true|.tp _=>bV8 v&&ar2 v)
  | _=>false
 | .setIx o i e,S=>match S with|.Assign [.Subscript ob ix _] v _=>mE ck o ob&&mE ck i ix&&mE ck e v&&ar2 v|_=>false
 | .ex e,S=>match S with|.Expr v _=>mE ck e v&&ar2 v|_=>false
 | .ret e,S=>match S with|.Return (some v) _=>mE ck e v|_=>false
 | .ite c a b,S=>match S with|.If t l r _=>mE ck c t&&mSs ck a l&&mSs ck b r|_=>false
 | .whl c b,S=>match S with|.While t l [] _=>mE ck c t&&mSs ck b l|_=>false
 | .fo tg it b,S=>match S with|.For tgt iter l [] _=>mTg ck tg tgt&&mI ck tgt it iter&&mSs ck b l|_=>false
 | .raise,_=>true
noncomputable def mSs (ck:Ck):oK->List Stmt->Bool
 | .nil,xs=>match xs with|[]=>true|_=>false
 | .cons s ss,xs=>match xs with|x::xs=>(mS ck s x&&mSs ck ss xs)|_=>false
end
def av3 (h:mE y e E=true):shp E=true:=by
 cases E<;>first|rfl|(exfalso;cases e<;>exact ff h)
def bQ4 (h:mI z y e E=true):shp E=true:=by
 cases e with
 | seq e=>have h:(mE z e E&&shp E)=true:=h;rw[am]at h;exact h.2
 | zip a b=>cases E<;>first|rfl|(exfalso;cases a<;>first|exact ff h|(cases b<;>exact ff h))
 | _=>cases E<;>first|rfl|exact ff h
def zc {es:yL}(h:shp e=true):bD (e::es) env=(false,eval e env)::bD es env:=by
 cases e<;>first|rfl|cases h
theorem zI :∀ {es:yL},(∀ e∈es,shp e=true)->(eY pos (bD es env)).any (·.1)=false/\(eY pos (bD es env)).all (λ x=>!x.1)=true
 | [],_=>⟨rfl,rfl⟩
 | e::es,h=>by
  have z:=zc (es:=es) (env:=env) (h e (au ..));obtain⟨y,h3⟩:=zI (env:=env) (pos:=pos) λ x hx=>h x (ai _ hx);rw[z];unfold eY at y h3 ⊢;simp only[aF,gQ,ci,y,h3];exact⟨rfl,rfl⟩
def az4 (h:shp e=true) x :cD e env x=pure x:=by
 cases e<;>first|rfl|cases h
def ao5 (h:shp e=true):c7 op e=false:=by
 cases e<;>first|rfl|cases h
def aq0 (h:ar2 e=true):eZ e t l env=pure false:=by
 cases e<;>first|rfl|cases h
def ay8 (h:bv1 e=true):gN e f env (eval e env)=eval e env:=by
 cases e with
 | Call g a k p =>
  cases g with
  | Name x p' =>
   cases a with
   | nil=>cases k with
    | nil=>cases h
    | cons _ _=>rfl
   | cons _ _=>rfl
  | _=>rfl
 | _=>rfl
def aT9 {es:yL}(h:bV8 e=true):gI [.Tuple es k p] e env=pure none:=by
 cases e<;>first|rfl|cases h
def aU0 :gI [.Subscript o i p] e env=pure none:=by
 cases e<;>rfl
def au8 (h:shp e=true):ba5 e:=by
 intro o i;cases e<;>first|rfl|cases h
def spV (Γ:Gm)(c:List mq->mn->my mq):Sp:=λ vs H Q _=>rCl Γ c vs H Q
noncomputable def bNames:List Str:=["len", "abs", "min", "max", "int", "isinstance", "bool", "str", "tuple", "list", "range", "sum", "all", "any", "sorted", "zip", "enumerate", "ord"]
noncomputable def LamI.own (J:LamI):Str:=match J.nm with|none => "<lambda>" | some p=>p.1
noncomputable def strD (kvs:List (List Nat×List Nat)):List (PyData×PyData):=kvs.map λ p=>(.str ⟨p.1.toArray⟩,.str ⟨p.2.toArray⟩)
structure CG (Γ:Gm)(F:mK)(n:Nat)(X:Cx)(ck:Ck):Prop where
 K:X.K=Γ.K
 N:X.N=ck.N
 nd:ck.N.Nodup
 xe:X.xe=λ _ _=>False
 calm:X.calm=true
 deep:mU+1<=n
 room:Room n X.A
 sc:∀ x k,ck.sc.names.lookup x=some k->X.env.scope.names.lookup x=some k\/(k=.free/\X.env.scope.names.lookup x=some .cell)
 fn:∀ x,ck.sc.names.lookup x=some .cell->X.fn x=true
 bi:∀ x∈bNames,X.mg x=none
 call:∀ f:String,(∀ l s,F.call f l s=.B)\/∃ a fd ps,FnOk X.prog X.w X.K X.mg X.base CX0 n a fd ps (spV Γ (F.call f))/\X.mg (f:Str)=some (.ref a)/\cy X.K (.ref a)=true/\Binds X.K fd ps []
 con:∀ x d,F.con x=some d->∃ v u,X.mg (x:Str)=some u/\RelV v u/\(∀ m,d.bnd m=true)/\∀ C H,RV Γ C H d v
 lam:∀ id caps E,ck.lk id caps E=true->False
 cl:True
 fa:∀(f:String) (a:Addr),Γ.fa f=some a->X.mg (f:Str)=some (.ref a)/\∃ oc od fd sl,X.K.lookup a=some ⟨oc,od,.func fd,sl⟩
 cdc:∀ c kvs,F.cdc c=some kvs->∃ a,X.mg (c:Str)=some (.ref a)/\∀ h:Heap,X.K.In h->StrTab X.prog X.w h a (strD kvs)
section
variable {Γ:Gm} {F:mK} {n:Nat} {X:Cx} {ck:Ck}
theorem CG.vis (G:CG Γ F n X ck)(h:ck.vis x=true):Vis X.env.scope x:=by
 unfold Ck.vis at h;split at h
 .rename_i e;rcases G.sc _ _ e with z|⟨z,_⟩
  .exact .inl z
  .cases z
 .rename_i e;rcases G.sc _ _ e with z|⟨z,_⟩
  .exact .inr (.inl z)
  .cases z
 .rename_i e;rcases G.sc _ _ e with z|⟨_,z⟩
  .exact .inr (.inr z)
  .exact .inr (.inl z)
 .cases h
theorem CG.loc (G:CG Γ F n X ck)(h:ck.loc x=true):Loc X.env.scope x/\(X.fn x=true\/X.env.scope.names.lookup x=some .local):=by
 unfold Ck.loc at h;split at h
 .rename_i e;rcases G.sc _ _ e with z|⟨z,_⟩
  .exact⟨.inl z,.inr z⟩
  .cases z
 .rename_i e;rcases G.sc _ _ e with z|⟨z,_⟩
  .exact⟨.inr z,.inl (G.fn _ e)⟩
  .cases z
 .cases h
theorem CG.gl (G:CG Γ F n X ck)(h:ck.gl x=true):Gl X x/\(x==("__debug__"))=false/\x ≠ "__name__":=by
 unfold Ck.gl at h;simp only[am,eP]at h;obtain⟨⟨y,J⟩,h3⟩:=h;refine⟨?_,J,of_decide_eq_false h3⟩;split at y
 .rename_i e;rcases G.sc _ _ e with z|⟨z,_⟩
  .exact z
  .cases z
 .cases y
theorem bo7 (G:CG Γ F n X ck):∀ {is} {es:yL},bW5 ck is es=true->PGs X es (bX0 is)/\(cP es X.env).length=is.length/\(cP es X.env).findIdx? (·.1)=none
 | [],[],_=>⟨bz2,rfl,rfl⟩
 | [],_::_,h=>by cases h
 | i::is,[],h=>by cases h
 | i::is,e::es,h=>by
  cases e with
  | Name x p =>
   unfold bW5 at h;simp only[am,decide_eq_true_eq]at h;obtain⟨⟨J,y⟩,h3⟩:=h;obtain⟨l1,z⟩:=G.loc y;obtain⟨a,b,c⟩:=bo7 G h3;have hs:cP (.Name x p::es) X.env=(false,g9 (.Name x p) X.env)::cP es X.env:=rfl;refine⟨bj2 (aY8 (by rw[G.N];exact G.nd) (by rw[G.N];exact J) l1 z) a (by rw[hs];rfl),by rw[hs,aE,aE,b],?_⟩;rw[hs,List.findIdx?_cons];simp[c]
  | _=>cases h
def bv6 (G:CG Γ F n X ck)(h:mTg ck tg e=true):PG X e (gOf Γ.K tg):=by
 unfold mTg at h;split at h
 .simp only[am,decide_eq_true_eq]at h;obtain⟨l1,y⟩:=G.loc h.2;exact aY8 (by rw[G.N];exact G.nd) (by rw[G.N];exact h.1) l1 y
 .obtain⟨a,b,c⟩:=bo7 G h;exact bA0 G.K G.calm a b c
 .cases h
def CG.comp (G:CG Γ F n X ck)(h:aI5 ck tg J iter caps scope=true) :
  zF (ckC ck J caps scope).N caps scope X.N X.env.scope=true/\shp iter=true /\
  ∀(Cc:Addr) (cells:yC) (s:af) (H:Hp) (ex:List Addr),CG Γ F n (zv X (ckC ck J caps scope).N scope Cc cells s H ex) (ckC ck J caps scope)/\PG (zv X (ckC ck J caps scope).N scope Cc cells s H ex) J (gOf Γ.K tg):=by
 unfold aI5 at h;simp only[am,decide_eq_true_eq]at h;obtain⟨⟨⟨Y,h2⟩,h3⟩,h4⟩:=h;refine⟨?_,h4,λ Cc cells s H ex=>?_⟩
 .rw[G.N];unfold zF at Y ⊢;simp only[am]at Y ⊢;obtain⟨⟨⟨⟨⟨a1,a2⟩,a3⟩,a4⟩,a5⟩,a6⟩:=Y;refine⟨⟨⟨⟨⟨a1,?_⟩,a3⟩,a4⟩,a5⟩,a6⟩;rw[aD]at a2 ⊢;intro y hy;have:=a2 y hy;rw[bT]at this ⊢;rcases this with q|q
  .exact .inl q
  .right
   rw[bT]at q ⊢;rcases q with q|q
   .rcases G.sc _ _ (eq_of_beq q)with z|⟨z,_⟩
    .left;rw[z];exact beq_self_eq_true _
    .cases z
   .rcases G.sc _ _ (eq_of_beq q)with z|⟨_,z⟩
    .right;rw[z];exact beq_self_eq_true _
    .left;rw[z];exact beq_self_eq_true _
 .have Z:CG Γ F n (zv X (ckC ck J caps scope).N scope Cc cells s H ex) (ckC ck J caps scope):=by
   refine⟨G.K,rfl,h2,rfl,G.calm,G.deep,G.room,λ x k e=>?_,λ x e=>?_,G.bi,G.call,G.con,λ _ _ _ h=>(by cases h),G.cl,G.fa,G.cdc⟩
   .have q:=qf (env:=X.env) e;have q':(fm scope X.env).names.lookup x=some (if(k==NameKind.free&&X.env.scope.kind==.function&&X.env.kindOf x==some .cell)then NameKind.cell else k):=q;show(fm scope X.env).names.lookup x=some k\/_;rw[q'];split
    .rename_i hc;simp only[am]at hc;exact .inr ⟨eq_of_beq hc.1.1,rfl⟩
    .exact .inl rfl
   .show(scope.names.lookup x==some .cell)=true;rw[show scope.names.lookup x=some .cell from e];rfl
  exact⟨Z,bv6 Z h3⟩
end
section
variable {Γ:Gm} {F:mK} {n:Nat} {X:Cx} {ck:Ck} {W:St} {H:Hp} {Q:VK}
def TEv.eq (e:∀ U s,m U s=m' U s)(q:TEv Γ m W H Q):TEv Γ m' W H Q:=by
 have:=funext λ U=>funext λ s=>e U s;subst this;exact q
def TTv.eq {Q}(e:∀ U s,m U s=m' U s)(q:TTv Γ m W H Q):TTv Γ m' W H Q:=by
 have:=funext λ U=>funext λ s=>e U s;subst this;exact q
def TAv.eq {Q}(e:∀ U s,m U s=m' U s)(q:TAv Γ m W H Q):TAv Γ m' W H Q:=by
 have:=funext λ U=>funext λ s=>e U s;subst this;exact q
def TFv.eq (e:∀ U s,m U s=m' U s)(q:TFv Γ m W H Q):TFv Γ m' W H Q:=by
 have:=funext λ U=>funext λ s=>e U s;subst this;exact q
def TIv.eq (e:∀ U s,m U s=m' U s)(q:TIv Γ m W H R):TIv Γ m' W H R:=by
 have:=funext λ U=>funext λ s=>e U s;subst this;exact q
def TSv.eq (e:∀ U s,m U s=m' U s)(q:TSv Γ m D W H):TSv Γ m' D W H:=by
 have:=funext λ U=>funext λ s=>e U s;subst this;exact q
def EvT (Γ:Gm)(X:Cx)(E:Expr)(m:mv->mn->my mq):Prop:=PE X E (TEv Γ m)/\PT X E (TTv Γ m)
def EvT.val (h:PE X E (TEv Γ m))(he:autoParam (∀ y,gH E X.env y=(do let v <- y;standAt E.pos;kX [v] (truthy v))) Zq3._auto_1):EvT Γ X E m :=
 ⟨h,(aW1 h he).imp λ W H Q q=>bg1 q⟩
def bh6 (hc:PT X c G)(ha:PT X a tb)(hb:PT X b tc):PT X (.IfExp c a b pos) (λ W H Q=>G W H λ k z=>if k=true then tb W z Q else tc W z Q):=by
 intro y s W H Q I h;have e:gH (.IfExp c a b pos) X.env (eval (.IfExp c a b pos) X.env)=(do if <- gH c X.env (eval c X.env)then gH a X.env (eval a X.env)else gH b X.env (eval b X.env)):=rfl;rw[e];refine ae (thn (hc y s W H _ I h) λ k s1 ⟨z,F,q1⟩=>?_);cases k with
 | true=>exact ha y s1 W z Q F q1
 | false=>exact hb y s1 W z Q F q1
def bF7 { F}{Q}(h:TTv Γ (λ U s=>mM (mc U s) λ k s=>if k then G U s else F U s) W H Q):TTv Γ mc W H λ k z=>if k=true then TTv Γ G W z Q else TTv Γ F W z Q:=by
 obtain⟨C,U,s,d,s',E,R,hm,q⟩:=h;obtain⟨c,y,e1,hm⟩:=zE hm;refine⟨C,U,s,c,y,E,R,e1,λ C1 z g1 l1 R1=>?_⟩;cases c with
 | true =>
  rw[if_pos rfl]at hm ⊢;exact⟨C1,U,y,d,s',E.mono g1 l1,R1,hm,q.trans g1 l1⟩
 | false =>
  rw[if_neg aI]at hm ⊢;exact⟨C1,U,y,d,s',E.mono g1 l1,R1,hm,q.trans g1 l1⟩
section
variable {a b c:nY} {l r t:Expr} {pos:Pos}
def bt9 (G:CG Γ F n X ck) op (ha:EvT Γ X l (mw F a))(hb:EvT Γ X r (mw F b)):EvT Γ X (.BinOp l (cc3 op) r pos) (mw F (.G op a b)) :=
 .val ((bU3 (bV7 G.K op) ha.1 hb.1).imp λ W H Q q=>bl0 (TEv.eq (λ U s=>rfl) q))
def bE3 (ha:EvT Γ X l (mw F a)):EvT Γ X (.UnaryOp .USub l pos) (mw F (.neg a)) :=
 .val ((cc0 bS6 ha.1).imp λ W H Q q=>cf5 (TEv.eq (λ U s=>rfl) q) λ C s x d s' v H' R r y hm k=>by
  cases x with
  | int i =>
   cases hm;exact⟨i,r.intE,k.here R rfl RV.intI⟩
  | _=>cases hm)
def bx2 (ha:EvT Γ X l (mw F a)):EvT Γ X (.UnaryOp .Not l pos) (mw F (.not a)) :=
 ⟨(bp7 ha.1).imp λ W H Q q=>bO7 (TEv.eq (λ U s=>rfl) q),(br9 ha.2).imp λ W H Q q=>bR5 (TTv.eq (λ U s=>rfl) q)⟩
def bx6 (G:CG Γ F n X ck) op (hs:shp r=true)(ha:EvT Γ X l (mw F a))(hb:EvT Γ X r (mw F b)):EvT Γ X (.Compare l [at1 op] [r] pos) (mw F (.Z op a b)):=by
 have ho:=aW8 G.K (G.room.mono G.deep) op;refine⟨(bw1 ho ha.1 hb.1 (ao5 hs)).imp λ W H Q q=>bl0 (TEv.eq (λ U s=>rfl) q),(bc9 ho ha.1 hb.1 (ao5 hs)).imp λ W H Q q=>?_⟩;have q:=bb8 q;exact bl0 (TEv.eq (λ U s=>rfl) q)
def ba9 (G:CG Γ F n X ck) o p (y:shp t=true)(ha:EvT Γ X l (mw F a))(hb:EvT Γ X r (mw F b))(hc:EvT Γ X t (mw F c)):EvT Γ X (.Compare l [at1 o,at1 p] [r,t] pos) (mw F (.chain o p a b c)):=by
 have ho:=aW8 G.K (G.room.mono G.deep) o;have hp:=aW8 G.K (G.room.mono G.deep) p;have hm:=by
  show c7 (at1 p) t=false;exact ao5 y
 refine⟨(bh9 ho hp ha.1 hb.1 hc.1 hm).imp λ W H Q q=>aL6 (TEv.eq (λ U s=>rfl) q),(bm7 ho hp ha.1 hb.1 hc.1 hm).imp λ W H Q q=>?_⟩;have q:=bb8 q;exact aL6 (TEv.eq (λ U s=>rfl) q)
def RV.nonIff (r:RV Γ C H x v):decide (v=.N)=decide (x=.N):=by
 cases x with
 | N=>rw[r.nonE];rfl
 | T b=>rw[r.blE];rfl
 | int i=>rw[r.intE];rfl
 | str z=>rw[r.strE];rfl
 | tp l=>obtain⟨a,y,rfl,_⟩:=r.tupE;rfl
 | ref k=>rw[r.refE];rfl
 | fn f=>unfold RV at r;obtain⟨a,_,rfl⟩:=r;rfl
 | clo f cs=>unfold RV at r;obtain⟨f,_,_,_,rfl,_⟩:=r;rfl
def bu6 (ha:EvT Γ X l (mw F a)):EvT Γ X (.Compare l [.Is] [.Constant .none j pos'] pos) (mw F (.isN a)):=by
 have key:∀ W H Q,TEv Γ (mw F (.isN a)) W H Q->cg1 (TEv Γ (mw F a)) W H Q:=λ W H Q q=>by
  obtain⟨C,U,s,d,s',E,R,hm,k⟩:=q;obtain⟨x,z,e1,hm⟩:=aa1 hm;cases hm;refine⟨C,U,s,x,_,E,R,e1,λ v C1 y g1 l1 b1 r1 R1=>?_⟩;show Q (.T (decide (v=.N))) y;rw[r1.nonIff];exact k _ C1 y g1 l1 rfl RV.blI R1
 exact⟨(bM1 (br4 ha.1)).imp key,(bL9 (br4 ha.1)).imp λ W H Q q=>key _ _ _ (bg1 q)⟩
def be8 {es:yL}{t}(h:PT X (.BoolOp op es pos) t):PW X (.BoolOp op es pos) t:=by
 intro z y s W H Q I q;have:=h y s W H Q I q;have e:∀ w,gH (.BoolOp op es pos) X.env w=allTrue op es X.env:=λ w=>rfl;rw[e]at this ⊢;exact this
def bA1 (ha:EvT Γ X l (mw F a))(hb:EvT Γ X r (mw F b)):EvT Γ X (.BoolOp .And [l,r] pos) (mw F (.and a b)) :=
 ⟨(bs6 ha.1 (bq5 hb.1)).imp λ W H Q q=>bt4 (TEv.eq (λ U s=>rfl) q),(bs7 ha.2 (bu2 hb.2)).pt.imp λ W H Q q=>br2 (TTv.eq (λ U s=>rfl) q)⟩
def bB6 {es:yL}(ha:EvT Γ X l (mw F a))(hb:EvT Γ X (.BoolOp .And (r::es) pos) (mw F b)):EvT Γ X (.BoolOp .And (l::r::es) pos) (mw F (.and a b)) :=
 ⟨(bs6 ha.1 hb.1).imp λ W H Q q=>bt4 (TEv.eq (λ U s=>rfl) q),(bs7 ha.2 (be8 hb.2)).pt.imp λ W H Q q=>br2 (TTv.eq (λ U s=>rfl) q)⟩
def bH3 (ha:EvT Γ X l (mw F a))(hb:EvT Γ X r (mw F b)):EvT Γ X (.BoolOp .Or [l,r] pos) (mw F (.or a b)) :=
 ⟨(bM0 ha.1 (bq5 hb.1)).imp λ W H Q q=>bI8 (TEv.eq (λ U s=>rfl) q),(bT7 ha.2 (bI3 hb.2)).pt.imp λ W H Q q=>bL1 (TTv.eq (λ U s=>rfl) q)⟩
def bU1 {es:yL}(ha:EvT Γ X l (mw F a))(hb:EvT Γ X (.BoolOp .Or (r::es) pos) (mw F b)):EvT Γ X (.BoolOp .Or (l::r::es) pos) (mw F (.or a b)) :=
 ⟨(bM0 ha.1 hb.1).imp λ W H Q q=>bI8 (TEv.eq (λ U s=>rfl) q),(bT7 ha.2 (be8 hb.2)).pt.imp λ W H Q q=>bL1 (TTv.eq (λ U s=>rfl) q)⟩
def bx7 (hc:EvT Γ X t (mw F c))(ha:EvT Γ X l (mw F a))(hb:EvT Γ X r (mw F b)):EvT Γ X (.IfExp t l r pos) (mw F (.ite c a b)) :=
 ⟨(bl6 hc.2 ha.1 hb.1).imp λ W H Q q=>bJ2 (TEv.eq (λ U s=>rfl) q),(bh6 hc.2 ha.2 hb.2).imp λ W H Q q=>bF7 (TTv.eq (λ U s=>rfl) q)⟩
def bG6 (G:CG Γ F n X ck)(hs:shp r=true)(ha:EvT Γ X l (mw F a))(hb:EvT Γ X r (mw F b)):EvT Γ X (.Subscript l r pos) (mw F (.ix a b)) :=
 .val ((bH1 (cf6 G.K (bt3 G.room)) ha.1 hb.1 (au8 hs)).imp λ W H Q q=>bl0 (TEv.eq (λ U s=>rfl) q))
def ev_slL' (G:CG Γ F n X ck)(ha:EvT Γ X l (mw F a))(hb:EvT Γ X r (mw F b)):EvT Γ X (.Subscript l (.Slice (some r) none none y) pos) (mw F (.slL a b)) :=
 .val ((aQ2 (bK0 G.K) ha.1 (aW4 hb.1) aX9).imp λ W H Q q=>(bN4 (mh:=mw F b)).1 (TEv.eq (λ U s=>rfl) q))
def bv8 (G:CG Γ F n X ck)(ha:EvT Γ X l (mw F a))(hb:EvT Γ X r (mw F b)):EvT Γ X (.Subscript l (.Slice none (some r) none y) pos) (mw F (.slU a b)) :=
 .val ((aQ2 (bK0 G.K) ha.1 aX9 (aW4 hb.1)).imp λ W H Q q=>(bN4 (ml:=mw F b)).2.1 (TEv.eq (λ U s=>rfl) q))
end
end
section
variable {Γ:Gm} {F:mK} {n:Nat} {X:Cx} {ck:Ck} {W:St} {H:Hp} {Q:VK}
theorem az9:∀ {es} {U} {s s'} {l} {y:yL} {z},ni F es U s=.ok l s'->mEs z es y=true->l.length=y.length
 | .nil,U,s,s',l,y,z,h,m=>by
  cases h;cases y with
  | nil=>rfl
  | cons _ _=>rw[mEs]at m<;>first|cases m|(intros;simp_all)
 | .cons e es,U,s,s',l,y,z,h,m=>by
  obtain⟨d,G,e1,h⟩:=aa1 h;obtain⟨r,s2,e2,h⟩:=aa1 h;cases h;cases y with
  | nil=>rw[mEs]at m<;>first|cases m|(intros;simp_all)
  | cons x y =>
   rw[mEs,am]at m;rw[aE,aE,az9 e2 m.2]
theorem aI6:∀ {es} {z:yL},mEs ck es z=true->∀ x∈z,shp x=true
 | .nil,[],_,x,hx=>by cases hx
 | .nil,_::_,m,_,_=>by rw[mEs]at m<;>first|cases m|(intros;simp_all)
 | .cons e es,[],m,x,hx=>by cases hx
 | .cons e es,y::z,m,x,hx=>by
  rw[mEs,am,am]at m;rcases aw.mp hx with h|h
  .rw[h];exact m.1.2
  .exact aI6 m.2 x h
theorem aK0:∀ {es} {z:yL},mAs ck es z=true->∀ x∈z,shp x=true
 | .nil,[],_,x,hx=>by cases hx
 | .nil,_::_,m,_,_=>by rw[mAs]at m<;>first|cases m|(intros;simp_all)
 | .ex e es,[],m,x,hx=>by cases hx
 | .fn _ _,_,m,_,_=>by rw[mAs]at m<;>first|cases m|(intros;simp_all)
 | .ex e es,y::z,m,x,hx=>by
  rw[mAs,am,am]at m;rcases aw.mp hx with h|h
  .rw[h];exact m.1.2
  .exact aK0 m.2 x h
def aP6 (hs:shp x=true)(J:PE X x (TEv Γ (mw F e)))(G:PA X z (TAv Γ y)) :
  PA X (x::z) (TAv Γ (λ U s=>(mw F e U s).bind λ d s=>(y U s).bind λ l s=>.ok (d::l) s)) :=
 (zq J G (zc hs)).imp λ W H Q q=>bA6 q
def aN1 (h:k<=1000):k<=aP:=by rw[gy];lia
theorem bv2 {y:yL}(m:mEs ck es y=true)(hz:y.length<=1000)(h:PA X y (TAv Γ (ni F es))):EvT Γ X (.Tuple y k pos) (mw F (.tp es)) :=
 .val ((br3 h).imp λ W H Q q=>tv_tup' hz m q)
where
 tv_tup' {es} {y} {W} {H} {Q} (hz:y.length<=1000) (m:mEs ck es y=true) (q:TEv Γ (mw F (.tp es)) W H Q):cg8 (TAv Γ (ni F es)) W H Q:=by
  obtain⟨C,U,s,d,s',E,R,hm,q⟩:=q;obtain⟨l,z,e1,hm⟩:=aa1 hm;cases hm;refine⟨C,U,s,l,_,E,R,e1,λ vs C1 G g1 l1 b1 r1 R1=>⟨by rw[r1.length,az9 e1 m];exact aN1 hz,λ p hp=>?_⟩⟩;exact(q.trans g1 l1).tup R1 r1 b1 hp
def bx9 {y:yL}(m:mEs ck es y=true)(hz:y.length<=1000)(h:PA X y (TAv Γ (ni F es))):EvT Γ X (.List y pos) (mw F (.J es)):=by
 refine .val ((av7 h).imp λ W H Q q=>?_);obtain⟨C,U,s,d,s',E,R,hm,q⟩:=q;obtain⟨l,z,e1,hm⟩:=aa1 hm;obtain⟨rfl,rfl⟩:=zY hm;refine⟨C,U,s,l,_,E,R,e1,λ vs C1 G g1 l1 b1 r1 R1=>⟨by rw[r1.length,az9 e1 m];exact aN1 hz,λ p hp=>?_⟩⟩;exact(q.trans g1 l1).alloc R1 r1 b1 hp
def bo2 {f:String}{z:yL}(G:CG Γ F n X ck)(hg:ck.gl (f:Str)=true)(m:mAs ck y z=true)(h:PA X z (TAv Γ (nI F y))):EvT Γ X (.Call (.Name (f) p) z [] pos) (mw F (.call f y)):=by
 refine .val ?_;obtain⟨g1,Z,g3⟩:=G.gl hg;rcases G.call f with hbad|⟨a,fd,ps,Y,J,hk,hb⟩
 .intro a0 s W H Q I q;obtain⟨C,U,s,d,s',E,R,hm,q⟩:=q;obtain⟨l,s1,e1,hm⟩:=aa1 hm;rw[hbad]at hm;cases hm
 have key:∀ W H Q,TEv Γ (mw F (.call f y)) W H Q->aU8 (spV Γ (F.call f)) [] E0 (TAv Γ (nI F y)) W H Q:=λ W H Q q=>by
  have:=aI4 (TEv.eq (λ U s=>rfl) q);unfold tCB at this;unfold aU8 spV;simpa only[az]using this
 cases z with
 | nil =>
  have h0:PE X (.Call (.Name (f) p) [] [] pos) (aU8 (spV Γ (F.call f)) [] E0 bg8):=bn1 Y G.room g1 J hk hb .nil bI4 Z;cases y with
  | nil =>
   refine h0.imp λ W H Q q=>?_;have q1:=key W H Q q;unfold aU8 at q1 ⊢;exact aP3 (TAv.eq (λ U s=>rfl) q1)
  | _=>rw[mAs]at m<;>first|cases m|(intros;simp_all)
 | cons x z =>
  have hs:=aK0 m;exact(bd7 Y G.room g1 J hk hb .nil bI4 h Z (zc (hs x (au ..))) (zI λ e he=>hs e (ai _ he)).1).imp key
def BiC (Γ:Gm)(X:Cx)(b:nB)(x:Str):Prop:=(∃ id,br x=some (.builtin id)/\ae3 X (.builtin id) (rCl Γ (oq b)))\/∃ T,br x=some (.type T)/\ae3 X (.type T) (rCl Γ (oq b))
def bR6 (G:CG Γ F n X ck)(h:biT b=some x):x∈bNames/\BiC Γ X b x:=by
 cases b<;>first|cases h|skip
 .exact⟨by decide,.inl ⟨_,bY4,bk8 G.K G.calm (k:=1) rfl⟩⟩
 .exact⟨by decide,.inl ⟨_,bZ2,bk8 G.K G.calm (k:=1) rfl⟩⟩
 .exact⟨by decide,.inr ⟨_,bV0,bJ1⟩⟩
 .exact⟨by decide,.inr ⟨_,bP9,bS0⟩⟩
 .exact⟨by decide,.inl ⟨_,bL0,bk8 G.K G.calm (k:=2) rfl⟩⟩
 .exact⟨by decide,.inl ⟨_,ce5,bk8 G.K G.calm (k:=2) rfl⟩⟩
def bJ3 {z:yL}(G:CG Γ F n X ck)(hb:biT b=some x)(hg:ck.gl x=true)(m:mEs ck es (y::z)=true)(h:PA X (y::z) (TAv Γ (ni F es))) :
  EvT Γ X (.Call (.Name x p) (y::z) [] pos) (mw F (.bi b es)):=by
 refine .val ?_;obtain⟨g1,g2,g3⟩:=G.gl hg;obtain⟨hm,hc⟩:=bR6 G hb;have hs:=aI6 m;have Z:=zc (es:=z) (env:=X.env) (hs y (au ..));have s2:=(zI (env:=X.env) (pos:=pos) λ e he=>hs e (ai _ he)).1;rcases hc with⟨id,Y,J⟩|⟨T,Y,J⟩
 .exact(ai9 J g1 (G.bi _ hm) Y h g3 g2 Z s2).imp λ W H Q q=>aI4 (TEv.eq (λ U s=>rfl) q)
 .exact(aj8 J g1 (G.bi _ hm) Y h g3 g2 Z s2).imp λ W H Q q=>aI4 (TEv.eq (λ U s=>rfl) q)
def bG9 (h:biK b=some (k,t)):(1<=k/\k<=5)/\t∈bNames/\br t=some (.type (as4 k))/\oq b=oA (oI k):=by
 cases b<;>cases h
 .exact⟨by lia,by decide,bV0,rfl⟩
 .exact⟨by lia,by decide,bV9,rfl⟩
 .exact⟨by lia,by decide,bP9,rfl⟩
 .exact⟨by lia,by decide,aJ1,rfl⟩
 .exact⟨by lia,by decide,bq7,rfl⟩
def PEs (Γ:Gm)(F:mK)(X:Cx):mW->List Expr->Prop
 | .nil,[]=>True
 | .cons e es,x::xs=>(shp x=true/\EvT Γ X x (mw F e))/\PEs Γ F X es xs
 | _,_=>False
theorem av0:∀ {es} {y:yL},PEs Γ F X es y->PA X y (TAv Γ (ni F es))
 | .nil,[],_=>ad4.imp λ W H Q q=>aP3 (TAv.eq (λ U s=>rfl) q)
 | .nil,_::_,h=>h.elim
 | .cons _ _,[],h=>h.elim
 | .cons e es,x::y,h=>(aP6 h.1.1 h.1.2.1 (av0 h.2)).imp λ W H Q q=>TAv.eq (λ U s=>rfl) q
def bB4 (G:CG Γ F n X ck)(hb:biK b=some (k,t))(hg:ck.gl "isinstance"=true)(J:ck.gl t=true)(h:PEs Γ F X es [a]) :
  EvT Γ X (.Call (.Name "isinstance" p) [a,.Name t Y] [] pos) (mw F (.bi b es)):=by
 refine .val ?_;obtain⟨g1,g2,g3⟩:=G.gl hg;obtain⟨t1,Z,t3⟩:=G.gl J;obtain⟨hk,hm,hv,z⟩:=bG9 hb;have y:PE X (.Name t Y) (tC (.ty (as4 k))):=aX6 t1 (G.bi _ hm) hv rfl t3 Z;cases es with
 | nil=>exact h.elim
 | cons e es =>
  cases es with
  | cons _ _=>exact h.2.elim
  | nil =>
   obtain⟨⟨hs,ha,_⟩,_⟩:=h;have hA:=zq ha (zq y ad4 (zc rfl)) (zc hs);refine(ai9 (bG3 G.K hk) g1 (G.bi _ (by decide)) qD hA g3 g2 (zc hs) (zI λ e he=>by rw[cT.mp he];rfl).1).imp λ W H Q q=>?_;obtain⟨C,U,s,d,s',E,R,hm,q⟩:=q;obtain⟨l,s1,e1,hm⟩:=aa1 hm;obtain⟨x,s2,e2,e1⟩:=aa1 e1;obtain⟨l2,s3,e3,e1⟩:=aa1 e1;cases e3;cases e1;rw[z]at hm;refine⟨C,U,s,x,_,E,R,e2,λ v C1 H1 g1 l1 b1 r1 R1=>?_⟩;exact⟨v,rfl,C1,_,[x],d,s',R1,.cons r1 .nil,by unfold mr;rw[b1];rfl,hm,q.trans g1 l1⟩
end
section
variable {Γ:Gm} {F:mK} {n:Nat} {X:Cx} {ck:Ck} {W:St} {H:Hp}
def TAp (Γ:Gm)(cells:yC)(N:yI)(m:mv->mn->my (List mq)):TA:=λ W H Q=>∃ C U s l s',RE Γ C H s.length U W/\Rp Γ C H s/\m U s=.ok l s' /\
 ∀ vs C' H',Gr C s H C' s' H'->s.length<=s'.length->mr s'.length l=true->PVL Γ cells N W C' H' l vs->Rp Γ C' H' s'->Q vs H'
def TAp.eq (e:∀ U s,m U s=m' U s)(q:TAp Γ cells N m W H Q):TAp Γ cells N m' W H Q:=by
 obtain⟨C,U,s,l,s',E,R,hm,q⟩:=q;exact⟨C,U,s,l,s',E,R,by rw[<-e];exact hm,q⟩
def bB5 (h:TAp Γ cells N (λ U s=>.ok [] s) W H Q):bg8 W H Q:=by
 obtain⟨C,U,s,l,s',E,R,hm,q⟩:=h;cases hm;exact q [] C H (Gr.refl _ _ _) (av _) rfl .nil R
def bI5 (h:TAp Γ cells N (λ U s=>(m U s).bind λ d s=>(J U s).bind λ l s=>.ok (d::l) s) W H Q):ao2 (TEv Γ m) (TAp Γ cells N J) W H Q:=by
 obtain⟨C,U,s,l,s',E,R,hm,q⟩:=h;obtain⟨x,z,e1,hm⟩:=aa1 hm;obtain⟨y,s2,e2,hm⟩:=aa1 hm;cases hm;refine⟨C,U,s,x,z,E,R,e1,λ v C1 H1 g1 l1 b1 r1 R1=>?_⟩;refine⟨C1,U,z,y,s',E.mono g1 l1,R1,e2,λ vs C2 Z F G Y r2 R2=>?_⟩;exact q (v::vs) C2 Z (g1.trans F l1) (aq l1 G) (by unfold mr;rw[zg G x b1,Y];rfl) (.cons (PVp.mono F b1 (.inl r1)) r2) R2
end
section
variable {Γ:Gm} {F:mK} {n:Nat} {X:Cx} {ck:Ck} {W:St} {H:Hp} {Q:VK}
def cl8 (K:ac)(H:Hp)(v:V)(ys:List V)(z:Bool):Prop:=(∃ a,v=.ref a/\(SqL K H a ys\/(SqT K H a ys/\(z=true->H a=some (.tp ys)))))\/∃ x,v=.str ⟨x.toArray⟩/\x.length<=mG/\ys=sgV x
def TLv (Γ:Gm)(m:mv->mn->my (List mq)):TE:=λ W H Q=>∃ C U s l s',RE Γ C H s.length U W/\Rp Γ C H s/\m U s=.ok l s' /\
 ∀ v ys C' H',Gr C s H C' s' H'->s.length<=s'.length->mr s'.length l=true->cl8 Γ.K H' v ys (nu l)->RVL Γ C' H' l ys->Rp Γ C' H' s'->Q v H'
def aN0 (h:TLv Γ m W H Q):TFv Γ m W H Q:=by
 obtain⟨C,U,s,l,s',E,R,hm,q⟩:=h;exact⟨C,U,s,l,s',E,R,hm,λ p ys C' H' g hl hb hp h0 ho r y=>q (.ref p) ys C' H' g hl hb (.inl ⟨p,rfl,.inl (SqL.of hp)⟩) r y⟩
theorem aB1 :∀ x:List Nat,RVL Γ C H (x.map λ c=>.str [c]) (sgV x)
 | []=>.nil
 | c::x=>.cons (RV.strI (by unfold mG;simp)) (aB1 x)
theorem av4 :∀ x:List Nat,mr k (x.map λ c=>.str [c])=true
 | []=>rfl
 | c::x=>by rw[aF];unfold mr;rw[av4 x];rfl
def bU6 (h:TLv Γ (λ U s=>(m U s).bind λ d s=>DV.bo9 d s) W H Q):TEv Γ m W H Q:=by
 obtain⟨C,U,s,l,s',E,R,hm,q⟩:=h;obtain⟨d,z,e1,hm⟩:=aa1 hm;refine⟨C,U,s,d,z,E,R,e1,λ v C1 J g1 l1 b1 r1 R1=>?_⟩;cases d with
 | tp l' =>
  cases hm;obtain⟨a,G,⟨rfl,z1⟩,F,y⟩:=r1.tupZ;unfold mD at b1;exact q _ G C1 J g1 l1 b1 (.inl ⟨a,rfl,.inr ⟨F,z1⟩⟩) y R1
 | str x =>
  cases hm;exact q v (sgV x) C1 J g1 l1 (av4 x) (.inr ⟨x,r1.strE,r1.strL,rfl⟩) (aB1 x) R1
 | ref k =>
  have hm:(match z[k]? with
   | some (.J l)=>DV.R.ok l z
   | some (.ro l)=>.ok l z
   | _=>.B)=.ok l s':=hm
  rw[r1.refE];cases e:z[k]? with
  | none=>rw[e]at hm;exact fb hm
  | some ob =>
   rw[e]at hm;cases ob with
   | J l' =>
    cases hm;obtain⟨G,F,y⟩:=R1.addr e;have:=R1.wf k _ e;unfold mH at this;exact q _ G C1 J g1 l1 this (.inl ⟨_,rfl,.inl (SqL.of F)⟩) y R1
   | ro l' =>
    cases hm;obtain⟨G,F,y⟩:=R1.obj k _ e;have:=R1.wf k _ e;unfold mH at this;exact q _ G C1 J g1 l1 this (.inl ⟨_,rfl,.inl F.1⟩) y R1
   | _=>exact fb hm
 | _=>exact fb hm
def TLv.eq (e:∀ U s,m U s=m' U s)(q:TLv Γ m W H Q):TLv Γ m' W H Q:=by
 have:=funext λ U=>funext λ s=>e U s;subst this;exact q
def aT6 (G:CG Γ F n X ck)(hg:ck.gl "tuple"=true)(hs:shp a=true)(h:PE X a (TLv Γ m)) :
  PE X (.Call (.Name "tuple" p) [a] [] pos) (TEv Γ (λ U s=>(m U s).bind λ l s=>n8 .tuple l s)):=by
 obtain⟨g1,J,z⟩:=G.gl hg;refine(aj8 ((aq8 G.K).or (ao8 G.calm)) g1 (G.bi _ (by decide)) aJ1 (zq h ad4 (zc hs)) z J (zc hs) rfl).imp λ W H Q q=>?_;obtain⟨C,U,s,d,s',E,R,hm,q⟩:=q;obtain⟨l,Y,e1,hm⟩:=aa1 hm;cases hm;refine⟨C,U,s,l,_,E,R,e1,λ v ys C1 y g1 l1 b1 hq r1 R1=>?_⟩;rcases hq with⟨a,rfl,hq|hq⟩|⟨x,rfl,hx,rfl⟩
 .exact .inl ⟨a,ys,rfl,.inl ⟨hq,λ p hp=>(q.trans g1 l1).tup R1 r1 b1 hp⟩⟩
 .exact .inl ⟨a,ys,rfl,.inr ⟨hq.1,q _ C1 y g1 l1 (by unfold mD;exact b1) (RV.tupC hq.1 hq.2 r1) R1⟩⟩
 .exact .inr ⟨x,rfl,hx,λ p hp=>(q.trans g1 l1).tup R1 r1 b1 hp⟩
def aV5 (G:CG Γ F n X ck)(hg:ck.gl "list"=true)(hs:shp a=true)(h:PE X a (TLv Γ m)) :
  PE X (.Call (.Name "list" p) [a] [] pos) (TEv Γ (λ U s=>(m U s).bind λ l s=>n8 .list l s)):=by
 obtain⟨g1,z,y⟩:=G.gl hg;refine(aj8 ((aU4 G.K).or (aR9 G.calm)) g1 (G.bi _ (by decide)) bq7 (zq h ad4 (zc hs)) y z (zc hs) rfl).imp λ W H Q q=>?_;obtain⟨C,U,s,d,s',E,R,hm,q⟩:=q;obtain⟨l,J,e1,hm⟩:=aa1 hm;obtain⟨rfl,rfl⟩:=zY hm;refine⟨C,U,s,l,_,E,R,e1,λ v ys C1 Y g1 l1 b1 hq r1 R1=>?_⟩;rcases hq with⟨a,rfl,hq⟩|⟨x,rfl,hx,rfl⟩
 .exact .inl ⟨a,ys,rfl,hq.imp id (·.1),λ p hp=>(q.trans g1 l1).alloc R1 r1 b1 hp⟩
 .exact .inr ⟨x,rfl,hx,λ p hp=>(q.trans g1 l1).alloc R1 r1 b1 hp⟩
def bG7 (G:CG Γ F n X ck)(hk:mkT k=some x)(hg:ck.gl x=true)(hs:shp a=true)(h:PE X a (TLv Γ m)) :
  PE X (.Call (.Name x p) [a] [] pos) (TEv Γ (λ U s=>(m U s).bind λ l s=>n8 k l s)):=by
 cases k<;>cases hk
 .exact aT6 G hg hs h
 .exact aV5 G hg hs h
def FrC (Γ:Gm)(X:Cx)(x:Str)(k:ot):Prop:=∃ id r,br x=some (.builtin id)/\x∈bNames/\ae3 X (.builtin id) r/\∀ C H s l ys p d s' Q,Rp Γ C H s->RVL Γ C H l ys->H p=some (.J ys)->n8 k l s=.ok d s'->ah1 Γ C s H d s' Q->r [.ref p] H Q
theorem aL0:∀(l:List Int) a ,(l.foldl min a=a\/l.foldl min a∈l)/\l.foldl min a<=a/\∀ y∈l,l.foldl min a<=y
 | [],a=>⟨.inl rfl,iI _,λ y hy=>by cases hy⟩
 | b::l,a=>by
  obtain⟨F,G,h3⟩:=aL0 l (min a b);rw[d8];refine⟨?_,by lia,λ y hy=>?_⟩
  .rcases F with h|h
   .rw[h];rcases Int.le_total a b with z|z
    .left;lia
    .right;rw[show min a b=b by lia];exact au ..
   .exact .inr (ai _ h)
  .rcases aw.mp hy with z|z
   .rw[z];lia
   .exact h3 y z
def bk3 (h:oM l=some m):m∈l/\∀ y∈l,m<=y:=by
 cases l with
 | nil=>cases h
 | cons a l =>
  cases h;obtain⟨G,F,h3⟩:=aL0 l a;refine⟨?_,λ y hy=>?_⟩
  .rcases G with h|h
   .rw[h];exact au ..
   .exact ai _ h
  .rcases aw.mp hy with z|z
   .rw[z];exact F
   .exact h3 y z
def bD9 (G:CG Γ F n X ck)(hk:mkF k=some x):FrC Γ X x k:=by
 cases k<;>cases hk
 .refine⟨_,_,ce9,by decide,bd6 G.calm G.K,λ C H s l ys p d s' Q R r hp hm q=>?_⟩;unfold n8 at hm;dsimp only at hm;cases e:nU l with
  | none=>rw[e]at hm;exact fb hm
  | some bs =>
   rw[e]at hm;cases hm;have:=an9 e;subst this;exact⟨p,bs,rfl,SqL.of (by rw[<-r.bls];exact hp),q.here R rfl RV.blI⟩
 .refine⟨_,_,bL0,by decide,aV6 G.calm G.K,λ C H s l ys p d s' Q R r hp hm q=>?_⟩;unfold n8 at hm;dsimp only at hm;cases e:nG l with
  | none=>rw[e]at hm;exact fb hm
  | some is =>
   rw[e]at hm;have hm:(match oM is with|some m=>DV.R.ok (DV.D.int m) s|none=>.B)=.ok d s':=hm;cases e2:oM is with
   | none=>rw[e2]at hm;exact fb hm
   | some mm =>
    rw[e2]at hm;cases hm;have:=qj e;subst this;refine⟨p,is,rfl,SqL.of (by rw[<-r.ints];exact hp),(λ(z)=>by rw[z]at e2;cases e2),λ m hm y=>?_⟩;obtain⟨a,b⟩:=bk3 e2;have:=Int.le_antisymm (y mm a) (b m hm);rw[this];exact q.here R rfl RV.intI
def bP2 (G:CG Γ F n X ck)(hk:mkF k=some x)(hg:ck.gl x=true)(hs:shp a=true)(h:PE X a (TFv Γ m)) :
  PE X (.Call (.Name x p) [a] [] pos) (TEv Γ (λ U s=>(m U s).bind λ l s=>n8 k l s)):=by
 obtain⟨g1,Y,J⟩:=G.gl hg;obtain⟨id,r,hb,hx,hc,hr⟩:=bD9 G hk;refine(ai9 hc g1 (G.bi _ hx) hb (zq h ad4 (zc hs)) J Y (zc hs) rfl).imp λ W H Q q=>?_;obtain⟨C,U,s,d,s',E,R,hm,q⟩:=q;obtain⟨l,y,e1,hm⟩:=aa1 hm;exact⟨C,U,s,l,_,E,R,e1,λ p ys C1 z g1 l1 b1 hp h0 ho r1 R1=>hr C1 z y l ys p d s' Q R1 r1 hp hm (q.trans g1 l1)⟩
def bm0 (R:Rp Γ C H s)(g:Gr C s H C' s' H')(hb:r<s.length)(e:s'[r]?=some (.J l)):tyV Γ.K "list" (.ref (C r)) H:=by
 obtain⟨y,e0⟩:∃ y,s[r]?=some y:=⟨s[r],aj hb⟩
 have hm:=g.mu r y _ e0 e rfl;have ho:=R.obj r y e0;cases y with
 | J l0 =>
  obtain⟨F,z,_⟩:=ho;exact .inl ⟨rfl,F,SqL.of z⟩
 | ro _=>cases hm
 | ins _ _=>exact ho.elim
def mtR (Γ:Gm)(m:ou):V->List V->Hp->VK->Prop:=λ x vs H Q=>∃ C s a l d s',Rp Γ C H s/\RV Γ C H a x/\RVL Γ C H l vs/\a.bnd s.length=true/\mr s.length l=true/\oF m a l s=.ok d s'/\ah1 Γ C s H d s' Q
def bQ0:mG<aP:=by rw[gy];decide
def aR0 (hm:mtT m=some (x,k))(h:oF m a l s=.ok d s'):∃ r l0,a=.ref r/\s[r]?=some (.J l0):=by
 have go:∀ {r:Nat} {f:List mq->my mq},(match s[r]? with|some (.J l)=>f l|_=>.B)=.ok d s'->∃ l0,s[r]?=some (.J l0):=λ {r f} h=>by
  cases e:s[r]? with
  | none=>rw[e]at h;exact fb h
  | some ob =>
   cases ob with
   | J l0=>exact⟨l0,rfl⟩
   | _=>rw[e]at h;exact fb h
 cases a with
 | ref r =>
  have y:∀ {f:List mq->my mq},(match s[r]? with|some (.J l)=>f l|_=>.B)=.ok d s'->∃ z l0,DV.D.ref r=.ref z/\s[z]?=some (.J l0):=λ h=>by obtain⟨l0,e⟩:=go h;exact⟨_,l0,rfl,e⟩
  cases m with
  | append=>match l with
   | [d]=>exact y h
   | []=>exact fb h
   | _::_::_=>exact fb h
  | _=>exact fb h
 | _=>cases m<;>exact fb h
def bn4:MtR X "list.append" (mtR Γ .append):=by
 intro F sh W H x vs v us Q I Y rv h;obtain⟨C,s,a,l,d,s',R,ra,rl,ba,Z,hm,q⟩:=h;obtain⟨r,l0,rfl,e⟩:=aR0 rfl hm;cases l with
 | nil=>exact fb hm
 | cons y t =>
  cases t with
  | cons _ _=>exact fb hm
  | nil =>
   simp only[oF,e]at hm;split at hm
   case isFalse=>exact fb hm
   rename_i hlt;cases hm;obtain⟨z,rfl,rz⟩:=rl.one;obtain⟨xs,h1,J⟩:=R.addr e;have G:=by have:=R.wf r _ e;unfold mH at this;exact this
   refine aq1 F sh W H x [z] v us Q I Y rv ⟨C r,xs,z,ra.refE,rfl,h1,by rw[J.length];have:=bQ0;lia,?_⟩;exact q.put R e (J.append (.cons rz .nil)) (qb G Z) rfl RV.nonI
structure MtOk (Γ:Gm)(X:Cx)(m:ou)(x:Str):Prop where
 ex:∃ id,PySem.Slot "list" x id/\jD (.builtin id)=pure (.type "method_descriptor")/\MtR X id (mtR Γ m)
def bM8 (z:X.K=Γ.K)(y:Room (mU+1) X.A)(h:mtT m=some (x,k)):MtOk Γ X m x:=by
 cases m<;>cases h
 .exact⟨_,eK,gR,bn4⟩
def bi7 {J:yL}(G:CG Γ F n X ck)(hm:mtT m=some (x,J.length))(hab:bv1 ob=true)(hl:(ap.endLine==cp.line)=true)(ho:PE X ob (TEv Γ (mw F o)))
  (a1:mEs ck es J=true) (h:PEs Γ F X es J):EvT Γ X (.Call (.Attribute ob x ap) J [] cp) (mw F (.me m o es)):=by
 refine .val ?_;obtain⟨id,slot,a0,hr⟩:=(bM8 (Γ:=Γ) (X:=X) G.K (G.room.mono G.deep) hm).ex;have hs:=aI6 a1;have key:∀ W H Q,TEv Γ (mw F (.me m o es)) W H Q->tBM Γ.K "list" (mtR Γ m) (TEv Γ (mw F o)) (TAv Γ (ni F es)) W H Q:=λ W H Q q=>by
  obtain⟨C,U,s,d,s',E,R,z,q⟩:=q;obtain⟨a,s1,e1,z⟩:=aa1 z;obtain⟨l,s2,e2,z⟩:=aa1 z;refine⟨C,U,s,a,s1,E,R,e1,λ v C1 H1 g1 l1 b1 r1 R1=>?_⟩;obtain⟨r,l0,rfl,er⟩:=aR0 hm z;rw[r1.refE];have hk:∀ C2 H2,Gr C1 s1 H1 C2 s2 H2->tyV Γ.K "list" (.ref (C1 r)) H1:=λ C2 H2 g2=>bm0 R1 g2 (by unfold mD at b1;exact of_decide_eq_true b1) er;have Y:TAv Γ (ni F es) W H1 λ J H2=>mtR Γ m (.ref (C1 r)) J H2 Q:=by
   refine⟨C1,U,s1,l,s2,E.mono g1 l1,R1,e2,λ vs C2 H2 g2 l2 b2 r2 R2=>?_⟩;refine⟨C2,s2,.ref r,l,d,s',R2,?_,r2,zg l2 _ b1,b2,z,q.trans (g1.trans g2 l1) (aq l1 l2)⟩;have:=RV.mono g2 _ _ b1 r1;rw[r1.refE]at this;exact this
  refine⟨?_,Y⟩;have hlt:r<s1.length:=by unfold mD at b1;exact of_decide_eq_true b1
  obtain⟨o0,e0⟩:∃ o0,s1[r]?=some o0:=⟨s1[r],aj hlt⟩
  have Z:=R1.obj r o0 e0;cases o0 with
  | J l0 =>
   obtain⟨J,h1,_⟩:=Z;exact .inl ⟨rfl,J,SqL.of h1⟩
  | ro l0 =>
   obtain⟨J,h1,_⟩:=Z;exact .inl ⟨rfl,J,h1.1⟩
  | ins _ _=>exact Z.elim
 cases J with
 | nil =>
  have p0:PE X (.Call (.Attribute ob x ap) [] [] cp) (cj0 X.K "list" (mtR Γ m) (TEv Γ (mw F o))):=bT8 cG slot a0 hr ho (ay8 hab) hl;rw[G.K]at p0;refine p0.imp λ W H Q q=>?_;cases es with
  | cons _ _=>exact h.elim
  | nil =>
   obtain⟨C,U,s,d,s',E,R,z,k⟩:=key W H Q q;refine⟨C,U,s,d,s',E,R,z,λ v C1 H1 g1 l1 b1 r1 R1=>?_⟩;obtain⟨h1,h2⟩:=k v C1 H1 g1 l1 b1 r1 R1;exact⟨h1,aP3 (TAv.eq (λ U s=>rfl) h2)⟩
 | cons y ys =>
  refine(aY6 G.K cG slot a0 hr ho (av0 h) (ay8 hab) ?_ hl (zc (hs y (au ..))) (zI λ e he=>hs e (ai _ he)).1).imp key;rw[(zI hs).2];have:(y::ys).length<=1:=by
   unfold mtT at hm;split at hm<;>first|(have:=aB hm;have:=congrArg Prod.snd this;simp at this;simp;omega)|cases hm
  simp only[cj,cY,ka];show(true&&decide ((y::ys).length+0+0<30))=true;rw[cj];exact decide_eq_true (by lia)
end
noncomputable abbrev mkS (x:List Nat):Str:=⟨x.toArray⟩
theorem aJ7 sep :∀ z:List (List Nat),Str.join (mkS sep) (z.map mkS)=mkS (mO sep z)
 | []=>rfl
 | [x]=>rfl
 | x::y::r=>by
  show mkS x++mkS sep++Str.join (mkS sep) ((y::r).map mkS)=mkS (x++(sep++mO sep (y::r)));rw[aJ7 sep (y::r),az7,az7,ag]
theorem br5 sep :∀ y:List (List Nat),((y.map mkS).map (·.length)).sum+(y.map mkS).length*(mkS sep).length=(y.map λ w=>w.length+sep.length).sum
 | []=>by simp
 | x::r=>by
  have G:=br5 sep r;have F:(mkS x).length=x.length:=by simp[ib]
  have z:(mkS sep).length=sep.length:=by simp[ib]
  simp only[aF,dZ,aE,jX,z]at G ⊢;lia
theorem ap0 sep :∀ z:List (List Nat),(mO sep z).length<=(z.map λ w=>w.length+sep.length).sum
 | []=>cA _
 | [x]=>by simp[mO]
 | x::y::r=>by
  have:=ap0 sep (y::r);show(x++(sep++mO sep (y::r))).length<=_;rw[ar,ar,aF,dZ];lia
theorem aF8:∀ z:List (List Nat),mO [] z=z.flatten
 | []=>rfl
 | [x]=>by simp[mO]
 | x::y::r=>by
  show x++([]++mO [] (y::r))=_;rw[aF8 (y::r),fI];simp
def bh3 :MtR X "str.join" (λ x vs H Q=>∃ a   sep   z ,x=aR1 sep/\vs=[.ref a]/\H a=some (.J (z.map aR1))/\(z.map λ w=>w.length+sep.length).sum<=aP/\Q (aR1 (mO sep z)) H):=by
 intro Z s W H x vs v us Q I rx rv h;obtain⟨a,sep,z,rfl,rfl,hH,hz,q⟩:=h;obtain⟨t,rfl⟩:=(rx)
 obtain⟨u,rfl,ru⟩:=rv.one;cases ru;obtain⟨_,its,n,r,hl,e⟩:=I.lstM hH;obtain⟨l,rfl,Y⟩:=aG1 r
 replace Y:=Y
 have G:eV ((l.map (·.1)).toArray.foldl (·+·.length+(mkS sep).length) 0)=false:=by
  rw[Y,StrLaws.joinTotal,br5];unfold eV;exact decide_eq_false (by lia)
 refine dk iA (fg s _ t) PySem.F.entry_str_join (PySem.F.args_str_join_2 _ _) (meets_str_join_list (mkS sep) t a l G) ⟨⟨_,e,rfl,n,rfl⟩,?_⟩;have J:Builtin.Str.glued (mkS sep) (z.map mkS)=mkS (mO sep z):=by rw[StrLaws.glued_eq_join,aJ7]
 unfold joinMade;split
 .rename_i p;have e1:=Y;have:p.1=mkS (mO sep z):=by
   cases z with
   | nil=>cases e1
   | cons y z =>
    cases z with
    | nil=>rw[aF,eM]at e1;rw[gY e1];rfl
    | cons _ _=>rw[aF,aF]at e1;cases gZ e1
  rw[this];exact⟨aR1 (mO sep z),H,I,⟨_,rfl⟩,q⟩
 .rw[Y,J];refine⟨?_,aR1 (mO sep z),H,I.tok _,⟨_,rfl⟩,q⟩;show(mO sep z).toArray.size<=_;have:=ap0 sep z;simp only[ay];lia
theorem aq2 :∀ {p},c ∉ p->mP c p=[p]
 | [],_=>rfl
 | x::p,h=>by
  have y:x≠c:=λ z=>h (by rw[z];exact au ..);show(if x=c then _ else _)=_;rw[if_neg y,aq2 (λ z=>h (ai _ z))]
theorem aQ9 :∀ {p},c ∉ p->mP c (p++c::l)=p::mP c l
 | [],_=>by show(if c=c then _ else _)=_;rw[if_pos rfl]
 | x::p,h=>by
  have y:x≠c:=λ z=>h (by rw[z];exact au ..);rw[fh];show(if x=c then _ else(match mP c (p++c::l)with|p::ps=>(x::p)::ps|[]=>[[x]]))=_;rw[if_neg y,aQ9 (λ z=>h (ai _ z))]
theorem au1 :∀ {ps},ps≠[]->(∀ p∈ps,c ∉ p)->mP c (mO [c] ps)=ps
 | [],h,_=>absurd rfl h
 | [p],_,h=>aq2 (h p (au ..))
 | p::q::ps,_,h=>by
  show mP c (p++([c]++mO [c] (q::ps)))=_;rw[eW,aQ9 (h p (au ..)),au1 (by simp) λ x hx=>h x (ai _ hx)]
def bf8 w c :fj (mkS w) ⟨#[c]⟩=(mP c w).map mkS:=by
 let F:=(fj (mkS w) ⟨#[c]⟩).map λ p=>p.cps.toList
 have e1:F.map mkS=fj (mkS w) ⟨#[c]⟩:=by
  rw[ce]
  conv=>rhs;rw[<-List.map_id (fj (mkS w) ⟨#[c]⟩)]
  refine jm λ p _=>?_;simp
 have G:F≠[]:=by
  intro z;have:=split_pos (mkS w) ⟨#[c]⟩;rw[<-e1,z]at this;simp at this
 have y:∀ p∈F,c ∉ p:=λ p hp=>by
  obtain⟨q,hq,rfl⟩:=aN.mp hp;exact StrLaws.split_free (mkS w) c q hq
 have hj:mkS (mO [c] F)=mkS w:=by
  rw[<-aJ7,e1];exact StrLaws.join_split (mkS w) ⟨#[c]⟩
 have J:=by
  have:=congrArg (λ x:Str=>x.cps.toList) hj;simpa using this
 rw[<-e1,<-au1 G y,J]
theorem aF3:∀(y:List (List Nat)) tk ,Vals (y.map aR1) (strsFrom tk (y.map mkS))
 | [],_=>.nil
 | x::y,tk=>.cons ⟨tk,rfl⟩ (aF3 y (tk+1))
def bk4 :MtR X "str.split" (λ x vs H Q=>∃ w   c ,x=aR1 w/\vs=[.str ⟨#[c]⟩]/\w.length+2<=aP/\∀ p,H p=none->Q (.ref p) (upd H p (.J ((mP c w).map aR1)))):=by
 intro z s W H x vs v us Q I rx rv h;obtain⟨w,c,rfl,rfl,hz,q⟩:=h;obtain⟨t,rfl⟩:=(rx)
 obtain⟨u,rfl,ru⟩:=rv.one;obtain⟨G,rfl⟩:=(ru)
 have Y:(mkS w).length=w.length:=by simp[ib]
 have F:=bf8 w c;have Z:=split_le (mkS w) ⟨#[c]⟩;have y:((mP c w).map aR1).length<=aP:=by
  rw[F,ao,Y]at Z;rw[ao];lia
 have one:fj (mkS w) ⟨#[c]⟩=[mkS w]->∀ sh:af,Inv X z W H sh->EP X z W Q (.ref sh.heap.objs.size) { sh with heap:=sh.heap.push { cls:=.type "list",data:=.seq [Value.str (mkS w) t].toArray } }:=λ e1 sh J=>by
  have e2:(mP c w).map mkS=[mkS w]:=by rw[<-F,e1]
  have e3:mP c w=[w]:=by
   cases hd:mP c w with
   | nil=>rw[hd]at e2;cases e2
   | cons a r =>
    rw[hd,aF]at e2;cases r with
    | nil =>
     have:=congrArg (λ x:Str=>x.cps.toList) (gY e2);have:=by simpa using this
     rw[this]
    | cons b r=>cases gZ e2
  refine⟨.ref _,_,J.lnew ?_ y,rfl,q _ J.fresh⟩;rw[e3];exact .cons ⟨t,rfl⟩ .nil
 cases h1:(decide ((mkS w).length<(⟨#[c]⟩:Str).length)||decide (jn (mkS w)<jn ⟨#[c]⟩))with
 | true =>
  refine dk dq (fg s _ t) eF (d6 _ _) (meets_str_split_cannot_occur (mkS w) ⟨#[c]⟩ t G h1) ?_;exact one (by unfold fj;rw[if_pos h1]) s I
 | false =>
  cases hf:(g6 (mkS w) ⟨#[c]⟩ 0 (mkS w).length ((mkS w).length+1)).isEmpty with
  | true =>
   refine dk dq (fg s _ t) eF (d6 _ _) (meets_str_split_not_found (mkS w) ⟨#[c]⟩ t G h1 rfl hf) ?_;exact one (by unfold fj;rw[if_neg (by rw[h1];decide),if_pos hf]) s I
  | false =>
   have hp:Builtin.Str.partsBetween (mkS w) (g6 (mkS w) ⟨#[c]⟩ 0 (mkS w).length ((mkS w).length+1)) (⟨#[c]⟩:Str).length=(mP c w).map mkS:=by
    rw[<-F];unfold fj;rw[if_neg (by rw[h1];decide),if_neg (by rw[hf];decide)]
   refine dk dq (fg s _ t) eF (d6 _ _) (meets_str_split_sep (mkS w) ⟨#[c]⟩ t G h1 rfl hf (by lia) (by rw[hp,ao];rw[ao]at y;exact y)) ?_;rw[hp];exact⟨.ref _,_,I.lnew (aF3 _ _) y,rfl,q _ I.fresh⟩
section
variable {Γ:Gm} {F:mK} {n:Nat} {X:Cx} {ck:Ck} {W:St} {H:Hp} {Q:VK}
theorem ba6 :∀ {l} {y} {F},nz l=some y->RVL Γ C H l F->F=y.map aR1
 | [],y,F,h,r=>by cases h;exact r.unnil
 | d::l,y,F,h,r=>by
  obtain⟨w,ws,rfl,r1,r2⟩:=r.uncons;cases d with
  | str z =>
   unfold nz at h;cases e:nz l with
   | none=>rw[e]at h;cases h
   | some ss' =>
    rw[e]at h;cases h;rw[aF,<-ba6 e r2,r1.strE];rfl
  | _=>cases h
def by4 (G:CG Γ F n X ck)(hab:bv1 ob=true)(hl:(ap.endLine==cp.line)=true)(ho:PE X ob (TEv Γ (mw F o)))(hs:shp a=true)(h:PE X a (TEv Γ m)) :
  PE X (.Call (.Attribute ob "join" ap) [a] [] cp) (TEv Γ (λ U s=>(mw F o U s).bind λ x s=>(m U s).bind λ q s=>DV.aS7 x q s)):=by
 refine(aY6 G.K im iA PySem.F.type_str_join bh3 ho (zq h ad4 (zc hs)) (ay8 hab) ?_ hl (zc hs) rfl).imp λ W H Q q=>?_
 .rw[(zI λ e he=>by rw[cT.mp he];exact hs).2];rfl
 .obtain⟨C,U,s,d,s',E,R,z,q⟩:=q;obtain⟨x,Y,e1,z⟩:=aa1 z;obtain⟨y,s2,e2,z⟩:=aa1 z;obtain⟨sep,r,l,J,rfl,rfl,er,es,hlim,rfl,rfl⟩:∃ sep r l J,x=.str sep/\y=.ref r/\s2[r]?=some (.J l)/\nz l=some J/\(J.map λ w=>w.length+sep.length).sum<=mG/\d=.str (mO sep J)/\s'=s2:=by
   unfold DV.aS7 at z;split at z
   .split at z
    .split at z
     .split at z
      .split at z
       .rename_i J _ hz;cases z;have hf:(J.map λ w=>w.length+([]:List Nat).length).sum=J.flatten.length:=by
         rw[jo];simp
        exact⟨_,_,_,J,rfl,rfl,by assumption,by assumption,by rw[hf];exact hz,by rw[aF8],rfl⟩
       .exact fb z
      .exact fb z
     .exact fb z
    .exact fb z
   .split at z
    .split at z
     .split at z
      .split at z
       .cases z;exact⟨_,_,_,_,rfl,rfl,by assumption,by assumption,by assumption,rfl,rfl⟩
       .exact fb z
      .exact fb z
     .exact fb z
    .exact fb z
   .exact fb z
  refine⟨C,U,s,_,Y,E,R,e1,λ v C1 H1 g1 l1 b1 r1 R1=>?_⟩;have ev:=r1.strE;subst ev;refine⟨rfl,C1,U,Y,_,s',E.mono g1 l1,R1,e2,λ v C2 H2 g2 l2 b2 r2 R2=>?_⟩;have ew:=r2.refE;subst ew;obtain⟨xs,Z,h2⟩:=R2.addr er;rw[ba6 es h2]at Z;exact⟨C2 r,sep,J,rfl,rfl,Z,aq hlim zM,(q.trans (g1.trans g2 l1) (aq l1 l2)).here R2 rfl (RV.strI (aq (ap0 sep J) hlim))⟩
theorem aL3 :∀ {y:List (List Nat)},(∀ w∈y,w.length<=mG)->RVL Γ C H (y.map DV.D.str) (y.map aR1)
 | [],_=>.nil
 | w::y,h=>.cons (RV.strI (h w (au ..))) (aL3 λ x hx=>h x (ai _ hx))
theorem aE9 :∀ y:List (List Nat),mr m (y.map DV.D.str)=true
 | []=>rfl
 | w::y=>by rw[aF];unfold mr;rw[aE9 y];rfl
theorem aj9 :∀ {l} w ,w∈mP c l->w.length<=l.length
 | [],w,h=>by rw[cT.mp h];exact av _
 | x::l,w,h=>by
  have h:w∈(if x=c then[]::mP c l else match mP c l with|p::ps=>(x::p)::ps|[]=>[[x]]):=h;split at h
  .rcases aw.mp h with rfl|h
   .exact cA _
   .exact kb (aj9 w h)
  .split at h
   .rename_i p ps e;rcases aw.mp h with rfl|h
    .have:=aj9 p (by rw[e];exact au ..);simp only[aE];lia
    .exact kb (aj9 w (by rw[e];exact ai _ h))
   .rw[cT.mp h];simp
def bU0 (G:CG Γ F n X ck)(hab:bv1 ob=true)(hl:(ap.endLine==cp.line)=true)(ho:PE X ob (TEv Γ (mw F o))) :
  PE X (.Call (.Attribute ob "split" ap) [.Constant (.str ⟨#[c]⟩) k p] [] cp) (TEv Γ (λ U s=>(mw F o U s).bind λ x s=>DV.bt5 c x s)):=by
 refine(aY6 G.K im dq PySem.F.type_str_split bk4 ho (zq au4 ad4 rfl) (ay8 hab) rfl hl rfl rfl).imp λ W H Q q=>?_;obtain⟨C,U,s,d,s',E,R,y,q⟩:=q;obtain⟨x,z,e1,y⟩:=aa1 y;unfold DV.bt5 at y;cases x with
 | str w =>
  have y:(if w.length+2<=mG then nN (.J ((mP c w).map DV.D.str)) z else .B)=.ok d s':=y;split at y
  case isFalse=>exact fb y
  rename_i hz;obtain⟨rfl,rfl⟩:=zY y;refine⟨C,U,s,_,z,E,R,e1,λ v C1 J g1 l1 b1 r1 R1=>?_⟩;have ev:=r1.strE;subst ev;refine⟨rfl,w,c,rfl,rfl,by have:=zM;lia,λ p hp=>?_⟩;exact(q.trans g1 l1).alloc R1 (aL3 λ x hx=>by have:=aj9 x hx;lia) (aE9 _) hp
 | _=>exact fb y
def PIf.imp (h:PIf X e t)(i:∀ W H Q,t' W H Q->t W H Q):PIf X e t':=λ y s W H Q I q=>h y s W H Q I (i W H Q q)
structure CompF (Γ:Gm)(X:Cx)(m:mv->mn->my (List mq))(E:Expr):Prop where
 ex:∃ elt tgt iter ifs scope pos N' caps wi g tc te,E=.ListComp elt [⟨tgt,iter,ifs,0⟩] scope pos/\zF N' caps scope X.N X.env.scope=true/\PI X tgt iter wi /\
  (∀(Cc:Addr) (cells:yC) (s:af) (H:Hp) (ex:List Addr),PG (zv X N' scope Cc cells s H ex) tgt g/\PIf (zv X N' scope Cc cells s H ex) ifs tc/\PE (zv X N' scope Cc cells s H ex) elt te) /\
  (∀ x,cD iter X.env x=pure x)/\∀ W H Q,TFv Γ m W H Q->tComp caps wi g tc te W H Q
def CompF.pe (h:CompF Γ X m E)(hc:X.calm=true):PE X E (TFv Γ m):=by
 obtain⟨elt,F,iter,G,scope,pos,z,caps,Y,g,tc,te,rfl,J,y,h3,h4,h5⟩:=h.ex;exact(bd9 z caps J y hc h3 h4).imp h5
def bC2 {mI}(G:CG Γ F n X ck)(hm:aI5 ck tg y iter caps scope=true)
  (Z:PI X y iter (TIv Γ mI)) (hc:∀ Cc cells s H ex,PT (zv X (ckC ck y caps scope).N scope Cc cells s H ex) i (TTv Γ mc)) (he:∀ Cc cells s H ex,PE (zv X (ckC ck y caps scope).N scope Cc cells s H ex) elt (TEv Γ me)) :
  CompF Γ X (λ U s=>(mI U s).bind λ q s0=>if q.its.length<=mG then nX (λ s=>mV s0 s q.src) (λ d U s=>match nk U tg d with
   | some U=>mM (mc U s) λ k s=>if k then(me U s).bind λ v s=>.ok (some v,U) s else .ok (none,U) s
   | none=>.B) q.its (nQ U caps) s0 else .B) (.ListComp elt [⟨y,iter,[i],0⟩] scope pos):=by
 obtain⟨J,z,Y⟩:=G.comp hm;exact⟨elt,y,iter,[i],scope,pos,_,caps,_,_,_,_,rfl,J,Z,λ Cc cells s H ex=>⟨(Y Cc cells s H ex).2,bx5 (hc Cc cells s H ex),he Cc cells s H ex⟩,az4 z,λ W H Q q=>bc2 q⟩
def bn2 {mI}(G:CG Γ F n X ck)(hm:aI5 ck tg y iter caps scope=true)
  (Z:PI X y iter (TIv Γ mI)) (he:∀ Cc cells s H ex,PE (zv X (ckC ck y caps scope).N scope Cc cells s H ex) elt (TEv Γ me)) :
  CompF Γ X (λ U s=>(mI U s).bind λ q s0=>if q.its.length<=mG then nX (λ s=>mV s0 s q.src) (λ d U s=>match nk U tg d with
   | some U=>(me U s).bind λ v s=>.ok (some v,U) s
   | none=>.B) q.its (nQ U caps) s0 else .B) (.ListComp elt [⟨y,iter,[],0⟩] scope pos):=by
 obtain⟨J,z,Y⟩:=G.comp hm;refine⟨elt,y,iter,[],scope,pos,_,caps,_,_,TTv Γ (λ U s=>.ok (.T true) s),_,rfl,J,Z,λ Cc cells s H ex=>⟨(Y Cc cells s H ex).2,bf0.imp λ W H Q q=>?_,he Cc cells s H ex⟩,az4 z,λ W H Q q=>bc2 (TFv.eq (λ U s=>?_) q)⟩
 .obtain⟨C,U,s,b,s',E,R,hm,q⟩:=q;cases hm;exact q C H (Gr.refl _ _ _) (av _) R
 .congr 1
def bu0 (G:CG Γ F n X ck)(h:PE X E (TEv Γ (mw F e))):PI X tg E (TIv Γ (nZ F (.seq e))):=by
 refine(PI.or (bz7 G.K h) (PI.or (bh7 G.K h) (bI9 h))).imp λ W H R q=>bT5 (TIv.eq (λ U s=>rfl) q)
def bo4 (G:CG Γ F n X ck)(hg:ck.gl "range"=true)(hs:shp l=true)(h:PE X l (TEv Γ (mw F a))):PI X tg (.Call (.Name "range" p) [l] [] pos) (TIv Γ (nZ F (.rg a))) :=
 (bf9 (G.gl hg).1 (G.bi _ (by decide)) (zq h ad4 (zc hs)) (zc hs)).imp λ W H R q=>bt7 (TIv.eq (λ U s=>rfl) q)
def bz0 {elts:yL}(G:CG Γ F n X ck)(hg:ck.gl "zip"=true)(hs:shp l=true)(y:shp r=true)(h:PE X l (TEv Γ (mw F a)))(z:PE X r (TEv Γ (mw F b))):PI X (.Tuple elts ek epos) (.Call (.Name "zip" p) [l,r] [] pos) (TIv Γ (nZ F (.zip (.seq a) (.seq b)))):=by
 have q:=bF6 (elts:=elts) (ek:=ek) (epos:=epos) (p:=p) (pos:=pos) (G.gl hg).1 (G.bi _ (by decide)) (zq h (zq z ad4 (zc y)) (zc hs)) (by rw[zc hs,zc y];rfl) (zc y);rw[G.K]at q;exact q.imp λ W H R q=>bM7 (TIv.eq (λ U s=>rfl) q)
section
variable {c:String} {kvs:List (List Nat×List Nat)} {a:Addr}
end
end
section
variable {Γ:Gm} {F:mK} {n:Nat} {X:Cx} {ck:Ck}
end
section
variable {Γ:Gm} {F:mK} {n:Nat} {X:Cx} {ck:Ck}
def TJv (Γ:Gm)(m:mv->mn->my (List mq))(out:List Nat):TE:=λ W H Q=>∃ C U s l s' ws,RE Γ C H s.length U W/\Rp Γ C H s/\m U s=.ok l s'/\nz l=some ws/\(out++ws.flatten).length<=mG /\
 ∀ C' H',Gr C s H C' s' H'->s.length<=s'.length->Rp Γ C' H' s'->Q (.str ⟨(out++ws.flatten).toArray⟩) H'
def PF (Γ:Gm)(X:Cx)(vs:yL)(m:mv->mn->my (List mq)):Prop :=
 ∀ out pins s (W:St) H Q ,Inv X pins W H s->TJv Γ m out W H Q->wpAny (model X.prog X.w) X.A (joinParts ⟨out.toArray⟩ (evalEach vs X.env)) (EP X pins W Q) X.xe s
def PF.eq (e:∀ U s,m U s=m' U s)(h:PF Γ X vs m):PF Γ X vs m':=λ out y s W H Q I q=>by
 obtain⟨C,U,s0,l,s',ws,E,R,hm,q⟩:=q;exact h out y s W H Q I ⟨C,U,s0,l,s',ws,E,R,by rw[e];exact hm,q⟩
def aJ6 (w:List Nat):(⟨w.toArray⟩:Str).length=w.length:=by simp[ib]
def bR3:PF Γ X [] (λ _ s=>.ok [] s):=λ out y s W H Q I q=>by
 obtain⟨C,U,s0,l,s',ws,E,R,hm,hw,hl,q⟩:=q;cases hm;cases hw;rw[kG,az]at q hl;exact joinParts_nilE (joinParts_nil ⟨.str ⟨out.toArray⟩,H,I.tok _,⟨_,rfl⟩,q C H (Gr.refl _ _ _) (av _) R⟩ (by rw[aJ6];exact aq hl zM))
def bg4 (h:nz (d::l)=some ws):∃ w y,d=.str w/\nz l=some y/\ws=w::y:=by
 cases d with
 | str w =>
  have h:(nz l).map (w::·)=some ws:=h;cases e:nz l with
  | none=>rw[e]at h;cases h
  | some y=>rw[e]at h;cases h;exact⟨w,y,rfl,rfl,rfl⟩
 | _=>cases h
def aW6 (h2:PF Γ X vs m2)
  (h1:∀(y:yA) (s:af) (W:St) (H:Hp) (w:List Nat) (Q:VK),w.length<=mG->Inv X y W H s->TEv Γ m1 W H (λ x z=>x=.str ⟨w.toArray⟩/\Q x z) ->
   wpAny (model X.prog X.w) X.A (eval v X.env) (λ u F=>∃ t z,u=.str ⟨w.toArray⟩ t/\Inv X y W z F/\Q (.str ⟨w.toArray⟩) z) X.xe s) :
  PF Γ X (v::vs) (λ U s=>(m1 U s).bind λ d s=>(m2 U s).bind λ l s=>.ok (d::l) s):=λ out y s W H Q I q=>by
 obtain⟨C,U,s0,l,s',ws,E,R,hm,hw,hl,q⟩:=q;obtain⟨d,F,e1,hm⟩:=aa1 hm;obtain⟨l2,s2,e2,hm⟩:=aa1 hm;cases hm;obtain⟨w,Z,rfl,Y,rfl⟩:=bg4 hw;rw[cE,<-ag]at hl q;have J:(out++w).length<=mG:=by rw[ar]at hl;lia
 have G:w.length<=mG:=by rw[ar]at J;lia
 refine joinParts_consE (joinParts_cons (bf (h1 y s W H w (λ x z=>∃ C1,Gr C s0 H C1 F z/\s0.length<=F.length/\Rp Γ C1 z F) G I ⟨C,U,s0,.str w,F,E,R,e1,λ v C1 z g1 l1 b1 r1 R1=>⟨r1.strE,C1,g1,l1,R1⟩⟩) (λ u a0 hu=>?_) λ _ _ x=>x));obtain⟨t,z,rfl,I1,C1,g1,l1,R1⟩:=hu;show(_++_:Str).length<=aP/\_;rw[az7];refine⟨by rw[aJ6];exact aq J zM,h2 (out++w) y a0 W z Q I1 ⟨C1,U,F,l2,s',Z,E.mono g1 l1,R1,e2,Y,hl,λ C2 H2 g2 l2 R2=>q C2 H2 (g1.trans g2 l1) (aq l1 l2) R2⟩⟩
def bs2 (hv:PE X v (TEv Γ G)) y s (W:St) H (w:List Nat)(Q:VK)(I:Inv X y W H s)(q:TEv Γ G W H (λ x z=>x=.str ⟨w.toArray⟩/\Q x z)) :
  wpAny (model X.prog X.w) X.A (eval v X.env) (λ u F=>∃ t z,u=.str ⟨w.toArray⟩ t/\Inv X y W z F/\Q (.str ⟨w.toArray⟩) z) X.xe s :=
 bf (hv y s W H _ I q) (λ u F hu=>by
  obtain⟨x,z,Y,J,ex,Z⟩:=hu;subst ex;obtain⟨t,rfl⟩:=(J)
  exact⟨t,z,rfl,Y,Z⟩) λ _ _ x=>x
def bI7 {F}(hv:PE X v (TEv Γ F))(G:PF Γ X vs z) :
  PF Γ X (.FormattedValue v (-1) none p::vs) (λ U s=>(F U s).bind λ d s=>(z U s).bind λ l s=>.ok (d::l) s) :=
 aW6 G λ y s W H w Q hw I q=>FormattedValue_plain (bf (bs2 hv y s W H w Q I q) (λ u s1 hu=>by
  obtain⟨t,Y,rfl,J,Z⟩:=hu;exact formatField_str (λ t' tk=>⟨t',Y,rfl,J.tok tk,Z⟩) (by rw[aJ6];exact aq hw zM)) λ _ _ x=>x)
def bO1 {F}(hv:PE X v (TEv Γ F))(G:PF Γ X vs z) :
  PF Γ X (v::vs) (λ U s=>(F U s).bind λ d s=>(z U s).bind λ l s=>.ok (d::l) s) :=
 aW6 G λ y s W H w Q hw I q=>bs2 hv y s W H w Q I q
end
section
variable {Γ:Gm} {F:mK} {n:Nat}
def bO9 (h:mC c v=true):EvT Γ X (.Constant v k pos) (mw F (.K c)):=by
 refine .val ?_;unfold mC at h;split at h
 .exact bJ0.imp λ W H Q q=>aA7 (λ _=>rfl) (λ _ _=>RV.nonI) (TEv.eq (λ U s=>rfl) q)
 .rename_i b c;have e:=eq_of_beq h;subst e;exact bC7.imp λ W H Q q=>aA7 (λ _=>rfl) (λ _ _=>RV.blI) (TEv.eq (λ U s=>rfl) q)
 .rename_i i j;have e:=of_decide_eq_true h;subst e;exact bo6.imp λ W H Q q=>aA7 (λ _=>rfl) (λ _ _=>RV.intI) (TEv.eq (λ U s=>rfl) q)
 .rename_i x y;rw[am]at h;have e:=of_decide_eq_true h.1;have e2:=of_decide_eq_true h.2;subst e;exact au4.imp λ W H Q q=>aA7 (λ _=>rfl) (λ _ _=>RV.strI (by unfold mG;lia)) (TEv.eq (λ U s=>rfl) q)
 .cases h
def bC1 {y:yL}(m:mEs J es y=true)(hz:y.length<=1000)(h:PA X y (TAv Γ (ni F es))):PE X (.List y pos) (TFv Γ (DV.evL F (.disp es))):=by
 refine(av7 h).imp λ W H Q q=>?_;obtain⟨C,U,s,l,s',E,R,hm,q⟩:=q;refine⟨C,U,s,l,s',E,R,hm,λ vs C1 z g1 l1 b1 r1 R1=>⟨by rw[r1.length,az9 hm m];exact aN1 hz,λ p hp=>?_⟩⟩;obtain⟨G,R2⟩:=R1.same ((af2.refl z).new hp);refine q p vs C1 _ (g1.trans G l1) l1 b1 zo ?_ (Off.new R1 hp) (RVL.mono G _ _ b1 r1) R2;cases e:H p with
 | none=>rfl
 | some o=>exact absurd hp (g1.st p (by rw[e];simp))
def CompF.eq (c:CompF Γ X m E)(e:∀ U s,m' U s=m U s):CompF Γ X m' E:=by
 have:=funext λ U=>funext λ s=>e U s;subst this;exact c
def zd (h:(a&&b)=true):a=true/\b=true:=by rw[am]at h;exact h
def bE6 {g:String}(G:CG Γ F n X y)(h:y.gl (g:Str)=true):EvT Γ X (.Name (g) p) (mw F (.gl g)):=by
 refine .val ?_;obtain⟨g1,Y,g3⟩:=G.gl h;cases e:F.con g with
 | none =>
  intro z s W H Q I q;obtain⟨C,U,s,d,s',E,R,hm,q⟩:=q;have hm:(match F.con g with|some d=>DV.R.ok d s|none=>.B)=.ok d s':=hm;rw[e]at hm;cases hm
 | some d =>
  obtain⟨v,u,Z,J,h3,h4⟩:=G.con g d e;exact(ax4 g1 Z J Y).imp λ W H Q q=>aA7 h3 h4 (TEv.eq (λ U s=>by show(match F.con g with|some d=>DV.R.ok d s|none=>.B)=DV.R.ok d s;rw[e]) q)
def bU4 (G:CG Γ F n X y)(h:y.var i x=true):EvT Γ X (.Name x p) (mw F (.X i)):=by
 refine .val ?_;unfold Ck.var at h;obtain⟨h,h4⟩:=zd h;obtain⟨h,h3⟩:=zd h;obtain⟨J,z⟩:=zd h;have e1:(x==("__debug__"))=false:=by simpa using h3
 have e2:(x==("__classdict__"))=false:=by simpa using h4
 exact(aE6 (by rw[G.N];exact of_decide_eq_true J) (G.vis z) e1 e2).imp λ W H Q q=>bQ9 i (TEv.eq (λ U s=>rfl) q)
inductive LK (Γ:Gm)(X:Cx)(m:mv->mn->my (List mq))(E:Expr)(k:Nat):Prop where
 | c (h:CompF Γ X m E):LK Γ X m E k
 | f (hk:1<=k) (h:PE X E (TFv Γ m)):LK Γ X m E k
 | s (hk:k=2) (h:PE X E (TLv Γ m)):LK Γ X m E k
def bJ9 (h:LK Γ X m E 0):CompF Γ X m E:=by
 cases h with
 | c h=>exact h
 | f hk h=>lia
 | s hk h=>lia
def ca3 (G:CG Γ F n X y)(h:LK Γ X m E 1):PE X E (TFv Γ m):=by
 cases h with
 | c h=>exact h.pe G.calm
 | f hk h=>exact h
 | s hk h=>lia
def bY7 (G:CG Γ F n X y)(h:LK Γ X m E 2):PE X E (TLv Γ m):=by
 cases h with
 | c h=>exact(h.pe G.calm).imp λ W H Q q=>aN0 q
 | f hk h=>exact h.imp λ W H Q q=>aN0 q
 | s hk h=>exact h
def biOk_inv {F}(h:bX8 z b x F (mEs z es F) (mEs z es (F.take 1))=true) :
  (∃ k t a y J,biK b=some (k,t)/\F=[a,.Name y J]/\x=("isinstance")/\y=t/\z.gl x=true/\z.gl y=true/\mEs z es [a]=true)\/∃ a ys,F=a::ys/\biT b=some x/\z.gl x=true/\mEs z es (a::ys)=true:=by
 unfold bX8 at h;cases hk:biK b with
 | none =>
  rw[hk]at h;cases F with
  | nil=>exact ff h
  | cons a ys =>
   obtain⟨h,h3⟩:=zd h;obtain⟨Y,G⟩:=zd h;exact .inr ⟨a,ys,rfl,of_decide_eq_true Y,G,h3⟩
 | some p =>
  rw[hk]at h;cases F with
  | nil=>exact ff h
  | cons a ys=>cases ys with
   | nil=>exact ff h
   | cons b ys=>cases b with
    | Name y J=>cases ys with
     | nil =>
      obtain⟨h,h5⟩:=zd h;obtain⟨h,h4⟩:=zd h;obtain⟨h,h3⟩:=zd h;obtain⟨Y,G⟩:=zd h;exact .inl ⟨p.1,p.2,a,y,J,rfl,rfl,of_decide_eq_true Y,of_decide_eq_true h3,G,h4,h5⟩
     | cons _ _=>exact ff h
    | _=>exact ff h
mutual
theorem sE:∀(e:nY) (E:Expr) (X:Cx) (z:Ck),CG Γ F n X z->mE z e E=true->EvT Γ X E (mw F e)
 | .X i,E,X,z,G,h=>by
  cases E with
  | Name x p =>
   exact bU4 G h
  | _=>exact ff h
 | .K c,E,X,z,G,h=>by
  cases E with
  | Constant v k p =>
   exact bO9 h
  | _=>exact ff h
 | .gl g,E,X,z,G,h=>by
  cases E with
  | Name x p =>
   obtain⟨Y,J⟩:=zd h;have e:=of_decide_eq_true Y;subst e;exact bE6 G J
  | _=>exact ff h
 | .G op a b,E,X,z,G,h=>by
  cases E with
  | BinOp l o r pE =>
   obtain⟨h,h3⟩:=zd h;obtain⟨Y,J⟩:=zd h;have e:=of_decide_eq_true Y;subst e;exact bt9 G op (sE a _ X z G J) (sE b _ X z G h3)
  | _=>exact ff h
 | .neg a,E,X,z,G,h=>by
  cases E with
  | UnaryOp o l p =>
   cases o with
   | USub =>
    exact bE3 (sE a _ X z G h)
   | _=>exact ff h
  | _=>exact ff h
 | .not a,E,X,z,G,h=>by
  cases E with
  | UnaryOp o l p =>
   cases o with
   | Not =>
    exact bx2 (sE a _ X z G h)
   | _=>exact ff h
  | _=>exact ff h
 | .Z op a b,E,X,z,G,h=>by
  cases E with
  | Compare l os rs pE =>
   cases os with
   | cons o os_0 =>
    cases os_0 with
    | nil =>
     cases rs with
     | cons r rs_0 =>
      cases rs_0 with
      | nil =>
       obtain⟨h,h3⟩:=zd h;obtain⟨Y,J⟩:=zd h;have e:=of_decide_eq_true Y;subst e;exact bx6 G op (av3 h3) (sE a _ X z G J) (sE b _ X z G h3)
      | _=>exact ff h
     | _=>exact ff h
    | _=>exact ff h
   | _=>exact ff h
  | _=>exact ff h
 | .chain o p a b c,E,X,z,G,h=>by
  cases E with
  | Compare l os rs pE =>
   cases os with
   | cons o1 os_0 =>
    cases os_0 with
    | cons o2 os_1 =>
     cases os_1 with
     | nil =>
      cases rs with
      | cons m rs_0 =>
       cases rs_0 with
       | cons r rs_1 =>
        cases rs_1 with
        | nil =>
         obtain⟨h,h5⟩:=zd h;obtain⟨h,h4⟩:=zd h;obtain⟨h,h3⟩:=zd h;obtain⟨Y,J⟩:=zd h;have e:=of_decide_eq_true Y;have e':=of_decide_eq_true J;subst e;subst e';exact ba9 G o p (av3 h5) (sE a _ X z G h3) (sE b _ X z G h4) (sE c _ X z G h5)
        | _=>exact ff h
       | _=>exact ff h
      | _=>exact ff h
     | _=>exact ff h
    | _=>exact ff h
   | _=>exact ff h
  | _=>exact ff h
 | .isN a,E,X,z,G,h=>by
  cases E with
  | Compare l os rs pE =>
   cases os with
   | cons o os1 =>
    cases o with
    | Is =>
     cases os1 with
     | nil =>
      cases rs with
      | cons r rs1 =>
       cases r with
       | Constant v k p1 =>
        cases v with
        | none =>
         cases rs1 with
         | nil =>
          exact bu6 (sE a _ X z G h)
         | _=>exact ff h
        | _=>exact ff h
       | _=>exact ff h
      | _=>exact ff h
     | _=>exact ff h
    | _=>exact ff h
   | _=>exact ff h
  | _=>exact ff h
 | .and a b,E,X,z,G,h=>by
  cases E with
  | BoolOp op vs p=>cases op with
   | And =>
    cases vs with
    | nil=>exact ff h
    | cons l vs=>cases vs with
     | nil=>exact ff h
     | cons r vs=>cases vs with
      | nil =>
       obtain⟨Y,J⟩:=zd h;exact bA1 (sE a _ X z G Y) (sE b _ X z G J)
      | cons r2 vs =>
       obtain⟨Y,J⟩:=zd h;exact bB6 (sE a _ X z G Y) (sE b _ X z G J)
   | _=>exact ff h
  | _=>exact ff h
 | .or a b,E,X,z,G,h=>by
  cases E with
  | BoolOp op vs p=>cases op with
   | Or =>
    cases vs with
    | nil=>exact ff h
    | cons l vs=>cases vs with
     | nil=>exact ff h
     | cons r vs=>cases vs with
      | nil =>
       obtain⟨Y,J⟩:=zd h;exact bH3 (sE a _ X z G Y) (sE b _ X z G J)
      | cons r2 vs =>
       obtain⟨Y,J⟩:=zd h;exact bU1 (sE a _ X z G Y) (sE b _ X z G J)
   | _=>exact ff h
  | _=>exact ff h
 | .ite c a b,E,X,z,G,h=>by
  cases E with
  | IfExp tE l r pE =>
   obtain⟨h,h3⟩:=zd h;obtain⟨Y,J⟩:=zd h;exact bx7 (sE c _ X z G Y) (sE a _ X z G J) (sE b _ X z G h3)
  | _=>exact ff h
 | .tp es,E,X,z,G,h=>by
  cases E with
  | Tuple xs k p =>
   obtain⟨Y,J⟩:=zd h;exact bv2 Y (of_decide_eq_true J) (av0 (sEs es _ X z G Y))
  | _=>exact ff h
 | .J es,E,X,z,G,h=>by
  cases E with
  | List xs p =>
   obtain⟨Y,J⟩:=zd h;exact bx9 Y (of_decide_eq_true J) (av0 (sEs es _ X z G Y))
  | _=>exact ff h
 | .ix a b,E,X,z,G,h=>by
  cases E with
  | Subscript o i p =>
   obtain⟨Y,J⟩:=zd h;exact bG6 G (av3 J) (sE a _ X z G Y) (sE b _ X z G J)
  | _=>exact ff h
 | .slL a lo,E,X,z,G,h=>by
  cases E with
  | Subscript o i p =>
   cases i with
   | Slice lo hi st p2 =>
    cases lo with
    | some l =>
     cases hi with
     | none =>
      cases st with
      | none =>
       obtain⟨Y,J⟩:=zd h;exact ev_slL' G (sE a _ X z G Y) (sE lo _ X z G J)
      | _=>exact ff h
     | _=>exact ff h
    | _=>exact ff h
   | _=>exact ff h
  | _=>exact ff h
 | .slU a hi,E,X,z,G,h=>by
  cases E with
  | Subscript o i p =>
   cases i with
   | Slice lo hi st p2 =>
    cases lo with
    | none =>
     cases hi with
     | some l =>
      cases st with
      | none =>
       obtain⟨Y,J⟩:=zd h;exact bv8 G (sE a _ X z G Y) (sE hi _ X z G J)
      | _=>exact ff h
     | _=>exact ff h
    | _=>exact ff h
   | _=>exact ff h
  | _=>exact ff h
 | .call f as,E,X,z,G,h=>by
  cases E with
  | Call fE xs kw p =>
   cases fE with
   | Name x pN =>
    cases kw with
    | nil =>
     obtain⟨h,h3⟩:=zd h;obtain⟨Y,J⟩:=zd h;have e:=of_decide_eq_true Y;subst e;exact bo2 G J h3 (sAs as _ X z G h3)
    | _=>exact ff h
   | _=>exact ff h
  | _=>exact ff h
 | .bi b es,E,X,z,G,h=>by
  cases E with
  | Call fE xs kw p =>
   cases fE with
   | Name x pN =>
    cases kw with
    | nil =>
     have h:bX8 z b x xs (mEs z es xs) (mEs z es (xs.take 1))=true:=h;rcases biOk_inv h with⟨k,t,a,y,py,hk,rfl,rfl,rfl,J,h4,h5⟩|⟨a,ys,rfl,Y,J,h3⟩
     .exact bB4 G hk J h4 (sEs es _ X z G h5)
     .exact bJ3 G Y J h3 (av0 (sEs es _ X z G h3))
    | _=>exact ff h
   | _=>exact ff h
  | _=>exact ff h
 | .mk k l,E,X,z,G,h=>by
  cases E with
  | ListComp e gs sc p =>
   obtain⟨Y,J⟩:=zd h;have e:=of_decide_eq_true Y;subst e;exact .val (((bJ9 (sL l _ X z G 0 J)).pe G.calm).imp λ W H Q q=>aW7 (TEv.eq (λ U s=>rfl) q))
  | Call fE xs kw p =>
   cases fE with
   | Name x pN =>
    cases xs with
    | cons a xs_0 =>
     cases xs_0 with
     | nil =>
      cases kw with
      | nil =>
       obtain⟨h,h4⟩:=zd h;obtain⟨J,h3⟩:=zd h;rw[bT]at h4;rcases h4 with h4|h4
       .obtain⟨h5,Z⟩:=zd h4;exact .val ((bG7 G (of_decide_eq_true h5) J h3 (bY7 G (sL l _ X z G 2 Z))).imp λ W H Q q=>TEv.eq (λ U s=>rfl) q)
       .obtain⟨h5,Z⟩:=zd h4;exact .val ((bP2 G (of_decide_eq_true h5) J h3 (ca3 G (sL l _ X z G 1 Z))).imp λ W H Q q=>TEv.eq (λ U s=>rfl) q)
      | _=>exact ff h
     | _=>exact ff h
    | _=>exact ff h
   | _=>exact ff h
  | _=>exact ff h
 | .me m o es,E,X,z,G,h=>by
  cases E with
  | Call fE xs kw p =>
   cases fE with
   | Attribute ob x ap =>
    cases kw with
    | nil =>
     obtain⟨h,h5⟩:=zd h;obtain⟨h,h4⟩:=zd h;obtain⟨h,h3⟩:=zd h;obtain⟨Y,J⟩:=zd h;exact bi7 G (of_decide_eq_true Y) J h3 (sE o _ X z G h4).1 h5 (sEs es _ X z G h5)
    | _=>exact ff h
   | _=>exact ff h
  | _=>exact ff h
 | .spl o c,E,X,z,G,h=>by
  cases E with
  | Call fE xs kw p =>
   cases fE with
   | Attribute ob x ap =>
    cases xs with
    | cons a xs_0 =>
     cases xs_0 with
     | nil =>
      cases kw with
      | nil =>
       obtain⟨h,h5⟩:=zd h;obtain⟨h,h4⟩:=zd h;obtain⟨h,h3⟩:=zd h;obtain⟨Y,J⟩:=zd h;have e:=of_decide_eq_true J;subst e;cases a with
       | Constant v k pc =>
        have ev:=of_decide_eq_true Y;subst ev;exact .val ((bU0 G h3 h4 (sE o _ X z G h5).1).imp λ W H Q q=>TEv.eq (λ U s=>rfl) q)
       | _=>exact ff Y
      | _=>exact ff h
     | _=>exact ff h
    | _=>exact ff h
   | _=>exact ff h
  | _=>exact ff h
 | .join o e',E,X,z,G,h=>by
  cases E with
  | Call fE xs kw p =>
   cases fE with
   | Attribute ob x ap =>
    cases xs with
    | cons a xs_0 =>
     cases xs_0 with
     | nil =>
      cases kw with
      | nil =>
       obtain⟨h,Z⟩:=zd h;obtain⟨h,h5⟩:=zd h;obtain⟨h,h4⟩:=zd h;obtain⟨h,h3⟩:=zd h;obtain⟨Y,J⟩:=zd h;have e:=of_decide_eq_true Y;subst e;exact .val ((by4 G J h3 (sE o _ X z G h4).1 Z (sE e' _ X z G h5).1).imp λ W H Q q=>TEv.eq (λ U s=>rfl) q)
      | _=>exact ff h
     | _=>exact ff h
    | _=>exact ff h
   | _=>exact ff h
  | _=>exact ff h
theorem sEs:∀(es:mW) (y:yL) (X:Cx) (z:Ck),CG Γ F n X z->mEs z es y=true->PEs Γ F X es y
 | .nil,y,X,z,G,h=>by
  cases y with
  | nil =>
   exact trivial
  | _=>exact ff h
 | .cons e es,y,X,z,G,h=>by
  cases y with
  | cons x y =>
   obtain⟨h,h3⟩:=zd h;obtain⟨Y,J⟩:=zd h;exact⟨⟨J,sE e _ X z G Y⟩,sEs es _ X z G h3⟩
  | _=>exact ff h
theorem sFs:∀(es:mW) (z:yL) (X:Cx) (y:Ck),CG Γ F n X y->mFs y es z=true->PF Γ X z (ni F es)
 | .nil,z,X,y,G,h=>by
  cases z with
  | nil=>exact(bR3).eq λ _ _=>rfl
  | _=>exact ff h
 | .cons e es,z,X,y,G,h=>by
  cases z with
  | cons x z =>
   cases x with
   | FormattedValue v c sp p =>
    cases sp with
    | none =>
     obtain⟨h,h3⟩:=zd h;obtain⟨Y,J⟩:=zd h;have e1:=of_decide_eq_true Y;subst e1;exact(bI7 (sE e _ X y G J).1 (sFs es _ X y G h3)).eq λ _ _=>rfl
    | _=>exact ff h
   | Constant v j p =>
    obtain⟨Y,J⟩:=zd h;exact(bO1 (sE e _ X y G Y).1 (sFs es _ X y G J)).eq λ _ _=>rfl
   | _=>exact ff h
  | _=>exact ff h
theorem sAs:∀(es:nR) (y:yL) (X:Cx) (z:Ck),CG Γ F n X z->mAs z es y=true->PA X y (TAv Γ (nI F es))
 | .nil,y,X,z,G,h=>by
  cases y with
  | nil =>
   exact ad4.imp λ W H Q q=>aP3 (TAv.eq (λ U s=>rfl) q)
  | _=>exact ff h
 | .ex e es,y,X,z,G,h=>by
  cases y with
  | cons x y =>
   obtain⟨h,h3⟩:=zd h;obtain⟨Y,J⟩:=zd h;exact(aP6 J (sE e _ X z G Y).1 (sAs es _ X z G h3)).imp λ W H Q q=>TAv.eq (λ U s=>rfl) q
  | _=>exact ff h
 | .fn _ _,y,X,z,G,h=>ff h
theorem cl9:∀(es:nR) (y:yL) (X:Cx) (z:Ck),CG Γ F n X z->ch8 z es y=true->PA X y (TAp Γ X.env.cells X.N (nI F es))
 | .nil,y,X,z,G,h=>by
  cases y with
  | nil =>
   exact ad4.imp λ W H Q q=>bB5 (TAp.eq (λ U s=>rfl) q)
  | _=>exact ff h
 | .ex e es,y,X,z,G,h=>by
  cases y with
  | cons x y =>
   obtain⟨h,h3⟩:=zd h;obtain⟨Y,J⟩:=zd h;exact(zq (sE e _ X z G Y).1 (cl9 es _ X z G h3) (zc J)).imp λ W H Q q=>bI5 (TAp.eq (λ U s=>rfl) q)
  | _=>exact ff h
 | .fn _ _,y,X,z,G,h=>ff h
theorem sI:∀(i:DV.I) (E tg:Expr) (X:Cx) (y:Ck),CG Γ F n X y->mI y tg i E=true->PI X tg E (TIv Γ (nZ F i))
 | .seq e,E,tg,X,y,G,h=>by
  obtain⟨z,J⟩:=zd h;exact bu0 G (sE e _ X y G z).1
 | .rg a,E,tg,X,y,G,h=>by
  cases E with
  | Call fE xs kw p =>
   cases fE with
   | Name x pN =>
    cases xs with
    | cons l xs_0 =>
     cases xs_0 with
     | nil =>
      cases kw with
      | nil =>
       obtain⟨h,h4⟩:=zd h;obtain⟨h,h3⟩:=zd h;obtain⟨z,J⟩:=zd h;have e:=of_decide_eq_true z;subst e;exact bo4 G J h4 (sE a _ X y G h3).1
      | _=>exact ff h
     | _=>exact ff h
    | _=>exact ff h
   | _=>exact ff h
  | _=>exact ff h
 | .zip (.seq a) (.seq b),E,tg,X,y,G,h=>by
  cases E with
  | Call fE xs kw p =>
   cases fE with
   | Name x pN =>
    cases xs with
    | cons l xs_0 =>
     cases xs_0 with
     | cons r xs_1 =>
      cases xs_1 with
      | nil =>
       cases kw with
       | nil =>
        obtain⟨h,h7⟩:=zd h;obtain⟨h,Y⟩:=zd h;obtain⟨h,h5⟩:=zd h;obtain⟨h,h4⟩:=zd h;obtain⟨h,h3⟩:=zd h;obtain⟨z,J⟩:=zd h;have e:=of_decide_eq_true z;subst e;cases tg with
        | Tuple es k p=>exact bz0 G J h4 Y (sE a _ X y G h3).1 (sE b _ X y G h5).1
        | _=>exact ff h7
       | _=>exact ff h
      | _=>exact ff h
     | _=>exact ff h
    | _=>exact ff h
   | _=>exact ff h
  | _=>exact ff h
 | .zip (.seq _) (.rg _),E,tg,X,y,G,h=>ff h
 | .zip (.seq _) (.zip _ _),E,tg,X,y,G,h=>ff h
 | .zip (.rg _) _,E,tg,X,y,G,h=>ff h
 | .zip (.zip _ _) _,E,tg,X,y,G,h=>ff h
theorem sL:∀(l:DV.L) (E:Expr) (X:Cx) (J:Ck),CG Γ F n X J->∀ k,mL J k l E=true->LK Γ X (DV.evL F l) E k
 | .comp tg it e caps,E,X,J,G,k,h=>by
  cases E with
  | ListComp elt gs scope p =>
   cases gs with
   | cons g gs1 =>
    cases g with
    | mk tgt iter ifs z =>
     cases ifs with
     | nil =>
      cases gs1 with
      | nil =>
       obtain⟨h,h3⟩:=zd h;obtain⟨h,Y⟩:=zd h;obtain⟨h0,y⟩:=zd h;have e0:=of_decide_eq_true h0;subst e0;have c:=bn2 (pos:=p) G y (sI it _ _ X J G Y) λ Cc cells s H ex=>(sE e _ _ _ ((G.comp y).2.2 Cc cells s H ex).1 h3).1;exact .c (c.eq λ U s=>rfl)
      | _=>exact ff h
     | _=>exact ff h
   | _=>exact ff h
  | _=>exact ff h
 | .compIf tg it i e caps,E,X,J,G,k,h=>by
  cases E with
  | ListComp elt gs scope p =>
   cases gs with
   | cons g gs1 =>
    cases g with
    | mk tgt iter ifs z =>
     cases ifs with
     | cons i1 ifs1 =>
      cases ifs1 with
      | nil =>
       cases gs1 with
       | nil =>
        obtain⟨h,h4⟩:=zd h;obtain⟨h,h3⟩:=zd h;obtain⟨h,Y⟩:=zd h;obtain⟨h0,y⟩:=zd h;have e0:=of_decide_eq_true h0;subst e0;have c:=bC2 (pos:=p) G y (sI it _ _ X J G Y) (λ Cc cells s H ex=>(sE i _ _ _ ((G.comp y).2.2 Cc cells s H ex).1 h3).2) λ Cc cells s H ex=>(sE e _ _ _ ((G.comp y).2.2 Cc cells s H ex).1 h4).1;exact .c (c.eq λ U s=>rfl)
       | _=>exact ff h
      | _=>exact ff h
     | _=>exact ff h
   | _=>exact ff h
  | _=>exact ff h
 | .disp es,E,X,J,G,k,h=>by
  cases E with
  | List xs p =>
   obtain⟨h,Y⟩:=zd h;obtain⟨h0,y⟩:=zd h;exact .f (of_decide_eq_true h0) (bC1 y (of_decide_eq_true Y) (av0 (sEs es _ X J G y)))
  | _=>exact ff h
 | .seq e,E,X,J,G,k,h=>by
  obtain⟨h0,y⟩:=zd h;exact .s (of_decide_eq_true h0) ((sE e _ X J G y).1.imp λ W H Q q=>bU6 (TLv.eq (λ U s=>rfl) q))
end
end
section
variable {Γ:Gm} {F:mK} {n:Nat}
def bn0 (G:CG Γ F n X ck)(c:CompF Γ X m E)(hi:ck.N[i]?=some x)(hl:ck.loc x=true) :
  PS X (.Assign [.Name x px] E pos) (bj1 (TFv Γ m) (aD4 i)):=by
 obtain⟨elt,Z,iter,z,scope,p2,N',caps,wi,g,tc,te,rfl,h1,h2,h3,h4,h5⟩:=c.ex;obtain⟨l1,l2⟩:=G.loc hl;have nd:X.N.Nodup:=by rw[G.N];exact G.nd
 have Y:X.N[i]?=some x:=by rw[G.N];exact hi
 generalize hb:((X.env.blockKind==.function&&X.env.kindOf x==some .local&&px.line==(Expr.ListComp elt [⟨Z,iter,z,0⟩] scope p2).pos.line&&!(scope.names.any λ(n,k)=>n==x&&(k==.local||k==.cell))))=b;have y:eZ (.ListComp elt [⟨Z,iter,z,0⟩] scope p2) (some (.Name x px)) pos.line X.env=pure b:=by rw[<-hb];rfl
 have imp:∀ D W H,bj1 (TFv Γ m) (aD4 i) D W H->bj1 (tComp caps wi g tc te) (aD4 i) D W H:=λ D W H q=>h5 _ _ _ q;cases b with
 | true =>
  have J:=by
   simp only[am]at hb;exact eq_of_beq hb.1.1.2
  exact(aV2 N' caps nd Y J h1 h2 G.calm h3 h4 y).imp imp
 | false=>exact(aM7 nd Y l1 (bd9 N' caps h1 h2 G.calm h3 h4) y l2).imp imp
def bB2 (G:CG Γ F n X y)(J:y.N[i]?=some x)(hl:y.loc x=true)(h:mE y e v=true) :
  PS X (.Assign [.Name x Z] v pos) (TSv Γ (DV.ex F (.A (.Y i) e))):=by
 obtain⟨l1,l2⟩:=G.loc hl;have nd:X.N.Nodup:=by rw[G.N];exact G.nd
 have z:X.N[i]?=some x:=by rw[G.N];exact J
 by_cases hc:ar2 v=true
 .exact(aM7 nd z l1 (sE e v X y G h).1 (aq0 hc) l2).imp λ D W H q=>bc7 (TSv.eq (λ U s=>rfl) q)
 .have hs:=av3 h;cases v with
  | ListComp elt gs sc p =>
   cases e with
   | mk k l =>
    obtain⟨h1,Y⟩:=zd h;have e:=of_decide_eq_true h1;subst e;exact(bn0 G (bJ9 (sL l _ X y G 0 Y)) J hl).imp λ D W H q=>bn7 (TSv.eq (λ U s=>rfl) q)
   | _=>exact ff h
  | SetComp _ _ _ _=>cases hs
  | DictComp _ _ _ _ _=>cases hs
  | _=>exact absurd rfl hc
mutual
theorem sS:∀(st:DV.S) (S:Stmt) (X:Cx) (y:Ck),CG Γ F n X y->mS y st S=true->PS X S (TSv Γ (DV.ex F st))
 | .A tg e,S,X,y,G,h=>by
  cases S with
  | Assign ts v p =>
   cases ts with
   | cons t ts1 =>
    cases ts1 with
    | nil =>
     obtain⟨h,h3⟩:=zd h;obtain⟨J,z⟩:=zd h;cases tg with
     | Y i =>
      have h:=J;cases t with
      | Name x px =>
       obtain⟨a1,a2⟩:=zd h;exact bB2 G (of_decide_eq_true a1) a2 z
      | _=>exact ff h
     | tp is =>
      obtain⟨a1,a2⟩:=zd h3;have h:=J;cases t with
      | Tuple te tk tp=>exact(aX4 (sE e _ X y G z).1 (bv6 G J) (show eZ v (some (.Tuple te tk tp)) p.line X.env=pure false from aq0 a2) (aT9 a1) rfl).imp λ D W H q=>bc7 (TSv.eq (λ U s=>rfl) q)
      | _=>exact ff h
    | _=>exact ff h
   | _=>exact ff h
  | _=>exact ff h
 | .setIx o i e,S,X,y,G,h=>by
  cases S with
  | Assign ts v p2 =>
   cases ts with
   | cons tt ts1 =>
    cases tt with
    | Subscript ob ix p1 =>
     cases ts1 with
     | nil =>
      obtain⟨h,h4⟩:=zd h;obtain⟨h,h3⟩:=zd h;obtain⟨J,z⟩:=zd h;have Y:=av3 z;refine(aX4 (sE e _ X y G h3).1 (bH7 (sE o _ X y G J).1 (sE i _ X y G z).1 (bJ8 (bt3 G.room)) ?_) (show eZ v (some (.Subscript ob ix p1)) p2.line X.env=pure false from aq0 h4) aU0 ?_).imp λ D W H q=>bi6 (TSv.eq (λ U s=>rfl) q)
      .intro w;cases ix<;>first|rfl|cases Y
      .rfl
     | _=>exact ff h
    | _=>exact ff h
   | _=>exact ff h
  | _=>exact ff h
 | .ex e,S,X,y,G,h=>by
  cases S with
  | Expr v p =>
   obtain⟨J,z⟩:=zd h;exact(ba7 (sE e _ X y G J).1 (aq0 z)).imp λ D W H q=>bE4 (TSv.eq (λ U s=>rfl) q)
  | _=>exact ff h
 | .ret e,S,X,y,G,h=>by
  cases S with
  | Return vo p =>
   cases vo with
   | some v =>
    exact(al4 (sE e _ X y G h).1).imp λ D W H q=>bN2 (TSv.eq (λ U s=>rfl) q)
   | _=>exact ff h
  | _=>exact ff h
 | .ite c a b,S,X,y,G,h=>by
  cases S with
  | If t l r p =>
   obtain⟨h,h3⟩:=zd h;obtain⟨J,z⟩:=zd h;exact(bh4 (sE c _ X y G J).2 (sSs a _ X y G z) (sSs b _ X y G h3)).imp λ D W H q=>ca6 (TSv.eq (λ U s=>rfl) q)
  | _=>exact ff h
 | .whl c b,S,X,y,G,h=>by
  cases S with
  | While t l o p =>
   cases o with
   | nil =>
    obtain⟨J,z⟩:=zd h;exact(bk5 (by rw[G.xe];exact kS) (sE c _ X y G J).2 (sSs b _ X y G z)).imp λ D W H q=>bi2 (TSv.eq (λ U s=>rfl) q)
   | _=>exact ff h
  | _=>exact ff h
 | .fo tg it b,S,X,y,G,h=>by
  cases S with
  | For tgt iter l o p =>
   cases o with
   | nil =>
    obtain⟨h,h3⟩:=zd h;obtain⟨J,z⟩:=zd h;exact(bP4 (by rw[G.xe];exact kS) G.calm (sI it _ _ X y G z) (bv6 G J) (sSs b _ X y G h3) (az4 (bQ4 z))).imp λ D W H q=>bQ3 (TSv.eq (λ U s=>rfl) q)
   | _=>exact ff h
  | _=>exact ff h
 | .raise,S,X,y,G,h=>bn5.imp λ D W H q=>by
  obtain⟨C,U,s,c,s',E,R,hm,q⟩:=q;cases hm
theorem sSs:∀(st:oK) (S:yM) (X:Cx) (y:Ck),CG Γ F n X y->mSs y st S=true->PSs X S (TSv Γ (on F st))
 | .nil,S,X,y,G,h=>by
  cases S with
  | nil =>
   exact az1.imp λ D W H q=>bE5 (m:=on F .nil) (λ U s=>rfl) q
  | _=>exact ff h
 | .cons s ss,S,X,y,G,h=>by
  cases S with
  | cons x xs =>
   obtain⟨J,z⟩:=zd h;exact(zB (sS s _ X y G J) (sSs ss _ X y G z)).imp λ D W H q=>br7 (TSv.eq (λ U s=>rfl) q)
  | _=>exact ff h
end
end
noncomputable def mHT (ck:Ck)(n:Str):DV.HT->Expr->Bool
 | .isi _,_=>false
 | .Y c,E=>match E with|.Call (.Name g _) [.Name x _,.Name d _] [] _=>decide (g=("isinstance"))&&ck.gl g&&decide (x=n)&&decide (d=(c))&&ck.gl d|_=>false
 | .not t,E=>match E with|.UnaryOp .Not e _=>mHT ck n t e|_=>false
 | .ve,E=>match E with|.Call (.Name g _) [.Name x _,.Name d _] [] _=>decide (g=("isinstance"))&&ck.gl g&&decide (x=n)&&decide (d=("ValueError"))&&ck.gl d|_=>false
 | .or _ _,_=>false
noncomputable def mHd (ck:Ck)(n:Str):nS->List Stmt->Bool
 | .ret _,_=>false
 | .iff _ _ _,_=>false
 | .nob _,_=>false
 | .noe,_=>false
 | .iffN _ _,_=>false
 | .aoN _ _,_=>false
 | .sup _ h,S=>mHd ck n h S
 | .kin _ _,_=>false
structure CH (X:Cx)(ck:Ck):Prop where
 N:X.N=ck.N
 gl:∀ {x:Str},ck.gl x=true->Gl X x/\(x==("__debug__":Str))=false/\x ≠ "__name__"
 bi:∀ x∈bNames,X.mg x=none
def CG.ch (G:CG Γ F n X y):CH X y:=⟨G.N,G.gl,G.bi⟩
structure XC (F:mK)(K:ac)(mg:yD):Prop where
 at_:∀ c:String,F.xc c=true->∃ Cc,mg (c:Str)=some (.ref Cc)/\ExcCls K Cc/\excI K Cc=true
 cls:∀ c:String,F.xt c=true->∃ Cc,mg (c:Str)=some (.ref Cc)
 sub:∀(c d:String) (Cc D:Addr),F.xc c=true->F.xt d=true->mg (c:Str)=some (.ref Cc)->mg (d:Str)=some (.ref D)->bc K (.ref Cc) (.ref D)=some (mF c d)
 exm:∀(c d:String) (Cc D:Addr),F.xc c=true->F.xt d=true->mg (c:Str)=some (.ref Cc)->mg (d:Str)=some (.ref D)->bJ K (.ref Cc) (.ref D)=some (mF c d)
 ve0:∀ c:String,F.xc c=true->mg ("ValueError":Str)=none
 ve1:∀(c:String) (Cc:Addr),F.xc c=true->mg (c:Str)=some (.ref Cc)->bc K (.ref Cc) (.type "ValueError")=some true
theorem aD1:∀ {y:List Addr} {us:yH},Vals (y.map V.ref) us->us=y.map Value.ref
 | [],_,.nil=>rfl
 | d::y,_,.cons r t=>by
  have e:=aD1 t;subst e;cases(r);rfl
def cl6 (K:ac)(a Cc:Addr):List V->Hp->VK->Prop:=λ xs H Q=>(∃ y b,xs=[.ref a,y]/\((∃ D,y=.ref D/\bc K (.ref Cc) (.ref D)=some b)\/∃(p:Addr) (ds:List Addr),y=.ref p/\H p=some (.tp (ds.map V.ref))/\PySem.W.kitAny K (.ref Cc) (ds.map Value.ref)=some b)/\Q (.T b) H)\/xs=[.ref a,.ty "ValueError"]/\bc K (.ref Cc) (.type "ValueError")=some true/\Q (.T true) H
section
variable {Γ:Gm} {F:mK} {n:Nat} {X:Cx} {ck:Ck} {a Cc:Addr} {oe:Obj}
def aO0 (F:cL X.K (.ref a) (.ref Cc) (λ h=>XAt h a Cc))(hcl:oe.cls=.ref Cc):ae3 (X.hnd a oe) (.builtin "isinstance") (cl6 X.K a Cc):=by
 intro G s W H Z us Q I r h;rcases h with h|⟨rfl,hv,q⟩
 case inr =>
  obtain⟨u,w',rfl,r1,r2⟩:=bf6 r;cases(r1);cases(r2);have hx:XAt s.heap a Cc:=⟨oe,(I.pin (a,oe) (au ..)).1,hcl⟩
  exact bS F I.kIn hx hv (λ z=>nomatch z) λ tk=>⟨.T true,H,I.tok _,rfl,q⟩
 obtain⟨y,b,rfl,hc,q⟩:=h;obtain⟨u,w',rfl,r1,r2⟩:=bf6 r;cases(r1);have hx:XAt s.heap a Cc:=⟨oe,(I.pin (a,oe) (au ..)).1,hcl⟩
 rcases hc with⟨D,rfl,e⟩|⟨p,ds,rfl,hp,e⟩
 .cases(r2);exact bS F I.kIn hx e (λ z=>nomatch z) λ tk=>⟨.T b,H,I.tok _,rfl,q⟩
 .cases(r2);obtain⟨z,its,Y,ob,e1,e2,nn,e3⟩:=(I.hok p _ hp)
  have J:=aD1 Y;subst J;obtain⟨c0,dd,dt,sl⟩:=ob;cases e2;cases e3;exact PySem.W.kia_tup F I.kIn hx e1 e (λ z=>nomatch z) λ tk=>⟨.T b,H,I.tok _,rfl,q⟩
def tHv (i:Nat)(a:Addr)(b:Bool):TE:=λ W H Q=>W[i]?=some (some (.ref a))/\∀ H',af2 H H'->Q (.T b) H'
def tHt (i:Nat)(a:Addr)(b:Bool):TT:=λ W H Q=>W[i]?=some (some (.ref a))/\∀ H',af2 H H'->Q b H'
theorem by5 (G:CH X ck)(xc:XC F X.K X.mg)(Y:F.xc c=true)(Z:X.mg (c:Str)=some (.ref Cc))(kx:cL X.K (.ref a) (.ref Cc) (λ h=>XAt h a Cc))(hcl:oe.cls=.ref Cc)(hi:ck.N[i]?=some nm)(hv:Vis X.env.scope nm)(hd:(nm==("__debug__":Str))=false)(a0:(nm==("__classdict__":Str))=false) :
  ∀ {t:DV.HT} {E:Expr},mHT ck nm t E=true->t.ok F.xt=true->PE (X.hnd a oe) E (tHv i a (t.val c))/\PT (X.hnd a oe) E (tHt i a (t.val c))
 | .isi _,E,h,ho=>ff h
 | .Y d,E,h,ho=>by
  cases E with
  | Call g xs kw p =>
   cases g with
   | Name g pg =>
    cases xs with
    | nil=>exact ff h
    | cons x xs=>cases x with
     | Name x px =>
      cases xs with
      | nil=>exact ff h
      | cons y xs=>cases y with
       | Name y py =>
        cases xs with
        | cons _ _=>exact ff h
        | nil=>cases kw with
         | cons _ _=>exact ff h
         | nil =>
          obtain⟨h,h5⟩:=zd h;obtain⟨h,h4⟩:=zd h;obtain⟨h,h3⟩:=zd h;obtain⟨h1,h2⟩:=zd h;have e1:=of_decide_eq_true h1;have e3:=of_decide_eq_true h3;have e4:=of_decide_eq_true h4;subst e1 e3 e4;obtain⟨g1,g2,g3⟩:=G.gl h2;obtain⟨k1,k2,k3⟩:=G.gl h5;obtain⟨D,hD⟩:=xc.cls d ho;have z:PE (X.hnd a oe) (.Name x px) (bq8 i):=aE6 (X:=X.hnd a oe) (by show X.N[i]?=_;rw[G.N];exact hi) hv hd a0;have J:PE (X.hnd a oe) (.Name (d:Str) py) (tC (.ref D)):=ax4 (X:=X.hnd a oe) k1 hD rfl k2;have pa:PA (X.hnd a oe) [.Name x px,.Name (d:Str) py] _:=zq z (zq J ad4 rfl) rfl;have main:PE (X.hnd a oe) (.Call (.Name "isinstance" pg) [.Name x px,.Name (d:Str) py] [] p) (tHv i a (mF c d)):=by
           refine(ai9 (aO0 kx hcl) (show Gl (X.hnd a oe) "isinstance" from g1) (G.bi _ (by decide)) qD pa g3 g2 rfl rfl).imp λ W H Q q=>?_;exact⟨.ref a,q.1,.inl ⟨.ref D,_,rfl,.inl ⟨D,rfl,xc.sub c d Cc D Y ho Z hD⟩,q.2 _ (af2.refl _)⟩⟩
          refine⟨main,(aW1 main).imp λ W H Q q=>?_⟩;exact⟨q.1,λ H' s=>⟨_,rfl,q.2 H' s⟩⟩
       | _=>exact ff h
     | _=>exact ff h
   | _=>exact ff h
  | _=>exact ff h
 | .ve,E,h,ho=>by
  cases E with
  | Call g xs kw p =>
   cases g with
   | Name g pg =>
    cases xs with
    | nil=>exact ff h
    | cons x xs=>cases x with
     | Name x px =>
      cases xs with
      | nil=>exact ff h
      | cons y xs=>cases y with
       | Name y py =>
        cases xs with
        | cons _ _=>exact ff h
        | nil=>cases kw with
         | cons _ _=>exact ff h
         | nil =>
          obtain⟨h,h5⟩:=zd h;obtain⟨h,h4⟩:=zd h;obtain⟨h,h3⟩:=zd h;obtain⟨h1,h2⟩:=zd h;have e1:=of_decide_eq_true h1;have e3:=of_decide_eq_true h3;have e4:=of_decide_eq_true h4;subst e1 e3 e4;obtain⟨g1,g2,g3⟩:=G.gl h2;obtain⟨k1,k2,k3⟩:=G.gl h5;have z:PE (X.hnd a oe) (.Name x px) (bq8 i):=aE6 (X:=X.hnd a oe) (by show X.N[i]?=_;rw[G.N];exact hi) hv hd a0;have J:PE (X.hnd a oe) (.Name "ValueError" py) (tC (.ty "ValueError")):=aX6 (X:=X.hnd a oe) k1 (xc.ve0 c Y) (by rfl) rfl;have pa:PA (X.hnd a oe) [.Name x px,.Name "ValueError" py] _:=zq z (zq J ad4 rfl) rfl;have main:PE (X.hnd a oe) (.Call (.Name "isinstance" pg) [.Name x px,.Name "ValueError" py] [] p) (tHv i a true):=by
           refine(ai9 (aO0 kx hcl) (show Gl (X.hnd a oe) "isinstance" from g1) (G.bi _ (by decide)) qD pa g3 g2 rfl rfl).imp λ W H Q q=>?_;exact⟨.ref a,q.1,.inr ⟨rfl,xc.ve1 c Cc Y Z,q.2 _ (af2.refl _)⟩⟩
          refine⟨main,(aW1 main).imp λ W H Q q=>?_⟩;exact⟨q.1,λ H' s=>⟨_,rfl,q.2 H' s⟩⟩
       | _=>exact ff h
     | _=>exact ff h
   | _=>exact ff h
  | _=>exact ff h
 | .not t,E,h,ho=>by
  cases E with
  | UnaryOp o l p=>cases o with
   | Not =>
    obtain⟨h1,h2⟩:=by5 G xc Y Z kx hcl hi hv hd a0 (t:=t) (E:=l) h ho;exact⟨(bp7 h1).imp λ W H Q q=>⟨q.1,λ H' s=>⟨_,rfl,q.2 H' s⟩⟩,(br9 h2).imp λ W H Q q=>⟨q.1,λ H' s=>q.2 H' s⟩⟩
   | _=>exact ff h
  | _=>exact ff h
 | .or _ _,E,h,ho=>ff h
end
def tHd (i:Nat)(a:Addr)(o:VK->Hp->Prop):TS:=λ D W H=>W[i]?=some (some (.ref a))/\∀ H',af2 H H'->o D.rt H'
noncomputable def vV:mq->V
 | .T b=>.T b
 | _=>.N
def bO5 (ck:Ck)(nm:Str):List String->List Expr->Bool
 | [],es=>match es with|[]=>true|_=>false
 | c::cs,es=>match es with|e::es=>mHT ck nm (.Y c) e&&bO5 ck nm cs es|_=>false
noncomputable def bx3:List (List Nat)->List Expr->Bool
 | [],es=>match es with|[]=>true|_=>false
 | t::ts,es=>match es with|.Constant (.str y) _ _::es=>decide (y=⟨t.toArray⟩)&&bx3 ts es|_=>false
def kndB (ck:Ck)(nm ks:Str)(e1 e4:Expr)(y1 y5 m4 m5 m6:Str)(es2 es3 es6:yL)(l4 l5 l6:Bool):Bool :=
 (ck.sc.names.lookup nm==some .local)&&((ck.sc.names.lookup ks==some .local)&&(!(nm==("__debug__"))&&(!(nm==("__classdict__"))&&(!(ks==("__debug__"))&&(!(ks==("__classdict__"))&&(mHT ck nm (.not .ve) e1&&(decide (y1=⟨DV.am9.toArray⟩)&&(decide (y5=⟨DV.am9.toArray⟩)&&(decide (m4=("append"))&&(decide (m5=("count"))&&(decide (m6=("index"))&&(l4&&(l5&&(l6&&(bO5 ck nm (DV.ac4.take 4) es2&&(bO5 ck nm ((DV.ac4.drop 4).take 4) es3&&(mHT ck nm (.Y "NoName") e4&&bx3 oD es6)))))))))))))))))
inductive KindS (ck:Ck)(S:yM):Prop
 | mk (nm ks:Str) (e1 e4:Expr) (y1 y5 m4 m5 m6:Str) (es2 es3 es6:yL) (j1 j5 i5 k5 j6:Nat) (p1 q1 r1 a2 b2 c2 a3 b3 c3 d3 f3 a4 ap4 cp4 p4 a5 ap5 pj5 cp5 pi5 pc5 pk5 q5 p5 pl6 a6 ap6 pj6 cp6 ps6 p6:Pos)
 (_:S=[.If e1 [.Return (some (.Constant (.str y1) j1 p1)) q1] [] r1,.Assign [.Name ks a2] (.List es2 b2) c2,.Assign [.Name ks a3] (.BinOp (.Name ks b3) .Add (.List es3 c3) d3) f3,.Expr (.Call (.Attribute (.Name ks a4) m4 ap4) [e4] [] cp4) p4,
  .If (.Compare (.Call (.Attribute (.Name ks a5) m5 ap5) [.Constant (.bool true) j5 pj5] [] cp5) [.NotEq] [.Constant (.int 1) i5 pi5] pc5) [.Return (some (.Constant (.str y5) k5 pk5)) q5] [] p5,.Return (some (.Subscript (.List es6 pl6) (.Call (.Attribute (.Name ks a6) m6 ap6) [.Constant (.bool true) j6 pj6] [] cp6) ps6)) p6])
 (_:ck.N=[nm,ks]) (_:kndB ck nm ks e1 e4 y1 y5 m4 m5 m6 es2 es3 es6 (ap4.endLine==cp4.line) (ap5.endLine==cp5.line) (ap6.endLine==cp6.line)=true):KindS ck S
def mXc (ck:Ck)(f:String)(as:nR)(E:Expr):Bool:=match E with
 | .Call (.Name x _) (e::es) [] _=>decide (x=(f))&&(ck.gl x&&mAs ck as (e::es))
 | _=>false
def mXT (ck:Ck)(m:Expr->Bool):mW->List Expr->Bool
 | .nil,xs=>match xs with|y::_=>m y&&shp y|[]=>false
 | .cons e es,xs=>match xs with|z::zs=>mE ck e z&&mXT ck m es zs|[]=>false
def mXE (ck:Ck):DV.XE->Expr->Bool
 | .call f as,E=>mXc ck f as E
 | .tp es x,E=>match E with|.Tuple xs _ _=>mXT ck (mXE ck x) es xs|_=>false
 | .tcomp tg it e f as caps,E=>match E with
  | .Call (.Name t _) [.ListComp elt [⟨tgt,iter,[],z⟩] scope _] [] _=>decide (t=("tuple"))&&(ck.gl t&&(decide (z=0)&&(aI5 ck tg tgt iter caps scope&&(mI ck tgt it iter&&(mE (ckC ck tgt caps scope) e elt&&mXc (ckC ck tgt caps scope) f as elt)))))
  | _=>false
def mX (ck:Ck):oN->List Stmt->Bool
 | .no,_=>true
 | .kind,S=>@decide (KindS ck S) (cF _)
 | .xret x,S=>match S with|.Return (some e) _::_=>mXE ck x e|_=>false
 | .xasg x,S=>match S with|.Assign [.Name _ _] e _::_=>mXE ck x e&&ar2 e|_=>false
 | .alt a b,S=>mX ck a S&&mX ck b S
 | .rais c,S=>match S with|.Raise (some (.Call (.Name x _) [.Constant (.str _) _ _] [] _)) none _::_=>decide (x=(c))&&ck.gl x|_=>false
 | .call f as,S=>match S with
  | .Return (some (.Call (.Name x _) (e::es) [] _)) _::_=>decide (x=(f))&&ck.gl x&&mAs ck as (e::es)
  | .Assign [.Name _ _] (.Call (.Name x _) (e::es) [] _) _::_=>decide (x=(f))&&ck.gl x&&mAs ck as (e::es)
  | _=>false
 | .iteT c a r,S=>match S with|.If t l [] _::rest=>mE ck c t&&mX ck a l&&mX ck r rest|_=>false
 | .iteE _ _ _,_=>false
 | .seq s b,S=>match S with|x::rest=>mS ck s x&&mX ck b rest|_=>false
 | .forX _ _ _ _,_=>false
 | .whlX _ _ _,_=>false
noncomputable def noL:oN->Bool
 | .alt a b=>noL a&&noL b
 | .iteT _ a r=>noL a&&noL r
 | .iteE _ a r=>noL a&&noL r
 | .seq _ b=>noL b
 | .forX _ _ _ _=>false
 | .whlX _ _ _=>false
 | .xret _=>false
 | .xasg _=>false
 | _=>true
noncomputable def noR:oN->Bool
 | .alt a b=>noR a&&noR b
 | .rais _=>false
 | .iteT _ a r=>noR a&&noR r
 | .iteE _ a r=>noR a&&noR r
 | .seq _ b=>noR b
 | .forX _ _ _ x=>noR x
 | .whlX _ _ x=>noR x
 | _=>true
def aB8 (Γ:Gm)(mg:yD)(C:Nat->Addr)(s:mn)(H:Hp)(c:String)(s':mn)(E:XK):Prop :=
 ∀ C' H' a Cc,Gr C s H C' s' H'->s.length<=s'.length->Rp Γ C' H' s'->mg (c)=some (.ref Cc)->E (.ref a) (some Cc) H'
def TXv (Γ:Gm)(mg:yD)(m:mv->mn->Option (String×mn))(E:XK):TS:=λ _ W H=>∃ C U s c s',RE Γ C H s.length U W/\Rp Γ C H s/\m U s=some (c,s')/\aB8 Γ mg C s H c s' E
def spX (Γ:Gm)(mg:yD)(x:List mq->mn->Option (String×mn)):Sp:=λ vs H _ E=>∃ C s l c s',Rp Γ C H s/\RVL Γ C H l vs/\mr s.length l=true/\x l s=some (c,s')/\aB8 Γ mg C s H c s' E
theorem aB8.trans (h:aB8 Γ F C s H c s' E)(g:Gr C s H C1 y z)(l:s.length<=y.length):aB8 Γ F C1 y z c s' E :=
 λ C' H' a Cc g' G p m=>h C' H' a Cc (g.trans g' l) (aq l G) p m
theorem PA.nox (h:PA X.nox e t):PA X e t:=λ pos y s W H Q I hw =>
 bf (h pos y s W H Q (I.wish _) hw) (λ _ _ ⟨v,H',F,r,q⟩=>⟨v,H',F.unwish,r,q⟩) λ _ _ z=>bn z
theorem PS.nox {st}(h:PS X.nox st t):PS X st t:=λ y s W H D I hw =>
 bf (h y s W H D (I.wish _) hw) (λ _ _ q=>q.unwish) λ _ _ z=>bn z
def XOk (Γ:Gm)(prog:aJ)(w:World)(K:ac)(mg:yD)(base:Heap)(F:mK)(n:Nat):Prop:=∀ f:String,(∀ l s,F.xcall f l s=none) \/
 ∃ a fd ps,FnOk prog w K mg base (CX1 prog w) n a fd ps (spX Γ mg (F.xcall f))/\mg (f)=some (.ref a)/\cy K (.ref a)=true/\Binds K fd ps []
section
variable {Γ:Gm} {F:mK} {n:Nat} {X:Cx} {ck:Ck} {a Cc:Addr} {oe:Obj}
theorem bV4 (G:CG Γ F n X ck)(xc:XC F X.K X.mg)(z:F.xc c=true)(y:X.mg (c:Str)=some (.ref Cc))(Y:cL X.K (.ref a) (.ref Cc) (λ h=>XAt h a Cc))(hcl:oe.cls=.ref Cc)(Z:ck.N[i]?=some nm)(hv:Vis X.env.scope nm)(hd:(nm==("__debug__":Str))=false)(J:(nm==("__classdict__":Str))=false) :
  ∀ {t} {S:yM},mHd ck nm t S=true->t.ok F.xt=true->PSs (X.hnd a oe) S (tHd i a (λ R H=>R (vV (t.vD c)) H))
 | .ret _,S,h,ho=>ff h
 | .iff _ _ _,S,h,ho=>ff h
 | .sup _ g,S,h,ho=>bV4 G xc z y Y hcl Z hv hd J (t:=g) h (zd ho).2
 | .aoN _ _,S,h,ho=>ff h
 | .iffN _ _,S,h,ho=>ff h
 | .nob _,S,h,ho=>ff h
 | .noe,S,h,ho=>ff h
def aY3 {F }(he:PE X e te)(hn:ar2 e=true)(hw:gI [.Name y F] e X.env=pure none):PS X (.Assign [.Name y F] e pos) (λ D W H=>te W H λ _ _=>False):=by
 intro z s W H D I h;exact aX4 he bj9 (aq0 hn) hw rfl z s W H D I h
def bc8 (G:CG Γ F n X.nox ck)(XO:XOk Γ X.prog X.w X.K X.mg X.base F n)(hp:qt (CX1 X.prog X.w) X E){f:String}{es:yL}(hg:ck.gl (f:Str)=true)(m:mAs ck y (e::es)=true) :
  ∃ t,PE X (.Call (.Name (f) p) (e::es) [] pos) t/\∀ D W H Q,TXv Γ X.mg (nA F (.call f y)) E D W H->t W H Q:=by
 obtain⟨g1,g2,g3⟩:=G.gl hg;rcases XO f with hbad|⟨a,fd,ps,hF,Y,hk,hb⟩
 .refine⟨λ _ _ _=>False,λ _ _ _ _ _ _ z=>z.elim,λ D W H Q q=>?_⟩;obtain⟨C,U,s,c,s',Z,R,hm,q⟩:=q;change(match nI F y U s with|.ok l J=>F.xcall f l J|_=>none)=_ at hm;split at hm
  .rw[hbad]at hm;cases hm
  .cases hm
 .have hs:=aK0 m;have pa:=(sAs y _ X.nox ck G m).nox;refine⟨_,bd7 hF G.room g1 Y hk hb .nil hp pa g2 (zc (hs e (au ..))) (zI λ x hx=>hs x (ai _ hx)).1,λ D W H Q q=>?_⟩;obtain⟨C,U,s,c,s',Z,R,hm,q⟩:=q;change(match nI F y U s with|.ok l J=>F.xcall f l J|_=>none)=_ at hm;split at hm
  .rename_i l J e1;refine⟨C,U,s,l,J,Z,R,e1,λ vs C1 H1 g1 l1 b1 r1 R1=>?_⟩;show spX Γ X.mg (F.xcall f) (vs++[]) H1 Q E;rw[az];exact⟨C1,J,l,c,s',R1,r1,b1,hm,q.trans g1 l1⟩
  .cases hm
def Lp (X:Cx)(E:XK):Prop:=lI (model X.prog X.w) X.A X.env X.xe/\(X.ex=[]/\X.stack=X.env::X.outer/\X.env.frame=some X.env.locals)/\Pst X E
noncomputable def D00:Ends:={ nx:=λ _ _=>False,rt:=λ _ _=>False }
def bv7 {mI:mv->mn->my nK}{mx} (h:TXv Γ mg (λ U s=>match mI U s with
  | .ok q s0=>if q.its.length<=mG then oO (λ s=>mV s0 s q.src) (λ d U s=>match nk U tg d with
   | some U=>(me U s).bind λ _ s=>.ok U s
   | none=>.B) (λ d U s=>match nk U tg d with
   | some U=>mx U s
   | none=>none) q.its (nQ U caps) s0 else none
  | _=>none) E D0 W H):tComp caps (TIv Γ mI) (gOf Γ.K tg) bX4 (λ W H Q=>TEv Γ me W H Q\/TXv Γ mg mx E D00 W H) W H Q:=by
 obtain⟨C,U,s,c,s',Ev,R,hm,k⟩:=h;dsimp only at hm;split at hm
 case h_2=>cases hm
 rename_i q s0 e1;split at hm
 case isFalse=>cases hm
 rename_i hlim;refine⟨C,U,s,q,s0,Ev,R,e1,λ J C1 H1 g1 l1 b1 R1 wk D hD=>?_⟩;refine⟨λ i m W' H'=>∃ C' U' t ys,Gr C1 s0 H1 C' t H'/\Rp Γ C' H' t/\RE Γ C' H' t.length U' W'/\H' D=some (.J ys)/\Off C' t D/\ys.length<=i/\i<=q.its.length/\m=q.its.length - i /\
  oO (λ s=>mV s0 s q.src) (λ d U s=>match nk U tg d with
   | some U=>(me U s).bind λ _ s=>.ok U s
   | none=>.B) (λ d U s=>match nk U tg d with
   | some U=>mx U s
   | none=>none) (q.its.drop i) U' t=some (c,s'),⟨q.its.length,?_⟩,?_⟩
 .obtain⟨Y,R2⟩:=R1.same ((af2.refl H1).new hD);exact⟨C1,nQ U caps,s0,[],Y,R2,br1 ((Ev.mono g1 l1).mono Y (av _)) caps,zo,Off.new R1 hD,av _,cA _,by simp,by rw[cB];exact hm⟩
 .rintro i m W' H' ⟨C',U',t,ys,g,R',E',hy,Z,a6,a5,rfl,hc⟩
  have y:=g.le;rcases j9 i q.its.length with hlt|hge
  .have hd:=aj hlt;rw[dS hlt]at hc;unfold oO at hc;split at hc
   case isFalse=>cases hc
   rename_i a1;obtain⟨a2,a3⟩:=(wk C' H' t g y R' a1 i).1 hlt;refine .inr ⟨a2,_,λ W2 H2 n=>⟨q.its.length - (i+1),by omega,n⟩,λ x H2 a4=>?_⟩;obtain⟨sm,rv⟩:=a3 x H2 a4;obtain⟨Y,R2⟩:=R'.same sm;have rd:=rv _ hd;have bd:=zg y _ (am7 b1 hd);cases hb:nk U' tg q.its[i]with
   | none =>
    rw[hb]at hc;cases hc
   | some U3 =>
    rw[hb]at hc;refine bl5 (E'.mono Y (av _)) rd bd hb λ W3 E3=>?_;unfold bX4;refine iteT ?_;split at hc
    .rename_i U1 t3 hs;obtain⟨v,t2,ev,hs⟩:=aa1 hs;cases hs;refine .inl ⟨C',U3,t,v,t3,E3,R2,ev,λ w C3 H5 g5 l5 b5 r5 R5=>?_⟩;have a0:=sm _ _ hy;have F:=g5.fr D _ a0 (by nofun) Z;have G:=Z.mono g5 a0;have gw:Gw C3 t3.length H5 C3 (upd H5 D (.J (ys++[w]))):=⟨λ _ _=>rfl,(Kp.refl H5).put F rfl⟩
     have G5:=(g.trans Y y).trans g5 y;have E5:=E3.mono g5 l5;refine⟨ys,F,by have:=zM;lia,C3,U3,t3,ys++[w],G5.foreign hD F,R5.foreign F G,⟨E5.len,λ j e hj=>?_⟩,zo,G,by simp;omega,hlt,rfl,hc⟩;obtain⟨h1,z,h2,h3⟩:=E5.val j e hj;exact⟨h1,z,h2,RV.monoW gw _ _ h1 h3⟩
    .exact .inr ⟨C',U3,t,c,s',E3,R2,hc,k.trans (g1.trans (g.trans Y y) l1) (aq l1 y)⟩
  .rw[eR hge]at hc;cases hc
def bI1 (G:CG Γ F n X.nox ck)(Y:XOk Γ X.prog X.w X.K X.mg X.base F n)(hp:qt (CX1 X.prog X.w) X E)(m:mXc ck f z e=true) :
  ∃ t,PE X e t/\∀ D W H Q,TXv Γ X.mg (nA F (.call f z)) E D W H->t W H Q:=by
 cases e with
 | Call g xs kw pc=>cases g with
  | Name x pn=>cases xs with
   | nil=>exact ff m
   | cons y xs=>cases kw with
    | cons _ _=>exact ff m
    | nil =>
     obtain⟨Z,h⟩:=zd m;obtain⟨J,h3⟩:=zd h;have e:=of_decide_eq_true Z;subst e;exact bc8 G Y hp J h3
  | _=>exact ff m
 | _=>exact ff m
theorem bS8 (G:CG Γ F n X.nox ck){mx}(hx:∀ y,m y=true->∃ t:TE,PE X y t/\∀ D W H Q,TXv Γ X.mg mx E D W H->t W H Q):∀ es (Y:yL),mXT ck m es Y=true->∃ t,PA X Y t/\∀ D W H Q,TXv Γ X.mg (λ U s=>match ni F es U s with|.ok _ J=>mx U J|_=>none) E D W H->t W H Q
 | .nil,Y,h=>by
  cases Y with
  | nil=>exact ff h
  | cons y ys =>
   obtain⟨Z,h2⟩:=zd h;obtain⟨t,ht,hq⟩:=hx y Z;exact⟨_,zq ht (t:=λ _ _ _=>False) (λ _ _ _ _ _ _ _ z=>z.elim) (zc h2),λ D W H Q q=>hq D W H _ q⟩
 | .cons e es,Y,h=>by
  cases Y with
  | nil=>exact ff h
  | cons z zs =>
   obtain⟨Z,h2⟩:=zd h;obtain⟨t,ht,hq⟩:=bS8 G hx es zs h2;refine⟨_,zq (sE e _ X.nox ck G Z).1.nox ht (zc (av3 Z)),λ D W H Q q=>?_⟩;obtain⟨C,U,s,c,s',Ev,R,hm,k⟩:=q;change(match(mw F e U s).bind λ d s=>(ni F es U s).bind λ l s=>.ok (d::l) s with|.ok _ J=>mx U J|_=>none)=_ at hm;split at hm
   case h_2=>cases hm
   rename_i l1 J e1;obtain⟨d,s2,e2,e1⟩:=aa1 e1;obtain⟨l2,s3,e3,e1⟩:=aa1 e1;cases e1;exact⟨C,U,s,d,s2,Ev,R,e2,λ v C1 H1 g1 l1 b1 r1 R1=>hq D W H1 _ ⟨C1,U,s2,c,s',Ev.mono g1 l1,R1,by show(match ni F es U s2 with|.ok _ J=>mx U J|_=>none)=_;rw[e3];exact hm,k.trans g1 l1⟩⟩
theorem bC3 (G:CG Γ F n X.nox ck)(XO:XOk Γ X.prog X.w X.K X.mg X.base F n)(hp:qt (CX1 X.prog X.w) X E)(hL:Lp X E):∀ x e ,mXE ck x e=true->∃ t,PE X e t/\∀ D W H Q,TXv Γ X.mg (DV.xE F x) E D W H->t W H Q
 | .call f as,e,h=>bI1 G XO hp h
 | .tp es x,e,h=>by
  cases e with
  | Tuple xs k p =>
   obtain⟨t,ht,hq⟩:=bS8 G (bC3 G XO hp hL x) es xs h;exact⟨_,br3 ht,λ D W H Q q=>hq D W H _ q⟩
  | _=>exact ff h
 | .tcomp tg it e' f as caps,e,h=>by
  cases e with
  | Call g xs kw pc=>cases g with
   | Name x pn=>cases xs with
    | nil=>exact ff h
    | cons y xs=>cases y with
     | ListComp elt gs scope p=>cases gs with
      | nil=>exact ff h
      | cons g gs=>cases g with
       | mk tgt iter ifs z=>cases ifs with
        | cons _ _=>cases gs with|nil=>exact ff h|cons _ _=>exact ff h
        | nil=>cases gs with
         | cons _ _=>exact ff h
         | nil=>cases xs with
          | cons _ _=>exact ff h
          | nil=>cases kw with
           | cons _ _=>exact ff h
           | nil =>
            obtain⟨h1,h⟩:=zd h;obtain⟨h2,h⟩:=zd h;obtain⟨h3,h⟩:=zd h;obtain⟨h4,h⟩:=zd h;obtain⟨h5,h⟩:=zd h;obtain⟨h6,h7⟩:=zd h;have e:=of_decide_eq_true h1;subst e;have e:=of_decide_eq_true h3;subst e;obtain⟨c1,c2,c3⟩:=G.comp h4;obtain⟨_,⟨Y,Z,a0⟩,hP⟩:=hL;have hi:=(sI it _ _ X.nox ck G h5).nox;have pc:=bi9 (elt:=elt) (te:=λ W H Q=>TEv Γ (mw F e') W H Q\/TXv Γ X.mg (nA F (.call f as)) E D00 W H) (pos:=p) _ caps Y Z a0 hP c1 hi G.calm (λ Cc cells s H ex Ww hW=>⟨(c3 Cc cells s H ex).2.nox ,bf0,λ J s1 W H1 Q I q=>?_⟩) (az4 c2)
            .obtain⟨g1,g2,g3⟩:=G.gl h2;exact⟨_,aj8 ((aq8 (X:=X) G.K).or (ao8 G.calm)) g1 (G.bi _ (by decide)) aJ1 (zq pc ad4 (zc rfl)) g3 g2 (zc rfl) rfl,λ D W H Q q=>by unfold tCB ao2;exact bv7 (q)⟩
            .rcases q with q|q
             .exact(sE e' _ _ _ (c3 Cc cells s H ex).1 h6).1.nox J s1 W H1 Q I q
             .obtain⟨t,ht,hq⟩:=bI1 (X:=(zv X (ckC ck tgt caps scope).N scope Cc cells s H ex).wish Ww) (c3 Cc cells s H ex).1 XO hW h7;exact ht J s1 W H1 Q I (hq _ _ _ _ q)
     | _=>exact ff h
   | _=>exact ff h
  | _=>exact ff h
theorem aK1 (G:CG Γ F n X.nox ck)(xc:XC F X.K X.mg)(XO:XOk Γ X.prog X.w X.K X.mg X.base F n)(hp:qt (CX1 X.prog X.w) X E):∀(b:oN) (S:yM),(noR b=true\/aS5 X E)->(noL b=true\/Lp X E)->mX ck b S=true->PSs X S (TXv Γ X.mg (nA F b) E)
 | .no,S,_,_,h=>λ J s W H D I q=>by
  obtain⟨_,_,_,_,_,_,_,z,_⟩:=q;cases z
 | .kind,S,_,_,h=>λ J s W H D I q=>by
  obtain⟨_,_,_,_,_,_,_,z,_⟩:=q;cases z
 | .xret x,S,_,hL,h=>by
  have hL:Lp X E:=hL.elim (λ z=>by cases z) id;cases S with
  | nil=>exact ff h
  | cons st S=>cases st with
   | Return v p=>cases v with
    | none=>exact ff h
    | some v =>
     obtain⟨t,ht,hq⟩:=bC3 G XO hp hL x v h;exact(zB (al4 ht) qk).imp λ D W H q=>hq D W H _ q
   | _=>exact ff h
 | .xasg x,S,_,hL,h=>by
  have hL:Lp X E:=hL.elim (λ z=>by cases z) id;cases S with
  | nil=>exact ff h
  | cons st S=>cases st with
   | Assign ts v p=>cases ts with
    | nil=>exact ff h
    | cons t0 ts=>cases t0 with
     | Name y py=>cases ts with
      | cons _ _=>exact ff h
      | nil =>
       obtain⟨Z,Y⟩:=zd h;obtain⟨t,ht,hq⟩:=bC3 G XO hp hL x v Z;exact(zB (aY3 ht Y (by cases v<;>rfl)) qk).imp λ D W H q=>hq D W H _ q
     | _=>cases ts with|nil=>exact ff h|cons _ _=>exact ff h
   | _=>exact ff h
 | .alt a b,S,hT,hL,h=>λ J s W H D I q=>by
  obtain⟨Z,Y⟩:=zd h;obtain⟨C,U,s0,c,s',Ev,R,z,q⟩:=q;have z:(match nA F a U s0 with|some r=>some r|none=>nA F b U s0)=some (c,s'):=z;cases e:nA F a U s0 with
  | some r =>
   rw[e]at z;exact aK1 G xc XO hp a S (hT.imp_left λ z=>(zd z).1) (hL.imp_left λ z=>(zd z).1) Z J s W H D I ⟨C,U,s0,c,s',Ev,R,e.trans z,q⟩
  | none =>
   rw[e]at z;exact aK1 G xc XO hp b S (hT.imp_left λ z=>(zd z).2) (hL.imp_left λ z=>(zd z).2) Y J s W H D I ⟨C,U,s0,c,s',Ev,R,z,q⟩
 | .rais c,S,hT,_,h=>by
  have hT:aS5 X E:=hT.elim (λ z=>by cases z) id;cases hx:F.xc c with
  | false =>
   intro J s W H D I q;obtain⟨_,_,s,_,_,_,_,z,_⟩:=q;change(if F.xc c=true then some (c,s)else none)=_ at z;rw[hx]at z;cases z
  | true =>
   cases S with
   | nil=>exact ff h
   | cons st S=>cases st with
    | Raise v k p=>cases v with
     | none=>exact ff h
     | some v=>cases v with
      | Call g xs kw pc=>cases g with
       | Name x pn=>cases xs with
        | nil=>exact ff h
        | cons y xs=>cases y with
         | Constant cv j py=>cases cv with
          | str t=>cases xs with
           | cons _ _=>exact ff h
           | nil=>cases kw with
            | cons _ _=>exact ff h
            | nil=>cases k with
             | some _=>exact ff h
             | none =>
              obtain⟨Z,Y⟩:=zd h;have e:=of_decide_eq_true Z;subst e;obtain⟨g1,g2,g3⟩:=G.gl Y;obtain⟨Cc,hC,hE,_⟩:=xc.at_ c hx;refine(zB (bo3 hT hE g1 hC G.room.hd g2) qk).imp λ D W H q a=>?_;obtain⟨C,U,s,c',s',Ev,R,hm,q⟩:=q;change(if F.xc c=true then some (c,s)else none)=_ at hm;rw[hx,if_pos rfl]at hm;cases hm;exact q C H a Cc (Gr.refl C s H) (av _) R hC
          | _=>exact ff h
         | _=>exact ff h
       | _=>exact ff h
      | _=>exact ff h
    | _=>exact ff h
 | .call f as,S,_,_,h=>by
  cases S with
  | nil=>exact ff h
  | cons st S=>cases st with
   | Return v p=>cases v with
    | none=>exact ff h
    | some v=>cases v with
     | Call g xs kw pc=>cases g with
      | Name x pn=>cases xs with
       | nil=>exact ff h
       | cons y xs=>cases kw with
        | cons _ _=>exact ff h
        | nil =>
         obtain⟨h,h3⟩:=zd h;obtain⟨Z,Y⟩:=zd h;have e:=of_decide_eq_true Z;subst e;obtain⟨t,ht,hq⟩:=bc8 G XO hp Y h3;exact(zB (al4 ht) qk).imp λ D W H q=>hq D W H _ q
      | _=>exact ff h
     | _=>exact ff h
   | Assign ts v p=>cases ts with
    | nil=>exact ff h
    | cons t0 ts=>cases t0 with
     | Name y py=>cases ts with
      | cons _ _=>exact ff h
      | nil=>cases v with
       | Call g xs kw pc=>cases g with
        | Name x pn=>cases xs with
         | nil=>exact ff h
         | cons y xs=>cases kw with
          | cons _ _=>exact ff h
          | nil =>
           obtain⟨h,h3⟩:=zd h;obtain⟨Z,Y⟩:=zd h;have e:=of_decide_eq_true Z;subst e;obtain⟨t,ht,hq⟩:=bc8 G XO hp Y h3;exact(zB (aY3 ht rfl rfl) qk).imp λ D W H q=>hq D W H _ q
        | _=>exact ff h
       | _=>exact ff h
     | _=>exact ff h
   | _=>exact ff h
 | .iteT c a r,S,hT,hL,h=>by
  cases S with
  | nil=>exact ff h
  | cons st S=>cases st with
   | If t l o p=>cases o with
    | cons _ _=>exact ff h
    | nil =>
     obtain⟨h,h3⟩:=zd h;obtain⟨Z,Y⟩:=zd h;have a0:noR a=true\/aS5 X E:=hT.elim (λ z=>.inl (zd z).1) .inr;have a2:noR r=true\/aS5 X E:=hT.elim (λ z=>.inl (zd z).2) .inr;have a1:noL a=true\/_:=hL.elim (λ z=>.inl (zd z).1) .inr;have a3:noL r=true\/_:=hL.elim (λ z=>.inl (zd z).2) .inr;refine(zB (bh4 (sE c _ X.nox ck G Z).2.nox (aK1 G xc XO hp a _ a0 a1 Y) az1) (aK1 G xc XO hp r _ a2 a3 h3)).imp λ D W H q=>?_;obtain⟨C,U,s,c',s',Ev,R,hm,q⟩:=q;change(match mw F c U s with|.ok (.T b) s1=>if b then nA F a U s1 else nA F r U s1|_=>none)=_ at hm;split at hm
     .rename_i b s1 e1;refine⟨C,U,s,b,s1,Ev,R,e1,λ C1 H1 g1 l1 R1=>?_⟩;cases b with
      | true=>exact⟨C1,U,s1,c',s',Ev.mono g1 l1,R1,hm,q.trans g1 l1⟩
      | false=>exact⟨C1,U,s1,c',s',Ev.mono g1 l1,R1,hm,q.trans g1 l1⟩
     .cases hm
   | _=>exact ff h
 | .iteE _ _ _,S,_,_,h=>ff h
 | .seq st b,S,hT,hL,h=>by
  cases S with
  | nil=>exact ff h
  | cons x S =>
   obtain⟨Z,Y⟩:=zd h;refine(zB (sS st _ X.nox ck G Z).nox (aK1 G xc XO hp b _ hT hL Y)).imp λ D W H q=>?_;obtain⟨C,U,s,c',s',Ev,R,hm,q⟩:=q;change(match DV.ex F st U s with|.ok (.next U1) s1=>nA F b U1 s1|_=>none)=_ at hm;split at hm
   .rename_i U1 s1 e1;exact⟨C,U,s,.next U1,s1,Ev,R,e1,λ C1 H1 g1 l1 R1 W1 a4=>⟨C1,U1,s1,c',s',a4,R1,hm,q.trans g1 l1⟩⟩
   .cases hm
 | .forX _ _ _ _,S,_,_,h=>ff h
 | .whlX _ _ _,S,_,_,h=>ff h
def bv3 (hx:X.xe=λ _ _=>False)(h:PSs X tb t):PS X (.Try tb (h₀::hs) [] [] p) t:=by
 intro y s W H D I q;refine kH (bf (h y s W H D I q) (λ f F z=>?_) (λ e F z=>?_))
 .cases f with
  | next=>exact dw z
  | _=>exact z
 .rw[hx]at z;exact z.elim
def EH (Cc:Addr)(v:VK->Hp->Prop)(D:Ends):XK:=λ _ o H'=>o=some Cc/\∀ H'',af2 H' H''->v D.rt H''
def bC6 {G:yM}(a2:X.ex=[])(a4:X.stack=X.env::X.outer)(a6:X.env.frame=some X.env.locals)
  (hc:bJ X.K (.ref Cc) (.ref D')=some true) (hg:Gl X x) (hm:X.mg x=some (.ref D')) (hd:(x==("__debug__":Str))=false) (hN:X.N.Nodup) (hi:X.N[i]?=some nm) (hl:X.env.scope.names.lookup nm=some .local)
  (a1:∀(pn:yA) (Ww:yB) (E:XK),qt (CX1 X.prog X.w) { X with pn:=pn,xe:=Ww } E->PSs { X with pn:=pn,xe:=Ww } tb (TXv Γ X.mg m E)) (a7:∀ a oe,oe.cls=.ref Cc->PSs (X.hnd a oe) (b₀::G) (tHd i a b)) :
  PS X (.Try tb (.ExceptHandler (some (.Name x np)) (some nm) (b₀::G) Z::hs) [] [] p) (λ D W H=>TXv Γ X.mg m (EH Cc b D) D W H):=by
 intro y s W H D I q
 let Ww:Value->af->Prop:=λ e s₁=>wpAny (model X.prog X.w) X.A (gW e X.env) (λ _ s₂=>wpAny (model X.prog X.w) X.A (jc e none) (λ _ s₃=>wpAny (model X.prog X.w) X.A (handleBy e X.env (.ExceptHandler (some (.Name x np)) (some nm) (b₀::G) Z::hs)) (SP X y D) X.xe s₃) X.xe s₂) X.xe s₁
 have a3:({ X with pn:=X.pn++y,xe:=Ww }:Cx).Ok:=⟨I.ok.mod,I.ok.kind,I.ok.glob,I.ok.blt,I.ok.above,I.ok.inj,I.ok.has,I.ok.cab,I.ok.hd,I.ok.frames,I.ok.stk,I.ok.exf,I.ok.bs,I.ok.bsz,I.ok.noex,I.ok.exfs,I.ok.funs,I.ok.frf⟩
 have I':Inv { X with pn:=X.pn++y,xe:=Ww } [] W H s:=⟨a3,I.os,I.bare,I.base,I.loc,I.cell,I.free,I.freeC,λ p hp=>I.pin p (by rw[az]at hp;exact hp),I.hok,I.len⟩
 have F:∀ {Y:yA} {W':St} {H':Hp} {s':af},Inv { X with pn:=X.pn++y,xe:=Ww } Y W' H' s'->Inv X y W' H' s':=λ J=>⟨I.ok,J.os,J.bare,J.base,J.loc,J.cell,J.free,J.freeC,λ p hp=>J.pin p (c5 _ hp),J.hok,J.len⟩
 have hp:qt (CX1 X.prog X.w) { X with pn:=X.pn++y,xe:=Ww } (EH Cc b D):=λ Y W' H' s' e a8 J h=>by
  obtain⟨a,Cc',a9,rfl,T,eC,hq⟩:=CX1.tr J a2 h;cases eC;obtain⟨a0,oe,vs,T0,oT,ts,h1,h2,h3,h4,h5,h6,a5,h7⟩:=T.tr;have hn:i < W'.length:=by rw[J.len];exact(ah.mp hi).1
  exact aT8 ⟨F T.inv,T.n0,T.nH,λ p hp=>T.np p (c5 _ hp),a0,oe,vs,T0,oT,ts,h1,h2,h3,h4,h5,h6,λ p hp=>a5 p (c5 _ hp),h7⟩ a2 a4 a6 hc hg hm hd hN hi hl (a7 a) ⟨by rw[aX hn],hq⟩
 refine kH (bf (a1 _ Ww _ hp [] s W H D I' q) (λ f s1 z=>?_) (λ e s1 z=>z));cases f with
 | next=>obtain⟨W1,H1,J,z⟩:=z;exact dw ⟨W1,H1,F J,z⟩
 | brk=>obtain⟨W1,H1,J,z⟩:=z;exact⟨W1,H1,F J,z⟩
 | cont=>obtain⟨W1,H1,J,z⟩:=z;exact⟨W1,H1,F J,z⟩
 | ret u=>obtain⟨v,W1,H1,J,r,z⟩:=z;exact⟨v,W1,H1,F J,r,z⟩
end
section
variable {X:Cx} {a:Addr} {oe:Obj}
def bn3 {st:Stmt}{t0:Hp->VK->Prop}(F:Fun X.K nm nm st f fd)(S:FnScope N [p] (defScope st))(hb:Binds X.K fd [p] [])(hr:Room (k+1) X.A)(hg:Gl X nm)(hm:X.mg nm=some (.ref f))
  (a3:(nm==("__debug__":Str))=false) (ha:PE (X.hnd a oe) (.Name x px) (bq8 i))
  (a1:∀(G:Value),fd.code=G->∀(s:af) (H:Hp) (Q:VK),Room k (X.A.deeper (fG nm (defScope st) s.heap.objs.size f G))->t0 H Q ->
   ∃ t,PSs ((al6 CX0 X.prog X.w X.K X.mg X.base N nm (defScope st) f G X.A X.stack s H (λ _ _ _=>False)).hnd a oe) (zD st) t/\t { nx:=λ _ H'=>Q .N H',rt:=Q } (qv N [.ref a]) H) :
  PE (X.hnd a oe) (.Call (.Name nm pn) [.Name x px] [] pos) (λ W H Q=>W[i]?=some (some (.ref a))/\t0 H Q):=by
 obtain⟨oc,od,kV,a7,pm,an,G,ct,a6,rfl,lk,a5⟩:=F.ex;intro a2 s W H Q I h;have pa:PA (X.hnd a oe) [.Name x px] (ao2 (bq8 i) bg8):=zq ha ad4;refine di (aA1 (X:=X.hnd a oe) I hg hm ?_ a3);refine jA (h₀:=X.base) I.ok.mod.kin F.kp (thn (pa pos a2 s W H (λ vs Y=>vs=[.ref a]/\t0 Y Q) I ⟨.ref a,h.1,rfl,h.2⟩) λ us s1 ⟨vs,Y,Z,r,q0,q⟩=>⟨Z.kIn,?_⟩) rfl rfl;subst q0;obtain⟨u,rfl,ru⟩:=r.one;cases(show u=Value.ref a from ru);have e1:=Z.env0;have e0:Env0 X.prog X.w X.K X.mg X.base X.A X.stack s1 Y:=⟨e1.frames,e1.mod,e1.bs,e1.bsz,e1.funs,e1.frf,e1.hok,e1.bare⟩
 obtain⟨p1,p2,p3,p4,p5⟩:=Z.pin (a,oe) (au ..);refine jz (hJ (R:=CR CX0 X.stack X.prog X.w Y s1 Q (λ _ _ _=>False)) ?_ λ r s' hq=>?_)
 .have KX:X.K.In s1.heap:=Z.kIn;have a4:s1.heap.NoLimit:=Z.nolimit;have a0:∀ y∈[p].zip [Value.ref a],(defScope st).names.lookup y.1=some .local\/((defScope st).names.lookup y.1=some .cell/\((bz (s1.heap.objs.size+1) (defScope st).names []).lookup y.1).isSome=true):=λ⟨n,v⟩ hy=>by
   rcases S.par n (fF hy).1 with q|q
   .exact .inl q
   .exact .inr ⟨q,eH _ _ _ (.inl q)⟩
  refine iy (show(X.A.mark (some (.ref a))).depth<_ from hr.depth) (KX _ _ lk) rfl S.co S.gen rfl (jB KX a5) (hb s1 [.ref a] KX rfl _ _ _ _ ?_);refine gb S.kind a0 λ env he s2 x=>?_;subst he;refine⟨a4.keeps x.toInCall.keep,codeAny_func ?_⟩;obtain⟨t,ht,hq⟩:=a1 G rfl s1 Y Q (hr.deeper _) q;have J:Inv (al6 CX0 X.prog X.w X.K X.mg X.base N nm (defScope st) f G X.A X.stack s1 Y (λ _ _ _=>False)) [] (qv N [.ref a]) Y s2:=aA3 S hr.hd e0 rfl (.cons rfl .nil) x;have J2:Inv ((al6 CX0 X.prog X.w X.K X.mg X.base N nm (defScope st) f G X.A X.stack s1 Y (λ _ _ _=>False)).hnd a oe) [] (qv N [.ref a]) Y s2 :=
   ⟨J.ok.hnd a oe,J.os,J.bare,J.base,J.loc,J.cell,J.free,J.freeC,λ y hy=>by
    rcases aw.mp hy with z|z
    .subst z;refine⟨x.toInCall.keep _ _ p1,p2,aC (aL p1),λ z=>?_,p5⟩;rcases aw.mp (Z.stkSub a z)with q|q
     .exact p3 q
     .exact p4 q
    .exact J.pin y z,J.hok,J.len⟩
  refine bf (ht [] s2 (qv N [.ref a]) Y _ J2 hq) (λ fl s' hs=>?_) λ e s' hs=>hs.elim;have fin:∀ {W':St} {H':Hp} {v:V} {u:Value},Inv ((al6 CX0 X.prog X.w X.K X.mg X.base N nm (defScope st) f G X.A X.stack s1 Y (λ _ _ _=>False)).hnd a oe) [] W' H' s'->RelV v u->Q v H'->CE X.stack X.prog X.w Y s1 Q u s' :=
   λ {W' H' v u} J rv q=>⟨v,H',J.os,J.bare,J.base,J.hok,rv,q⟩
  cases fl with
  | ret u =>
   obtain⟨v,W',H',J,rv,q⟩:=hs;exact fin J rv q
  | next =>
   obtain⟨W',H',J,q⟩:=hs;exact fin (v:=V.N) (u:=Value.none) J rfl q
  | brk =>
   obtain⟨_,_,_,q⟩:=hs;exact bn q
  | cont =>
   obtain⟨_,_,_,q⟩:=hs;exact bn q
 .cases r with
  | error e=>exact hq.elim
  | ok fl =>
   cases fl with
   | ret u=>exact Z.after hq
   | next=>exact bn hq
   | brk=>exact bn hq
   | cont=>exact bn hq
noncomputable def isT:Value->Bool
 | .bool b=>b
 | _=>false
theorem ax8:∀ {bs:List Bool} {us:yH},Vals (bs.map V.T) us->us=bs.map Value.bool
 | [],_,.nil=>rfl
 | b::bs,_,.cons r t=>by
  have e:=ax8 t;subst e;cases(r);rfl
def bq3 {s}{bs:List Bool}:∀ y,y∈(bs.map Value.bool).toArray->gq A s y (.bool true) (isT y):=λ y hy=>by
 obtain⟨b,_,rfl⟩:=aN.mp (List.mem_toArray.mp hy);have:=iQ (A:=A) (s:=s) b true;have e:(b==true)=isT (.bool b):=by cases b<;>rfl
 rwa [e]at this
def be9:MtR X "list.count" (λ x vs H Q=>∃(l:Addr) (bs:List Bool),x=.ref l/\vs=[.T true]/\H l=some (.J (bs.map V.T))/\Q (.int (bs.countP id)) H):=by
 intro y s W H x vs v us Q I G rv h;obtain⟨l,bs,rfl,rfl,hH,q⟩:=h;cases G;obtain⟨u,rfl,Y⟩:=rv.one;cases(Y);obtain⟨z,its,n,r,hl,e⟩:=I.lstM hH;have Z:=ax8 r;subst Z;refine dk iR ⟨_,e,rfl⟩ F.entry_list_count (F.args_list_count_2 _ _) (SeqAt.list_countAt l _ n none #[] (.bool true) isT) ⟨e,bq3,?_⟩;have J:(bs.map Value.bool).toArray.toList.countP isT=bs.countP id:=by
  rw[List.toList_toArray,List.countP_map];rfl
 rw[J];exact⟨.int (bs.countP id),H,I.tok _,⟨_,rfl⟩,q⟩
def bd4:MtR X "list.index" (λ x vs H Q=>∃(l:Addr) (bs:List Bool) (j:Nat),x=.ref l/\vs=[.T true]/\H l=some (.J (bs.map V.T))/\bs[j]?=some true/\(∀ i:Nat,i<j->bs[i]?=some false)/\Q (.int (j)) H):=by
 intro y s W H x vs v us Q I Y rv h;obtain⟨l,bs,j,rfl,rfl,hH,G,J,q⟩:=h;cases Y;obtain⟨u,rfl,ru⟩:=rv.one;cases(ru);obtain⟨z,its,n,r,hl,e⟩:=I.lstM hH;have ei:=ax8 r;subst ei;have hj:=(ah.mp G).1;have hz:=by rw[ao]at z;exact z
 rw[gy]at hz;refine dk iU ⟨_,e,rfl⟩ F.entry_list_index (F.args_list_index_2 _ _) (SeqAt.list_indexAt l _ n none #[] (.bool true) isT j (by simp;omega) (by lia) ?_ ?_) ⟨e,bq3,?_⟩
 .have:=(ah.mp G).2;simp[isT,this]
 .intro m hm hlt;have Z:=by simpa using hm
  have:=(ah.mp (J m hlt)).2;simp[isT,this]
 .exact⟨.int (j),H,I.tok _,⟨_,rfl⟩,q⟩
end
section
variable {F:mK} {X:Cx} {ck:Ck} {a Cc:Addr} {oe:Obj}
def aO4 (h:mHT ck nm (.Y c) E=true):shp E=true:=by
 cases E<;>first|rfl|exact ff h
def ck5 (h:shp e=true):((eY cp (bD [e] env)).all (λ x=>!x.1)&&(backToKw cp (kL [] env)).all (λ x=>x.1.isSome)&&decide ([e].length+([]:List iZ).length+(if([]:List iZ).isEmpty then 0 else 1)<30))=true:=by
 cases e<;>first|rfl|cases h
theorem br6 (G:CH X ck)(xc:XC F X.K X.mg)(z:F.xc c=true)(y:X.mg (c:Str)=some (.ref Cc))(Z:cL X.K (.ref a) (.ref Cc) (λ h=>XAt h a Cc))(hcl:oe.cls=.ref Cc){i:Nat}(hi:ck.N[i]?=some nm)(hv:Vis X.env.scope nm)(hd:(nm==("__debug__":Str))=false)(J:(nm==("__classdict__":Str))=false) :
  ∀ {Y} {es:yL},bO5 ck nm Y es=true->Y.all F.xt=true->PA (X.hnd a oe) es (λ W H Q=>W[i]?=some (some (.ref a))/\∀ H',af2 H H'->Q ((Y.map (mF c)).map V.T) H')
 | [],[],_,_=>ad4.imp λ W H Q q=>q.2 H (af2.refl _)
 | [],_::_,h,_=>ff h
 | _::_,[],h,_=>ff h
 | d::Y,e::es,h,ho=>by
  obtain⟨h1,h2⟩:=zd h;rw[ci,am]at ho;have q1:=(by5 G xc z y Z hcl hi hv hd J h1 ho.1).1;have q2:=br6 G xc z y Z hcl hi hv hd J h2 ho.2;refine(zq q1 q2 (zc (aO4 h1))).imp λ W H Q q=>⟨q.1,λ H1 s1=>⟨q.1,λ H2 s2=>q.2 H2 (s1.trans s2)⟩⟩
theorem be4:∀ {ts} {es:yL},bx3 ts es=true->PA X es (λ W H Q=>Q (ts.map λ t=>V.str ⟨t.toArray⟩) H)
 | [],[],_=>ad4.imp λ W H Q q=>q
 | [],_::_,h=>ff h
 | _::_,[],h=>ff h
 | t::ts,e::es,h=>by
  cases e with
  | Constant k j p=>cases k with
   | str y =>
    obtain⟨F,z⟩:=zd h;have e:=of_decide_eq_true F;subst e;exact(zq au4 (be4 z) rfl).imp λ W H Q q=>q
   | _=>exact ff h
  | _=>exact ff h
def bF9 (h:KindS ck S):mX ck .kind S=true:=@decide_eq_true _ (cF _) h
def bu5 (hl:bs.length=9)(h:bs.countP id=1):∃ j,j<9/\bs[j]?=some true/\(∀ i:Nat,i<j->bs[i]?=some false)/\oD[j]?=some (oE bs):=by
 have hx:=by
  have:0<bs.countP id:=by lia
  exact List.countP_pos_iff.mp this
 have hj:=List.findIdx_lt_length_of_exists hx;have ht:DV.ag8.length=9:=rfl;refine⟨bs.findIdx id,by lia,?_,λ i F=>?_,?_⟩
 .rw[aj hj];have:=List.findIdx_getElem (w:=hj);exact congrArg some this
 .have z:i<bs.length:=by lia
  rw[aj z];have:=List.not_of_lt_findIdx F;simpa using this
 .unfold oE;rw[if_pos h];have y:bs.findIdx id<DV.ag8.length:=by lia
  rw[aj y,bq,aj y];rfl
def by8 (G:CH X ck)(xc:XC F X.K X.mg)(b1:F.xc c=true)(a1:X.mg (c:Str)=some (.ref Cc))(kx:cL X.K (.ref a) (.ref Cc) (λ h=>XAt h a Cc))(hcl:oe.cls=.ref Cc)(nd:X.N.Nodup)(a9:X.env.scope=ck.sc)(hx:DV.ac4.all F.xt=true)
  (h:KindS ck S):PSs (X.hnd a oe) S (λ D W H=>W=[some (.ref a),none]/\∀ H',af2 H H'->D.rt (.str ⟨(mR c).toArray⟩) H'):=by
 obtain⟨nm,ks,e1,e4,y1,y5,m4,m5,m6,g0,f1,e0,j1,j5,i5,k5,j6,p1,q1,r1,a2,b2,c2,a3,b3,c3,d3,f3,a4,f4,f2,p4,a5,d0,e5,f6,e6,e7,d5,q5,p5,f0,a6,f5,e9,e8,f7,p6,rfl,eN,hh⟩:=h;unfold kndB at hh;obtain⟨l1,hh⟩:=zd hh;obtain⟨l2,hh⟩:=zd hh;obtain⟨d1,hh⟩:=zd hh;obtain⟨d2,hh⟩:=zd hh;obtain⟨b4,hh⟩:=zd hh;obtain⟨d4,hh⟩:=zd hh;obtain⟨c4,hh⟩:=zd hh;obtain⟨z1,hh⟩:=zd hh;obtain⟨z5,hh⟩:=zd hh;obtain⟨z2,hh⟩:=zd hh;obtain⟨z3,hh⟩:=zd hh;obtain⟨z4,hh⟩:=zd hh;obtain⟨c1,hh⟩:=zd hh;obtain⟨b5,hh⟩:=zd hh;obtain⟨c0,hh⟩:=zd hh;obtain⟨c6,hh⟩:=zd hh;obtain⟨b6,hh⟩:=zd hh;obtain⟨J,b9⟩:=zd hh;have z:=of_decide_eq_true z1;subst z;have z:=of_decide_eq_true z5;subst z;have z:=of_decide_eq_true z2;subst z;have z:=of_decide_eq_true z3;subst z;have z:=of_decide_eq_true z4;subst z;have l1:X.env.scope.names.lookup nm=some .local:=by rw[a9];exact eq_of_beq l1
 have l2:X.env.scope.names.lookup ks=some .local:=by rw[a9];exact eq_of_beq l2
 have d1:(nm==("__debug__":Str))=false:=by simpa using d1
 have d2:(nm==("__classdict__":Str))=false:=by simpa using d2
 have d3:(ks==("__debug__":Str))=false:=by simpa using b4
 have d4:(ks==("__classdict__":Str))=false:=by simpa using d4
 have a7:ck.N[0]?=some nm:=by rw[eN];rfl
 have a0:(X.hnd a oe).N[1]?=some ks:=by show X.N[1]?=_;rw[G.N,eN];rfl
 have hT:=λ {t:DV.HT} {E:Expr} (m:mHT ck nm t E=true) (o:t.ok F.xt=true)=>by5 (a:=a) (oe:=oe) G xc b1 a1 kx hcl a7 (.inl l1) d1 d2 m o;have b0:=λ {cs:List String} {es:yL} (m:bO5 ck nm cs es=true) (o:cs.all F.xt=true)=>br6 (a:=a) (oe:=oe) G xc b1 a1 kx hcl a7 (.inl l1) d1 d2 m o;have vk:∀ {p:Pos},PE (X.hnd a oe) (.Name ks p) (bq8 1):=aE6 a0 (.inl l2) d3 d4;have x4:(DV.ac4.take 4).all F.xt=true:=aD.mpr λ y hy=>aD.mp hx y (fy hy);have x5:((DV.ac4.drop 4).take 4).all F.xt=true:=aD.mpr λ y hy=>aD.mp hx y (dK (fy hy));have x9:(DV.HT.Y "NoName").ok F.xt=true:=aD.mp hx "NoName" (by decide);refine(zB (bh4 (hT c4 rfl).2 (ap9 (al4 au4)) az1) (zB (aM7 nd a0 (.inl l2) (av7 (b0 c6 x4)) rfl (.inr l2)) (zB (aM7 nd a0 (.inl l2) (bU3 bq1 vk (av7 (b0 b6 x5))) rfl (.inr l2)) (zB (ba7 (bl8 cG eK gR aq1 vk (zq (hT J x9).1 ad4 (zc (aO4 J))) rfl (ck5 (aO4 J)) c1 (zc (aO4 J)) rfl) rfl) (zB (bh4 (bc9 cd9 (bl8 cG iR PySem.F.type_list_count be9 vk (zq bC7 ad4) rfl rfl b5) bo6 rfl) (ap9 (al4 au4)) az1)
  (ap9 (al4 (bH1 bf5 (av7 (be4 b9)) (bl8 cG iU PySem.F.type_list_index bd4 vk (zq bC7 ad4) rfl rfl c0) (au8 rfl))))))))).imp λ D W H q=>?_
 obtain⟨rfl,q⟩:=q;have Y:∀ {k:Nat},k<=1000->k<=aP:=λ h=>fW (ar1 h);refine⟨rfl,λ H1 s1=>?_⟩;show(if(!true)=true then _ else _);rw[if_neg (by decide)];refine⟨rfl,λ H2 s2=>⟨Y (by show 4<=1000;decide),λ p hp=>?_⟩⟩;refine⟨.ref p,rfl,rfl,λ H3 s3=>⟨Y (by show 4<=1000;decide),λ p' a8=>?_⟩⟩;have h3:H3 p=some (.J (((DV.ac4.take 4).map (mF c)).map V.T)):=s3 _ _ (by rw[zo]);have n1:p≠p':=zm h3 a8;refine⟨p,p',_,_,rfl,rfl,by rw[zu n1];exact h3,zo,Y (by show 8<=1000;decide),λ r hr=>?_⟩;refine⟨.ref r,rfl,.inl ⟨rfl,_,SqL.of zo⟩,rfl,λ H4 s4=>?_⟩;have h4:=s4 _ _ zo;refine⟨r,_,_,rfl,rfl,h4,ar1 (by show 8<=1000;decide),?_⟩;have h5:(upd H4 r (.J ((((DV.ac4.take 4).map (mF c)).map V.T++(((DV.ac4.drop 4).take 4).map (mF c)).map V.T)++[.T ((DV.HT.Y "NoName").val c)]))) r=some (.J ((DV.ac4.map (mF c)).map V.T)):=by
  rw[zo];rfl
 have s5:af2 H (upd H4 r (.J ((((DV.ac4.take 4).map (mF c)).map V.T++(((DV.ac4.drop 4).take 4).map (mF c)).map V.T)++[.T ((DV.HT.Y "NoName").val c)]))):=λ b o e=>by
  have e1:=s1 b o e;have e2:=s2 b o e1;have e3:=s3 b o (by rw[zu (zm e2 hp)];exact e2);have Z:(upd H3 p' (.J ((((DV.ac4.drop 4).take 4).map (mF c)).map V.T))) b=some o:=by rw[zu (zm e3 a8)];exact e3
  have e4:=s4 b o (by rw[zu (zm Z hr)];exact Z);have n:b≠r:=zm Z hr;rw[zu n];exact e4
 generalize hU:upd H4 r (.J ((((DV.ac4.take 4).map (mF c)).map V.T++(((DV.ac4.drop 4).take 4).map (mF c)).map V.T)++[.T ((DV.HT.Y "NoName").val c)]))=Uu at h5 s5;refine⟨.ref r,rfl,.inl ⟨rfl,_,SqL.of h5⟩,r,DV.ac4.map (mF c),rfl,rfl,h5,rfl,_,rfl,?_⟩;have key:(!decide (V.int ((DV.ac4.map (mF c)).countP id:Nat)=V.int 1))=!decide ((DV.ac4.map (mF c)).countP id=1):=by
  congr 1
  rw[ba8];rw[cI,beq_iff_eq,decide_eq_true_eq];lia
 rw[key];by_cases hc:(DV.ac4.map (mF c)).countP id=1
 .rw[decide_eq_true hc];show(if(!true)=true then _ else _);rw[if_neg (by decide)];obtain⟨j,j1,j2,j3,j4⟩:=bu5 (bs:=DV.ac4.map (mF c)) rfl hc;refine⟨Y (by show 9<=1000;decide),λ t ht=>?_⟩;have h6:(upd Uu t (.J (DV.ag8.map λ t=>V.str ⟨t.toArray⟩))) r=some (.J ((DV.ac4.map (mF c)).map V.T)):=by rw[zu (zm h5 ht)];exact h5
  refine⟨.ref r,rfl,.inl ⟨rfl,_,SqL.of h6⟩,r,_,j,rfl,rfl,h6,j2,j3,t,DV.ag8.map (λ t=>V.str ⟨t.toArray⟩),(j:Int),V.str ⟨(mR c).toArray⟩,rfl,rfl,SqL.of zo,?_,q _ (λ b o e=>?_)⟩
  .unfold atI;have e1:ixN (DV.ag8.map λ t=>V.str ⟨t.toArray⟩).length (j:Int)=some j:=by
    unfold ixN;rw[if_pos (by lia),if_pos (by rw[ao,show DV.ag8.length=9 from rfl];lia)];simp
   rw[e1];show(DV.ag8.map λ t=>V.str ⟨t.toArray⟩)[j]?=_;rw[aY,j4];rfl
  .have e1:=s5 b o e;rw[zu (zm e1 ht)];exact e1
 .rw[decide_eq_false hc];show(if(!false)=true then _ else _);rw[if_pos (by decide)];have e1:mR c=DV.am9:=by unfold mR oE;rw[if_neg hc]
  have q':=q Uu s5;rw[e1]at q';exact q'
end
section
variable {Γ:Gm}
def aK9 (R:Rp Γ C H s)(g:Gr C s H C1 y z)(ho:oP s y=true)(F:i<s.length)(e:y[i]?=some o):o.bnd s.length=true:=by
 unfold oP at ho;have:=aD.mp ho i (cO.mpr F);rw[e,bT]at this;rcases this with h|h
 .exact R.wf i o (of_decide_eq_true h).symm
 .exact h
def qm {y:mn}(e:(y.take k)[i]?=some o):i<k/\y[i]?=some o:=by
 rw[jL]at e;split at e
 .exact⟨‹_›,e⟩
 .cases e
def aR6 (R:Rp Γ C H s)(g:Gr C s H C1 y F)(R1:Rp Γ C1 F y)(ho:oP s y=true):Gr C s H C1 (y.take s.length) F/\Rp Γ C1 F (y.take s.length):=by
 have hl:(y.take s.length).length=s.length:=by rw[aQ];have:=g.le;lia
 refine⟨⟨g.w,by rw[hl];exact av _,λ i Y J=>by rw[hl]at J;lia,λ i o G e e'=>g.kd i o G e (qm e').2,g.st,g.fr⟩,λ i j o G e e' m m' z=>R1.inj i j o G (qm e).2 (qm e').2 m m' z,λ i o e=>R1.obj i o (qm e).2,λ i o e=>?_,R1.tab⟩;rw[hl];exact aK9 R g ho (qm e).1 (qm e).2
def qd (R:Rp Γ C H s)(g:Gr C s H C1 J F)(R1:Rp Γ C1 F J)(hb:v0.bnd J.length=true)(r:RV Γ C1 F v0 v)(h:n6 s v0 J=.ok d s') :
  ∃ C',Gr C s H C' s' F/\s.length<=s'.length/\d.bnd s'.length=true/\RV Γ C' F d v/\Rp Γ C' F s':=by
 have all:d=v0->s'=J->∃ C',Gr C s H C' s' F/\s.length<=s'.length/\d.bnd s'.length=true/\RV Γ C' F d v/\Rp Γ C' F s':=λ e1 e2=>by
  subst e1;subst e2;exact⟨C1,g,g.le,hb,r,R1⟩
 unfold n6 at h;split at h
 case isFalse=>cases h;exact all rfl rfl
 rename_i ho;obtain⟨gt,Rt⟩:=aR6 R g R1 ho;have hl:(J.take s.length).length=s.length:=by rw[aQ];have:=g.le;omega
 have tk:d=v0->s'=J.take s.length->v0.bnd s.length=true->∃ C',Gr C s H C' s' F/\s.length<=s'.length/\d.bnd s'.length=true/\RV Γ C' F d v/\Rp Γ C' F s':=λ e1 e2 b=>by
  subst e1;subst e2;exact⟨C1,gt,by rw[hl];exact av _,by rw[hl];exact b,r,Rt⟩
 split at h
 .rename_i k;split at h
  .cases h;exact tk rfl rfl (by unfold mD;exact decide_eq_true ‹_›)
  .rename_i hk;split at h
   .rename_i o Z;split at h
    .rename_i Y;cases h;have gw:Gw C1 s.length F (λ i=>if i=s.length then C1 k else C1 i) F:=⟨λ i y=>if_neg (aC y),Kp.refl _⟩
     have key:∀ i G ,(J.take s.length++[o])[i]?=some G->(i<s.length/\J[i]?=some G)\/(i=s.length/\G=o):=λ i G e=>by
      rcases gE i s.length with h|h|h
      .rw[bh (by rw[hl];exact h)]at e;exact .inl (qm e)
      .subst h;rw[bR (by rw[hl];exact av _),hl,kc]at e;exact .inr ⟨rfl,(aB e).symm⟩
      .rw[dB (by rw[ar,hl];simp;lia)]at e;cases e
     have z:(J.take s.length++[o]).length=s.length+1:=by rw[ar,hl];rfl
     refine⟨λ i=>if i=s.length then C1 k else C1 i,⟨⟨λ i y=>?_,g.w.kp⟩,by rw[z];lia,λ i h1 h2=>?_,λ i oo G e e'=>?_,g.st,g.fr⟩,by rw[z];omega,by unfold mD;rw[z];exact decide_eq_true (dM _),?_,⟨λ i j oi oj a1 a0 mi mj e=>?_,λ i G e=>?_,λ i G e=>?_,R1.tab⟩⟩
     .skip
      rw[if_neg (aC y)];exact g.w.map i y
     .rw[z]at h2;rw[if_pos (by lia)];exact g.new k (by lia) (ah.mp Z).1
     .rcases key i G e' with⟨_,e2⟩|⟨y,_⟩
      .exact g.kd i oo G e e2
      .have:=(ah.mp e).1;lia
     .rw[r.refE];unfold RV;rw[if_pos rfl]
     .rcases key i oi a1 with⟨y,ei⟩|⟨y,zi⟩<;>rcases key j oj a0 with⟨hj,ej⟩|⟨hj,zj⟩
      .rw[if_neg (aC y),if_neg (aC hj)]at e;exact R1.inj i j oi oj ei ej mi mj e
      .rw[if_neg (aC y),if_pos hj]at e;subst zj;have:=R1.inj i k oi _ ei Z mi mj e;lia
      .rw[if_neg (aC hj),if_pos y]at e;subst zi;have:=R1.inj k j _ oj Z ej mi mj e;lia
      .rw[y,hj]
     .rcases key i G e with⟨y,e⟩|⟨y,rfl⟩
      .skip
       rw[if_neg (aC y)];exact(R1.obj i G e).mono gw (aK9 R g ho y e) λ _ u hu=>hu
      .skip
       rw[if_pos y];exact(R1.obj k _ Z).mono gw Y λ _ u hu=>hu
     .rw[z];rcases key i G e with⟨y,e⟩|⟨_,rfl⟩
      .exact zV (fw _) _ (aK9 R g ho y e)
      .exact zV (fw _) _ Y
    .cases h;exact all rfl rfl
   .exact fb h
 .split at h
  .cases h;exact tk rfl rfl ‹_›
  .cases h;exact all rfl rfl
def bE9 (Γ:Gm)(cds:yG)(f:Str)(sc:Scope)(N:yI)(fd:bW)(lk:String->List Nat->Expr->Bool):Prop :=
 ∀ id caps E,lk id caps E=true->False
def GoodB (Γ:Gm)(cds:yG)(mg:yD)(f:String)(pc vc:Nat)(m:Ck->List Stmt->Bool):Prop:=∃ st N ps a fd lk,DefAt Γ.K mg (f) st ps a fd/\FnScope N ps (defScope st)/\ps.length=pc/\N.length=pc+vc/\m ⟨N,defScope st,lk⟩ (zD st)=true/\bE9 Γ cds (f) (defScope st) N fd lk
def Good (Γ:Gm)(cds:yG)(mg:yD)(f:String)(d:n9):Prop:=GoodB Γ cds mg f d.ps d.vs λ ck S=>mSs ck d.body S
noncomputable def mKc (ck:Ck)(nm:Str)(f:String)(E:Expr):Bool:=match E with|.Call (.Name g _) [.Name x _] [] _=>decide (g=(f))&&(ck.gl g&&decide (x=nm))|_=>false
def bZ1 (ck:Ck)(nm:Str)(f:String)(l:Bool)(S:yM):Bool:=match S with
 | [.Return (some e) _]=>(match l with|true=>(match e with|.List [c] _=>mKc ck nm f c|_=>false)|false=>mKc ck nm f e)
 | _=>false
def mHk (ck:Ck)(nm:Str)(h:nS)(S:yM):Bool:=match h.kn with|some (f,l)=>bZ1 ck nm f l S|none=>mHd ck nm h S
def bS4 (h:nS)(c:String):VK->Hp->Prop:=match h.kn with
 | some (_,true)=>λ R H=>∀ p,H p=none->R (.ref p) (upd H p (.J [.str ⟨(mR c).toArray⟩]))
 | some (_,false)=>λ R H=>R (.str ⟨(mR c).toArray⟩) H
 | none=>λ R H=>R (vV (h.vD c)) H
def mT0 (ck:Ck)(d:oQ)(S:yM):Bool:=match S with
 | st::rest=>(match st with|.Try tb hs [] [] _=>(match hs with|[eh]=>(match eh with|.ExceptHandler (some en) (some nm) hb _=>(match en,hb with|.Name x _,b::su=>mSs ck d.body tb&&(mX ck d.xb tb&&(noR d.xb&&(noL d.xb&&(d.h.supOk d.c&&(decide (x=((d.h.cls d.c:String):Str))&&(ck.gl x&&(decide (ck.N[d.i]?=some nm)&&((ck.sc.names.lookup nm==some .local)&&(!(nm==("__debug__":Str))&&(!(nm==("__classdict__":Str))&&(mHk ck nm d.h (b::su)&&mSs ck d.tl rest)))))))))))|_,_=>false)|.ExceptHandler (some en) none hb _=>false|_=>false)|_=>false)|_=>false)
 | _=>false
def bW2 (ck:Ck):oK->List Stmt->Option (List Stmt)
 | .nil,S=>some S
 | .cons s ss,S=>match S with|x::xs=>(match mS ck s x with|true=>bW2 ck ss xs|false=>none)|[]=>none
def mT (ck:Ck)(d:oQ)(S:yM):Bool:=match bW2 ck d.pre S with
 | some S1=>mT0 ck d S1
 | none=>false
structure PrOk (Γ:Gm)(cds:yG)(P:mQ)(mg:yD)(w:World):Prop where
 df:∀ f d,P.df f=some d->Good Γ cds mg f d
 con:∀ x d,P.con x=some d->∃ v u,mg (x:Str)=some u/\RelV v u/\(∀ m,d.bnd m=true)/\∀ C H,RV Γ C H d v
 bi:∀ x∈bNames,mg x=none
 fa:∀(f:String) (a:Addr),Γ.fa f=some a->mg (f:Str)=some (.ref a)/\∃ oc od fd sl,Γ.K.lookup a=some ⟨oc,od,.func fd,sl⟩
 lg:True
 nd:(Γ.T.map (·.1)).Nodup
 xf:∀ f d,P.xf f=some d->GoodB Γ cds mg f d.ps d.vs λ ck S=>mX ck d.body S
 tf:∀ f d,P.tf f=some d->GoodB Γ cds mg f d.ps d.vs λ ck S=>mT ck d S
 xc:∀ c:String,P.xc c=true->∃ Cc,mg (c:Str)=some (.ref Cc)/\ExcCls Γ.K Cc/\excI Γ.K Cc=true
 xt:∀ c:String,P.xt c=true->∃ Cc,mg (c:Str)=some (.ref Cc)
 xs:∀(c d:String) (Cc D:Addr),P.xc c=true->P.xt d=true->mg (c:Str)=some (.ref Cc)->mg (d:Str)=some (.ref D)->bc Γ.K (.ref Cc) (.ref D)=some (mF c d)
 xm:∀(c d:String) (Cc D:Addr),P.xc c=true->P.xt d=true->mg (c:Str)=some (.ref Cc)->mg (d:Str)=some (.ref D)->bJ Γ.K (.ref Cc) (.ref D)=some (mF c d)
 xe:∀(c:String) (Cc:Addr),P.xc c=true->mg (c:Str)=some (.ref Cc)->bJ Γ.K (.ref Cc) (.ref Cc)=some true
 v0:∀ c:String,P.xc c=true->mg ("ValueError":Str)=none
 v1:∀(c:String) (Cc:Addr),P.xc c=true->mg (c:Str)=some (.ref Cc)->bc Γ.K (.ref Cc) (.type "ValueError")=some true
 cdc:∀(c:String) kvs,P.cdc c=some kvs->∃ a,mg (c:Str)=some (.ref a)/\∀(prog:aJ) (h:Heap),Γ.K.In h->StrTab prog w h a (strD kvs)
def at6 (Γ:Gm)(prog:aJ)(w:World)(mg:yD)(base:Heap)(F:mK)(n:Nat):Prop:=(∀ f:String,(∀ l s,F.call f l s=.B) \/
  ∃ a fd ps,FnOk prog w Γ.K mg base CX0 n a fd ps (spV Γ (F.call f))/\mg (f)=some (.ref a)/\cy Γ.K (.ref a)=true/\Binds Γ.K fd ps []) /\
 True
def aw2 (r:RVL Γ C H l vs)(b:mr n l=true)(hN:N.length=l.length+k):RE Γ C H n (l.map some++ax k none) (qv N vs):=by
 have hl:=r.length;refine⟨?_,λ i d e=>?_⟩
 .unfold qv;simp[hl,hN]
 .by_cases hi:i<l.length
  .rw[bh (by simpa using hi),aY]at e;have e':l[i]?=some d:=by
    rw[aj hi]at e ⊢;exact aB e
   obtain⟨v,e1,e2⟩:=r.get e';refine⟨am7 b e',v,?_,e2⟩;unfold qv;rw[bh (by rw[ao,hl];exact hi),aY,e1];rfl
  .rw[bR (by simpa using ku hi)]at e;rw[gS]at e;split at e<;>cases e
def bS1 (J:PrOk Γ z P F w) n :∀ c y,(mz P n).cdc c=some y->∃ a,F (c)=some (.ref a)/\∀ h:Heap,Γ.K.In h->StrTab prog w h a (strD y):=by
 have:(mz P n).cdc=P.cdc:=by cases n<;>rfl
 rw[this];intro c y e;obtain⟨a,Y,G⟩:=J.cdc c y e;exact⟨a,Y,G prog⟩
def bb6 (Z:PrOk Γ F P Y w)(hb:∀ y∈F,cq base y.1 y.2/\BM Y base) n (z:at6 Γ prog w Y base (mz P n) (n+31))
  {f:String} {st:Stmt} (hS:FnScope N ps (defScope st)) (hL:bE9 Γ F (f:Str) (defScope st) N fd lk) J (a0:∀ id caps E,lk id caps E=true->fd.code=J) A G sh H E (hr:Room (n+31) (A.deeper (fG (f:Str) (defScope st) sh.heap.objs.size a J))) :
  CG Γ (mz P n) (n+31) (al6 CX0 prog w Γ.K Y base N (f:Str) (defScope st) a J A G sh H E).nox ⟨N,defScope st,lk⟩:=by
 refine⟨rfl,rfl,hS.nd,rfl,rfl,?_,hr,λ x k e=>.inl e,λ _ _=>rfl,Z.bi,z.1,?_,hL,z.2,Z.fa,bS1 Z n⟩
 .show mU+1<=n+31;unfold mU;lia
 .have:(mz P n).con=P.con:=by cases n<;>rfl
  rw[this];exact Z.con
def bO2 {Y:yG}{P:mQ}{prog:aJ}{w:World}{mg:yD}{base:Heap}(hP:PrOk Γ Y P mg w)(hb:∀ y∈Y,cq base y.1 y.2/\BM mg base)(n:Nat)(Z:at6 Γ prog w mg base (mz P n) (n+31))
  {f:String} {d:n9} (e:P.df f=some d) {st:Stmt} {N ps:yI} {a:Addr} {fd:bW} {lk:String->List Nat->Expr->Bool} (hD:DefAt Γ.K mg (f:Str) st ps a fd) (hS:FnScope N ps (defScope st)) (h1:ps.length=d.ps) (h2:N.length=d.ps+d.vs) (hm:mSs ⟨N,defScope st,lk⟩ d.body (zD st)=true) (hL:bE9 Γ Y (f:Str) (defScope st) N fd lk) :
  FnOk prog w Γ.K mg base CX0 (n+1+31) a fd ps (spV Γ ((mz P (n+1)).call f)):=by
 have J:∀ vs H Q E,spV Γ ((mz P (n+1)).call f) vs H Q E->vs.length=ps.length:=λ vs H Q E q=>by
  obtain⟨C,s,l,d',s',R,r,b,hc,k⟩:=q;simp only[mz,e]at hc;split at hc
  .rw[r.length,h1];assumption
  .exact fb hc
 have body:∀(F:Value),(∀ id caps E,lk id caps E=true->fd.code=F)->∀(A:aS) (z:List Env) (sh:af) (H:Hp) (vs:List V) (Q:VK) (E:XK),Room (n+31) (A.deeper (fG (f:Str) (defScope st) sh.heap.objs.size a F))->spV Γ ((mz P (n+1)).call f) vs H Q E ->
   ∃ t,PSs (al6 CX0 prog w Γ.K mg base N (f:Str) (defScope st) a F A z sh H E).nox (zD st) t/\t { nx:=λ _ H'=>Q .N H',rt:=Q } (qv N vs) H:=by
  intro F a0 A z sh H vs Q E hr q;have G:=bb6 hP hb n Z hS hL (a:=a) F a0 A z sh H E hr;refine⟨_,sSs d.body (zD st) _ ⟨N,defScope st,lk⟩ G hm,?_⟩;obtain⟨C,s,l,d',s',R,r,b,hc,k⟩:=q;simp only[mz,e]at hc;split at hc
  case isFalse=>exact fb hc
  rename_i J;obtain⟨c,s1,e1,hc⟩:=aa1 hc;refine⟨C,l.map some++ax d.vs none,s,c,s1,aw2 r b (by rw[h2,J]),R,e1,λ C1 H1 g1 l1 R1=>?_⟩;cases c with
  | ret v0 =>
   intro v hb rv;obtain⟨C',g',l',b',r',R'⟩:=qd R g1 R1 hb rv hc;exact k v C' H1 g' l' b' r' R'
  | next U =>
   intro W' _;obtain⟨C',g',l',b',r',R'⟩:=qd (v0:=.N) R g1 R1 rfl RV.nonI hc;exact k .N C' H1 g' l' b' r' R'
  | cont U=>exact fb hc
  | brk U=>exact fb hc
 exact hD.fn.ok hS J (λ F=>body F λ id caps E h=>(hL id caps E h).elim)
def Fun.okX {K}{st}(F:Fun K x qual st f Y)(S:FnScope N ps (defScope st))(len:∀ vs H Q E,sp vs H Q E->vs.length=ps.length)
  (G:∀(z:Value),Y.code=z->∀(A:aS) (y:List Env) (s:af) (H:Hp) (vs:List V) (Q:VK) (E:XK),Room k (A.deeper (fG qual (defScope st) s.heap.objs.size f z))->sp vs H Q E ->
   ∃ t,PSs (al6 Z P w K mg base N qual (defScope st) f z A y s H E) (zD st) t/\t { nx:=λ _ H'=>Q .N H',rt:=Q } (qv N vs) H):FnOk P w K mg base Z (k+1) f Y ps sp:=by
 obtain⟨oc,od,kV,a1,pm,an,z,ct,a0,rfl,lk,hc⟩:=F.ex;exact bN3 lk hc S len λ A y s H vs Q E hr J=>G z rfl A y s H vs Q E hr J
def bV2 (y:PrOk Γ G P J w) n :XC (mz P n) Γ.K J:=by
 have e:(mz P n).xc=P.xc:=by cases n<;>rfl
 have e':(mz P n).xt=P.xt:=by cases n<;>rfl
 exact⟨λ c h=>y.xc c (by rw[e]at h;exact h),λ c h=>y.xt c (by rw[e']at h;exact h),λ c d Cc D F z=>y.xs c d Cc D (by rw[e]at F;exact F) (by rw[e']at z;exact z),λ c d Cc D F z=>y.xm c d Cc D (by rw[e]at F;exact F) (by rw[e']at z;exact z),λ c h=>y.v0 c (by rw[e]at h;exact h),λ c Cc h=>y.v1 c Cc (by rw[e]at h;exact h)⟩
def bK3 (hP:PrOk Γ J P F w)(hb:∀ y∈J,cq base y.1 y.2/\BM F base) n (Y:at6 Γ prog w F base (mz P n) (n+31))(XO:XOk Γ prog w Γ.K F base (mz P n) (n+31))
  (e:P.xf f=some d) {st:Stmt} {N ps:yI} {a:Addr} {fd:bW} {lk:String->List Nat->Expr->Bool} (hD:DefAt Γ.K F (f:Str) st ps a fd) (hS:FnScope N ps (defScope st)) (h1:ps.length=d.ps) (h2:N.length=d.ps+d.vs) (hm:mX ⟨N,defScope st,lk⟩ d.body (zD st)=true) (hL:bE9 Γ J (f:Str) (defScope st) N fd lk) :
  FnOk prog w Γ.K F base (CX1 prog w) (n+1+31) a fd ps (spX Γ F ((mz P (n+1)).xcall f)):=by
 refine hD.fn.okX hS (λ vs H Q E q=>?_) λ a0 a1 A z sh H vs Q E hr q=>?_
 .obtain⟨C,s,l,c,s',R,r,b,hc,k⟩:=q;simp only[mz,e]at hc;split at hc
  .rw[r.length,h1];assumption
  .cases hc
 .have G:=bb6 hP hb n Y hS hL (a:=a) a0 (λ _ _ _ _=>a1) A z sh H E hr;obtain⟨C,s,l,c,s',R,r,b,hc,k⟩:=q;simp only[mz,e]at hc;split at hc
  case isFalse=>cases hc
  rename_i Z;exact⟨_,aK1 (X:=al6 (CX1 prog w) prog w Γ.K F base N (f:Str) (defScope st) a a0 A z sh H E) G (bV2 hP n) XO bY3 d.body (zD st) (.inr cd7) (.inr ⟨PassesOwn.leaving,⟨rfl,rfl,rfl⟩,bR9⟩) hm,C,l.map some++ax d.vs none,s,c,s',aw2 r b (by rw[h2,Z]),R,hc,k⟩
def bU9 {S:yM}(k:h.kn=none)(m:mHd y nm h S=true):h.out c s s'=n6 s (h.vD c) s':=by
 cases h with
 | noe=>exact ff m
 | _=>simp only[oG,k]
def bR4 {h:nS}{f:String}(k:h.kn=some (f,l)):h.out c s s'=match l with|true=>n6 s (.ref s'.length) (s'++[.J [.str (mR c)]])|false=>n6 s (.str (mR c)) s':=by
 cases h with
 | noe=>cases k
 | _=>cases l<;>simp only[oG,k]
def cb4 (h:(mz P n).kd f=true):∃ d,P.xf f=some d/\d.ps=1/\d.vs=1/\d.body=.kind:=by
 have e:(mz P n).kd=DV.bE8 P:=by cases n<;>rfl
 rw[e]at h;unfold DV.bE8 at h;split at h
 .rename_i d hd;simp only[am,beq_iff_eq]at h;refine⟨d,hd,h.1,h.2.1,?_⟩;have:=h.2.2;cases q:d.body<;>rw[q]at this<;>first|rfl|cases this
 .cases h
def bf3 c :(mR c).length<=1000:=by
 unfold mR oE;split
 .rw[bq];cases e:oD[List.findIdx id (DV.ac4.map (mF c))]? with
  | none=>exact cA _
  | some x =>
   have hm:=aG e;exact(by decide:∀ x∈oD,x.length<=1000) x hm
 .decide
def bp4 (hP:PrOk Γ J P X.mg w)(hK:X.K=Γ.K)(G:CH X ck)(hr:Room (n+31) X.A)(xc:XC (mz P n) X.K X.mg)(a1:(mz P n).xc c=true)(Z:X.mg (c:Str)=some (.ref Cc))(kx:cL X.K (.ref a) (.ref Cc) (λ h=>XAt h a Cc))(hcl:oe.cls=.ref Cc){i:Nat}(hi:ck.N[i]?=some nm)(hv:Vis X.env.scope nm)(hd:(nm==("__debug__":Str))=false)(Y:(nm==("__classdict__":Str))=false)
  (hk:(mz P n).kd f=true) (hx:DV.ac4.all (mz P n).xt=true) (h:mKc ck nm f E=true):PE (X.hnd a oe) E (λ W H Q=>W[i]?=some (some (.ref a))/\∀ H',af2 H H'->Q (.str ⟨(mR c).toArray⟩) H')/\shp E=true:=by
 unfold mKc at h;split at h
 case h_2=>cases h
 refine⟨?_,rfl⟩;obtain⟨z,h⟩:=zd h;obtain⟨F,h3⟩:=zd h;have e1:=of_decide_eq_true z;subst e1;have y:∀ {px:Pos},PE (X.hnd a oe) (.Name nm px) (bq8 i):=aE6 (X:=X.hnd a oe) (by show X.N[i]?=_;rw[G.N];exact hi) hv hd Y;have e3:=of_decide_eq_true h3;subst e3;obtain⟨d,a3,a0,a5,a2⟩:=cb4 hk;obtain⟨st,N,ps,f',fd,lk,hD,hS,l1,l2,hm,hL⟩:=hP.xf _ d a3;rw[a2]at hm;have hm:KindS ⟨N,defScope st,lk⟩ (zD st):=@of_decide_eq_true _ (cF _) hm;rw[a0]at l1 l2;obtain⟨p,rfl⟩:∃ p,ps=[p]:=by
  match ps,l1 with
  | [p],_=>exact⟨p,rfl⟩
 obtain⟨g1,g2,g3⟩:=G.gl F;rw[<-hK]at hD;refine bn3 (k:=n+30) (t0:=λ H Q=>∀ H',af2 H H'->Q (.str ⟨(mR c).toArray⟩) H') hD.fn hS hD.bi hr g1 hD.mg g2 y λ a4 _ s H Q _ q=>?_;have ch:CH (al6 CX0 X.prog X.w X.K X.mg X.base N (f:Str) (defScope st) f' a4 X.A X.stack s H (λ _ _ _=>False)) ⟨N,defScope st,lk⟩:=by
  refine⟨rfl,λ {x} hx=>?_,G.bi⟩;unfold Ck.gl at hx;simp only[am,eP]at hx;obtain⟨⟨z,F⟩,h3⟩:=hx;refine⟨?_,F,of_decide_eq_false h3⟩;split at z
  .rename_i e;exact e
  .cases z
 refine⟨_,by8 ch xc a1 Z kx hcl hS.nd rfl hx hm,?_,λ H' s'=>q H' s'⟩;unfold qv;have:N.length=2:=by lia
 show _++ax (N.length - 1) none=_;rw[this];rfl
def bZ9 (hP:PrOk Γ a0 P X.mg w)(G:CG Γ (mz P n) (n+31) X Z)(xc:XC (mz P n) X.K X.mg)(Y:(mz P n).xc c=true)(J:X.mg (c:Str)=some (.ref Cc))(kx:cL X.K (.ref a) (.ref Cc) (λ h=>XAt h a Cc))(hcl:oe.cls=.ref Cc){nm:Str}{i:Nat}(hi:Z.N[i]?=some nm)(hv:Vis X.env.scope nm)(hd:(nm==("__debug__":Str))=false)(F:(nm==("__classdict__":Str))=false)
  {t:nS} {S:yM} (m:mHk Z nm t S=true) (o:t.ok (mz P n).xt=true) (k:t.kok (mz P n).kd=true):PSs (X.hnd a oe) S (tHd i a (bS4 t c)):=by
 unfold mHk at m;unfold DV.Hd.kok at k;have a1:∀ {h:nS} {f:String} {l:Bool},h.kn=some (f,l)->h.ok (mz P n).xt=true->DV.ac4.all (mz P n).xt=true:=λ {h}=>by
  induction h with
  | kin f l=>exact λ _ z=>z
  | sup x h ih=>exact λ e z=>ih e (zd z).2
  | _=>exact λ e=>by cases e
 cases q:t.kn with
 | none =>
  rw[q]at m;have:=bV4 G xc Y J kx hcl hi hv hd F m o;unfold bS4;rw[q];exact this
 | some y =>
  obtain⟨f,l⟩:=y;rw[q]at m k;have m:bZ1 Z nm f l S=true:=m;have hx:=a1 q o;unfold bZ1 at m;split at m
  case h_2=>cases m
  unfold bS4;rw[q];cases l with
  | false =>
   exact(ap9 (al4 (bp4 hP G.K G.ch G.room xc Y J kx hcl hi hv hd F k hx m).1)).imp λ D W H q=>q
  | true =>
   dsimp only at m;split at m
   case h_2=>cases m
   obtain⟨k1,k2⟩:=bp4 (a:=a) (oe:=oe) hP G.K G.ch G.room xc Y J kx hcl hi hv hd F k hx m;exact(ap9 (al4 (av7 (zq k1 ad4 (zc k2))))).imp λ D W H q=>⟨q.1,λ H1 s1=>⟨fW (ar1 (by show 1<=1000;decide)),λ p hp=>q.2 H1 s1 p hp⟩⟩
theorem bP5 :∀ {h} {S:yM},mHd y nm h S=true->(h.vD c).bnd n=true/\RV Γ C H (h.vD c) (vV (h.vD c))
 | .ret _,S,m=>ff m
 | .iff _ _ _,S,m=>ff m
 | .nob b,S,_=>⟨rfl,RV.blI⟩
 | .noe,S,_=>⟨rfl,RV.nonI⟩
 | .iffN _ _,S,m=>ff m
 | .aoN _ _,S,m=>ff m
 | .sup x h,S,m=>bP5 (h:=h) m
 | .kin _ _,S,m=>ff m
theorem bt0 (G:CG Γ F n X y):∀ {pre} {S z:yM},bW2 y pre S=some z->PSs X z t->PSs X S (ce4 (TSv Γ (on F pre)) t)
 | .nil,S,z,h,h1=>by
  cases h;refine h1.imp λ D W H q=>?_;obtain⟨C,U,s,c,s',E,R,e,q⟩:=q;cases e;exact q.here R W E
 | .cons s ss,S,z,h,h1=>by
  cases S with
  | nil=>exact absurd h (by nofun)
  | cons x xs =>
   have h:(match mS y s x with|true=>bW2 y ss xs|false=>none)=some z:=h;cases hm:mS y s x with
   | false=>rw[hm]at h;exact absurd h (by nofun)
   | true =>
    rw[hm]at h;exact(zB (sS s _ X y G hm) (bt0 G h h1)).imp λ D W H q=>br7 (TSv.eq (λ U s=>rfl) q)
def bQ7 (hP:PrOk Γ a6 P J w)(hb:∀ y∈a6,cq base y.1 y.2/\BM J base) n (a7:at6 Γ prog w J base (mz P n) (n+31))(XO:XOk Γ prog w Γ.K J base (mz P n) (n+31))
  (e0:P.df f=none) (e:P.tf f=some d) {st:Stmt} {N ps:yI} {a:Addr} {fd:bW} {lk:String->List Nat->Expr->Bool} (hD:DefAt Γ.K J (f:Str) st ps a fd) (hS:FnScope N ps (defScope st)) (h1:ps.length=d.ps) (h2:N.length=d.ps+d.vs) (hm:mT ⟨N,defScope st,lk⟩ d (zD st)=true) (hL:bE9 Γ a6 (f:Str) (defScope st) N fd lk) :
  FnOk prog w Γ.K J base CX0 (n+1+31) a fd ps (spV Γ ((mz P (n+1)).call f)):=by
 refine hD.fn.okX hS (λ vs H Q E q=>?_) λ F c0 A z sh H vs Q E hr q=>?_
 .obtain⟨C,s,l,d',s',R,r,b,hc,k⟩:=q;simp only[mz,e0,e]at hc;split at hc
  .rw[r.length,h1];assumption
  .exact fb hc
 have G:=bb6 hP hb n a7 hS hL (a:=a) F (λ _ _ _ _=>c0) A z sh H E hr;have xc:=bV2 hP n;obtain⟨C,s,l,d',s',R,r,b,hc,k⟩:=q;simp only[mz,e0,e]at hc;split at hc
 case isFalse=>exact fb hc
 rename_i Z;have E0:=aw2 r b (k:=d.vs) (N:=N) (by rw[h2,Z]);unfold mT at hm;split at hm
 case h_2=>exact ff hm
 rename_i S1 b5;unfold DV.bw5 at hc;split at hc
 case h_2=>exact fb hc
 rename_i U0 s0 ep
 suffices key:∃ t,PSs (al6 CX0 prog w Γ.K J base N (f:Str) (defScope st) a F A z sh H E).nox S1 t/\∀ C0 W0 H0,Gr C s H C0 s0 H0->s.length<=s0.length->Rp Γ C0 H0 s0->RE Γ C0 H0 s0.length U0 W0->t { nx:=λ _ H'=>Q .N H',rt:=Q } W0 H0 by
  obtain⟨t,ht,kt⟩:=key;refine⟨_,(bt0 (X:=(al6 CX0 prog w Γ.K J base N (f:Str) (defScope st) a F A z sh H E).nox) G b5 ht).nox,?_⟩;exact⟨C,l.map some++ax d.vs none,s,.next U0,s0,E0,R,ep,λ C1 H1 g1 l1 R1 W1 E1=>kt C1 W1 H1 g1 l1 R1 E1⟩
 unfold mT0 at hm;split at hm
 case h_2=>exact ff hm
 rename_i c6 rest;split at hm
 case h_2=>exact ff hm
 rename_i tb hs tp;split at hm
 case h_2=>exact ff hm
 rename_i eh;have run:mSs ⟨N,defScope st,lk⟩ d.body tb=true->mSs ⟨N,defScope st,lk⟩ d.tl rest=true->((on (mz P n) d.body U0 s0).bind λ c s1=>match c with
  | .ret v=>n6 s v s1
  | .next U=>(on (mz P n) d.tl U s1).bind λ c s2=>match c with
   | .ret v=>n6 s v s2
   | .next _=>n6 s .N s2
   | _=>.B
  | _=>.B)=.ok d' s'->∃ t,PSs (al6 CX0 prog w Γ.K J base N (f:Str) (defScope st) a F A z sh H E).nox (.Try tb [eh] [] [] tp::rest) t/\∀ C0 W0 H0,Gr C s H C0 s0 H0->s.length<=s0.length->Rp Γ C0 H0 s0->RE Γ C0 H0 s0.length U0 W0->t { nx:=λ _ H'=>Q .N H',rt:=Q } W0 H0:=λ m1 a9 hc=>by
  refine⟨_,(zB (bv3 (X:=(al6 CX0 prog w Γ.K J base N (f:Str) (defScope st) a F A z sh H E).nox) rfl (sSs d.body tb _ ⟨N,defScope st,lk⟩ G m1)) (sSs d.tl rest _ ⟨N,defScope st,lk⟩ G a9)),λ C0 W0 H0 g0 l0 R0 Ea=>?_⟩;obtain⟨c,s1,e1,hc⟩:=aa1 hc;refine⟨C0,U0,s0,c,s1,Ea,R0,e1,λ C1 H1 g1 l1 R1=>?_⟩
  replace g1:=g0.trans g1 l0
  replace l1:=aq l0 l1
  cases c with
  | ret v0 =>
   intro v hb rv;obtain⟨C',g',l',b',r',R'⟩:=qd R g1 R1 hb rv hc;exact k v C' H1 g' l' b' r' R'
  | next U =>
   intro W' E1;obtain⟨c,s2,e2,hc⟩:=aa1 hc;refine⟨C1,U,s1,c,s2,E1,R1,e2,λ C2 H2 g2 l2 R2=>?_⟩;cases c with
   | ret v0 =>
    intro v hb rv;obtain⟨C',g',l',b',r',R'⟩:=qd R (g1.trans g2 l1) R2 hb rv hc;exact k v C' H2 g' l' b' r' R'
   | next U =>
    intro W' _;obtain⟨C',g',l',b',r',R'⟩:=qd (v0:=.N) R (g1.trans g2 l1) R2 rfl RV.nonI hc;exact k .N C' H2 g' l' b' r' R'
   | cont U=>exact fb hc
   | brk U=>exact fb hc
  | cont U=>exact fb hc
  | brk U=>exact fb hc
 split at hm
 .rename_i en nm d0 hp;split at hm
  case h_2=>exact ff hm
  rename_i x np b0 su;obtain⟨m1,hm⟩:=zd hm;obtain⟨m2,hm⟩:=zd hm;obtain⟨m3,hm⟩:=zd hm;obtain⟨c1,hm⟩:=zd hm;obtain⟨c4,hm⟩:=zd hm;obtain⟨m4,hm⟩:=zd hm;obtain⟨m5,hm⟩:=zd hm;obtain⟨m6,hm⟩:=zd hm;obtain⟨m7,hm⟩:=zd hm;obtain⟨m8,hm⟩:=zd hm;obtain⟨m9,hm⟩:=zd hm;obtain⟨Y,a9⟩:=zd hm;have ex:=of_decide_eq_true m4;have ei:=of_decide_eq_true m6;subst ex;unfold DV.bo1 at hc;split at hc
  .rename_i c s1 hx;split at hc
   case isFalse=>exact fb hc
   rename_i b1;obtain⟨a1,a2,hok,b6⟩:=b1;unfold DV.Tf.tk at a1;obtain⟨Cc,hC,hE,hI⟩:=xc.at_ _ a2;obtain⟨g1,g2,g3⟩:=G.gl m5;have a5:(defScope st).names.lookup nm=some .local:=eq_of_beq m7;have c2:(nm==("__debug__":Str))=false:=by simpa using m8
   have b9:(nm==("__classdict__":Str))=false:=by simpa using m9
   have kx:∀ a',cL Γ.K (.ref a') (.ref Cc) (λ h=>XAt h a' Cc):=λ a'=>bD8 hE hI;obtain⟨D',a3,hexm⟩:∃ D',J ((d.h.cls d.c:String):Str)=some (.ref D')/\bJ Γ.K (.ref Cc) (.ref D')=some true:=by
    have c3:(mz P n).xc=P.xc:=by cases n<;>rfl
    cases hh:d.h with
    | sup x' h' =>
     rw[hh]at hok a1;have b3:(mz P n).xt x'=true:=(zd hok).1;obtain⟨D',a3⟩:=xc.cls x' b3;refine⟨D',a3,?_⟩;rw[xc.exm c x' Cc D' a2 b3 hC a3];exact congrArg some a1
    | _ =>
     rw[hh]at a1;have ec:c=d.c:=eq_of_beq a1;subst ec;exact⟨Cc,hC,hP.xe _ Cc (by rw[c3]at a2;exact a2) hC⟩
   refine⟨_,(zB (bC6 (X:=(al6 CX0 prog w Γ.K J base N (f:Str) (defScope st) a F A z sh H E).nox) (Γ:=Γ) (Cc:=Cc) (m:=nA (mz P n) d.xb) (b:=bS4 d.h c) (D':=D') (i:=d.i) rfl rfl rfl hexm g1 a3 g2 hS.nd ei a5 (λ pn Ww E1 b4=>?_) λ a' oe hcl=>bZ9 hP G xc a2 hC (kx a') hcl ei (.inl a5) c2 b9 Y hok b6) qk),λ C0 W0 H0 g0 l0 R0 Ea=>?_⟩
   .have G':CG Γ (mz P n) (n+31) ({ (al6 CX0 prog w Γ.K J base N (f:Str) (defScope st) a F A z sh H E).nox with pn:=pn,xe:=Ww }:Cx).nox ⟨N,defScope st,lk⟩:=⟨G.K,G.N,G.nd,rfl,G.calm,G.deep,G.room,G.sc,G.fn,G.bi,G.call,G.con,G.lam,G.cl,G.fa,G.cdc⟩
    exact aK1 (X:={ (al6 CX0 prog w Γ.K J base N (f:Str) (defScope st) a F A z sh H E).nox with pn:=pn,xe:=Ww }) G' xc XO b4 d.xb tb (.inl m3) (.inl c1) m2
   .refine⟨C0,U0,s0,c,s1,Ea,R0,hx,λ C' H' a' Cc' g' l' R' a4=>?_⟩
    replace g':=g0.trans g' l0
    replace l':=aq l0 l'
    have a4:J (c:Str)=some (.ref Cc'):=a4;rw[hC]at a4;cases a4;refine⟨rfl,λ a8 same=>?_⟩;obtain⟨gs,Rs⟩:=R'.same same;have Z:(mR c).length<=mG:=aq (bf3 c) (by decide);unfold bS4;cases hq:d.h.kn with
    | none =>
     unfold mHk at Y;rw[hq]at Y;have Y:mHd ⟨N,defScope st,lk⟩ nm d.h (b0::su)=true:=Y;rw[bU9 hq Y]at hc;have vr:=bP5 (Γ:=Γ) (c:=c) (C:=C') (H:=a8) (n:=s1.length) Y;obtain⟨C2,a0,l2,b2,r2,R2⟩:=qd (v0:=d.h.vD c) R (g'.trans gs l') Rs vr.1 vr.2 hc;exact k _ C2 a8 a0 l2 b2 r2 R2
    | some y =>
     obtain⟨fk,l⟩:=y;rw[bR4 hq]at hc;cases l with
     | false =>
      obtain⟨C2,a0,l2,b2,r2,R2⟩:=qd (v0:=.str (mR c)) R (g'.trans gs l') Rs rfl (RV.strI Z) hc;exact k _ C2 a8 a0 l2 b2 r2 R2
     | true =>
      intro p hp;obtain⟨gn,Rn⟩:=Rs.new (o:=.J [.str (mR c)]) (u:=.J [.str ⟨(mR c).toArray⟩]) hp rfl λ C' H' g e=>⟨[_],e,.cons (RV.strI Z) .nil⟩
      obtain⟨C2,a0,l2,b2,r2,R2⟩:=qd (v0:=.ref s1.length) R ((g'.trans gs l').trans gn l') Rn (by unfold mD;simp) (v:=.ref p) (by unfold RV;simp) hc;exact k _ C2 _ a0 l2 b2 r2 R2
  .exact run m1 a9 hc
 .exact ff hm
 .exact ff hm
theorem aP2 (z:PrOk Γ G P mg w)(hb:∀ y∈G,cq base y.1 y.2/\BM mg base):∀ n:Nat,at6 Γ prog w mg base (mz P n) (n+31)/\XOk Γ prog w Γ.K mg base (mz P n) (n+31)
 | 0=>⟨⟨λ f=>.inl λ l s=>rfl,trivial⟩,λ f=>.inl λ l s=>rfl⟩
 | n+1=>by
  obtain⟨ih,XO⟩:=aP2 z hb n;refine⟨⟨λ f=>?_,trivial⟩,λ f=>?_⟩
  .cases e:P.df f with
   | none =>
    cases e2:P.tf f with
    | none=>exact .inl λ l s=>by simp only[mz,e,e2]
    | some d =>
     obtain⟨st,N,ps,a,Y,lk,hD,J,Z,F,hm,hL⟩:=z.tf f d e2;exact .inr ⟨a,Y,ps,bQ7 z hb n ih XO e e2 hD J Z F hm hL,hD.mg,hD.fn.kp,hD.bi⟩
   | some d =>
    obtain⟨st,N,ps,a,Y,lk,hD,J,Z,F,hm,hL⟩:=z.df f d e;exact .inr ⟨a,Y,ps,bO2 z hb n ih e hD J Z F hm hL,hD.mg,hD.fn.kp,hD.bi⟩
  .cases e:P.xf f with
   | none=>exact .inl λ l s=>by simp only[mz,e]
   | some d =>
    obtain⟨st,N,ps,a,Y,lk,hD,J,Z,F,hm,hL⟩:=z.xf f d e;exact .inr ⟨a,Y,ps,bK3 z hb n ih XO e hD J Z F hm hL,hD.mg,hD.fn.kp,hD.bi⟩
def bx4 (G:PrOk Γ z P F w)(hb:∀ y∈z,cq base y.1 y.2/\BM F base) n :at6 Γ prog w F base (mz P n) (n+31):=(aP2 G hb n).1
def spT (Γ:Gm):Sp:=λ vs H Q _=>∃(a:Addr) (ns:List Int),vs=[.ref a]/\SqF Γ.K H a (ns.map V.int)/\ns.length<=63/\TabsH Γ.T H/\∀ H',Q (.T true) H'
theorem aL8 :∀ ns:List Int,RVL Γ C H (ns.map DV.D.int) (ns.map V.int)
 | []=>.nil
 | n::ns=>.cons RV.intI (aL8 ns)
theorem aD6 :∀ ns:List Int,mr m (ns.map DV.D.int)=true
 | []=>rfl
 | n::ns=>by rw[aF];unfold mr;rw[aD6 ns];rfl
def bL3 (h:∀ ns:List Int,ns.length<=63->∃ s',(mz P k).call "law" [.ref 0] [.ro (ns.map DV.D.int)]=.ok (.T true) s') vs  H  Q  E (q:spT Γ vs H Q E):spV Γ ((mz P k).call "law") vs H Q E:=by
 obtain⟨a,ns,rfl,y,hl,hT,z⟩:=q;obtain⟨s',hs⟩:=h ns hl;refine⟨λ _=>a,[.ro (ns.map DV.D.int)],[.ref 0],.T true,s',⟨λ i j o F e e' m m' _=>?_,λ i o e=>?_,λ i o e=>?_,hT⟩,.cons RV.refI .nil,?_,hs,λ v C' H' g l b r R=>?_⟩
 .cases i with
  | zero=>cases e;cases m
  | succ i=>cases e
 .cases i with
  | zero=>cases e;exact⟨_,y,aL8 ns⟩
  | succ i=>cases e
 .cases i with
  | zero=>cases e;unfold mH;exact aD6 ns
  | succ i=>cases e
 .unfold mr mD mr;rfl
 .rw[r.blE];exact z H'
theorem aL9 :∀ {tbl:List (String×n9)},(∀ p∈tbl,Good Γ y z p.1 p.2)->∀ f d,tbl.lookup f=some d->Good Γ y z f d
 | [],_,f,d,h=>by cases h
 | (g,e)::tbl,H,f,d,h=>by
  rw[bo]at h;cases q:f==g with
  | true =>
   rw[q]at h;cases h;rw[eq_of_beq q];exact H (g,_) (au ..)
  | false =>
   rw[q]at h;exact aL9 (λ p hp=>H p (ai _ hp)) f d h
def bo5 (Γ:Gm)(mg:yD)(x:String)(d:mq):Prop:=∃ v u,mg (x)=some u/\RelV v u/\(∀ m,d.bnd m=true)/\∀ C H,RV Γ C H d v
theorem aY7 :∀ {tbl:List (String×mq)},(∀ p∈tbl,bo5 Γ y p.1 p.2)->∀ f d,tbl.lookup f=some d->bo5 Γ y f d
 | [],_,f,d,h=>by cases h
 | (g,e)::tbl,H,f,d,h=>by
  rw[bo]at h;cases q:f==g with
  | true =>
   rw[q]at h;cases h;rw[eq_of_beq q];exact H (g,_) (au ..)
  | false =>
   rw[q]at h;exact aY7 (λ p hp=>H p (ai _ hp)) f d h
def aH0 (h:y (x:Str)=some (.int i t)):bo5 Γ y x (.int i):=⟨.int i,_,h,⟨t,rfl⟩,λ _=>rfl,λ _ _=>RV.intI⟩
inductive ConV (Γ:Gm):mq->Value->Prop where
 | int (i:Int) (t:Tok):ConV Γ (.int i) (.int i t)
 | str (x:List Nat) (t:Tok) (h:x.length<=1000):ConV Γ (.str x) (.str ⟨x.toArray⟩ t)
inductive ConL (Γ:Gm):List mq->List Value->Prop where
 | nil:ConL Γ [] []
 | cons {d v l vs} (a:ConV Γ d v) (b:ConL Γ l vs):ConL Γ (d::l) (v::vs)
def aG6 {its:yH}(h:J (x:Str)=some (.ref a))(hk:Γ.K.lookup a=some o)(hc:o.cls=.type "tuple")(hd:o.data=.seq its.toArray n)(hz:its.length<=1000)
  (hl:ConL Γ l its) (Y:autoParam (nu l=false) Zq4._auto_1):bo5 Γ J x (.tp l):=by
 have key:∃ y,Vals y its/\(∀ m,mr m l=true)/\∀ C H,RVL Γ C H l y:=by
  clear hd hz Y
  induction hl with
  | nil=>exact⟨[],.nil,λ _=>rfl,λ _ _=>.nil⟩
  | cons a b ih =>
   obtain⟨y,G,F,h3⟩:=ih;cases a with
   | int i t=>exact⟨.int i::y,.cons ⟨t,rfl⟩ G,λ m=>by unfold mr;rw[F];rfl,λ C H=>.cons RV.intI (h3 C H)⟩
   | str x t h=>exact⟨.str ⟨x.toArray⟩::y,.cons ⟨t,rfl⟩ G,λ m=>by unfold mr;rw[F];rfl,λ C H=>.cons (RV.strI (by unfold mG;omega)) (h3 C H)⟩
 obtain⟨y,G,F,h3⟩:=key;refine⟨.ref a,_,h,rfl,λ m=>by unfold mD;exact F m,λ C H=>RV.tupC (.inr ⟨o,its.toArray,n,hk,hc,hd,?_,G⟩) (λ z=>by rw[Y]at z;cases z) (h3 C H)⟩;rw[ay];exact aN1 hz
end
def aT7 {K:ac}{mg mb:yD}{vs:yH}{tabs:yG}
  (KX:K.In G.heap) (a6:G.heap.Ns aZ mg) (hb:G.heap.Ns g8 mb) (c0:∀ x:Str,x ≠ "__name__"->mb x=br x) (hlim:G.heap.NoLimit) (hg:G.gens=#[]) (b0:BM mg G.heap) (hT:lu tabs G.heap) (b9:lv K=true)
  (ha:G.heap.get? a=some { cls:=.type "list",data:=.seq vs.toArray }) (hi:k7 vs ns) (hl:ns.length<=aP) (hr:Room k jb)
  (F:∀ base:Heap,K.In base->base.Ns aZ mg->BM mg base->(∀ q∈tabs,cq base q.1 q.2)->FnOk P w K mg base CX0 k fa fd [x] sp) (a3:∀(s:af) (u:Value),kY s fd ⟨[u],[]⟩ [(x,u)])
  (c3:∀ H:Hp,(∀ q∈tabs,H q.2=some (.tbl #[]))->SqL K H a (ns.map V.int)->(∀ u,H a=some u->(∃ o xs,u=.frz o (.J xs))\/∃ ps,u=.tbl ps)->sp [.ref a] H (λ v _=>v=.T true) E0) :
  iY (model P w) jb (.call (.ref fa) ⟨[.ref a],[]⟩) (λ r s'=>r=.ok (.ret (.bool true))/\OldK G.heap s'.heap/\s'.os=G.os/\fU s'.gens) G:=by
 have rv:=aF1 hi;have a7:=hi.length;have J:∀ b,b∈tabs.map (·.2)->G.heap.get? b=some (iV #[]):=λ b h=>by
  obtain⟨q,hq,rfl⟩:=aN.mp h;exact(hT q hq).2
 have a1:∀ H:Hp,(∀ b u,H b=some u->(b=a/\∃ o xs,u=.frz o (.J xs))\/(b∈tabs.map (·.2)/\u=.tbl #[]))->(∀ q∈tabs,H q.2=some (.tbl #[]))->SqL K H a (ns.map V.int)->HOk P w H G.heap->(H a≠none->K.lookup a=none) ->
   iY (model P w) jb (.call (.ref fa) ⟨[.ref a],[]⟩) (λ r s'=>r=.ok (.ret (.bool true))/\OldK G.heap s'.heap/\s'.os=G.os/\fU s'.gens) G:=by
  intro H hO c4 hS hok hK;have un:∀ b o,G.heap.get? b=some o->o.cls≠.type "list"->(∀ vs,o.data≠.fields vs)->H b=none:=λ b o e n1 n2=>by
   cases q:H b with
   | none=>rfl
   | some u =>
    rcases hO b u q with⟨z,_⟩|⟨z,_⟩
    .rw[z,ha]at e;cases e;exact absurd rfl n1
    .rw[J b z]at e;cases e;exact absurd rfl (n2 #[])
  have Z:∀ {b:Addr} {m:yD},G.heap.Ns b m->(bg9 G.heap H).Ns b m:=λ {b m} ⟨o,es,ep,e,d,r⟩=>by
   refine⟨o,es,ep,an5 e ?_,d,r⟩;cases q:H b with
   | none=>rfl
   | some u =>
    rcases hO b u q with⟨z,_⟩|⟨z,_⟩
    .rw[z,ha]at e;cases e;cases d
    .rw[J b z]at e;cases e;cases d
  have a8:K.In (bg9 G.heap H):=λ b o e=>an5 (KX b o e) (by
   cases q:H b with
   | none=>rfl
   | some u =>
    rcases hO b u q with⟨z,_⟩|⟨z,_⟩
    .subst z;rw[hK (by rw[q];simp)]at e;cases e
    .have e2:=KX b o e;rw[J b z]at e2;have h2:=aD.mp b9 (b,o) (PySem.W.mem_of_lookupK e);have e3:o=iV #[]:=(aB e2).symm;subst e3;exact absurd (show false=true from h2) aI)
  have hM:Mod K mg (bg9 G.heap H):=⟨a8,Z a6,⟨mb,Z hb,c0⟩,let⟨mc,h1,h2⟩:=hlim;⟨mc,Z h1,h2⟩⟩
  have c6:BM mg (bg9 G.heap H):=by
   obtain⟨bm,ob,b1,b2,b3,b4,b5,b6⟩:=b0;exact⟨bm,ob,b1,b2,an5 b3 (un bm ob b3 (by rw[b4];nofun) (by rw[b6];nofun)),b4,b5,b6⟩
  have d0:∀ q∈tabs,cq (bg9 G.heap H) q.1 q.2:=λ q hq=>by
   obtain⟨o,c1,a9,tf,a4,tg,c2,text,tt,e1,r1,r2⟩:=(hT q hq).1;refine⟨o,c1,a9,tf,a4,tg,c2,text,tt,an5 e1 ?_,r1,r2⟩;cases q2:H q.1 with
   | none=>rfl
   | some u =>
    rcases hO _ u q2 with⟨z,_⟩|⟨z,_⟩
    .rw[z,ha]at e1;cases e1;exact absurd r1 (by simp)
    .rw[J _ z]at e1;cases e1;exact absurd r1 (by simp)
  have e0:Env0 P w K mg (bg9 G.heap H) jb [] G H:=⟨rfl,hM,λ b o e=>bv9 e,Nat.le_of_eq (be1 _ _),trivial,λ b hb=>absurd (show b∈([]:List Addr)from hb) (by simp),hok,.of_eq hg⟩
  refine hJ ((F _ a8 (Z a6) c6 d0).run jb [] G H ⟨[.ref a],[]⟩ [.ref a] [.ref a] _ _ hr e0 (a3 G (.ref a)) (.cons rfl .nil) (c3 H c4 hS (λ u e=>(hO a u e).elim (λ z=>.inl z.2) (λ z=>.inr ⟨_,z.2⟩)))) λ r s' h=>?_;cases r with
  | error e=>exact bn h
  | ok fl =>
   cases fl with
   | next=>exact bn h
   | brk=>exact bn h
   | cont=>exact bn h
   | ret u =>
    obtain⟨v,H',os,bare,a5,a2,r',q⟩:=h;have q':v=.T true:=q;subst q';obtain rfl:u=Value.bool true:=r';have key:∀ b o,G.heap.get? b=some o->asItWas G.heap s'.heap b o/\∃ o',s'.heap.get? b=some o':=λ b o e=>by
     cases q:H b with
     | none =>
      have z:=a5.keep b o e q (by intro z;exact absurd (show b∈([]:List Addr)from z) (by simp)) (by simp);exact⟨.inl z,o,z⟩
     | some u =>
      rcases hO b u q with⟨_,ob,xs,z⟩|⟨z,z2⟩
      .subst z;have z2:=a5.frzs b ob _ q;obtain⟨e1,_⟩:=hok b _ q;obtain⟨e2,_⟩:=a2 b _ z2;rw[e]at e1;cases e1;exact⟨.inl e2,_,e2⟩
      .subst z2;obtain⟨a0,z3⟩:=a5.tbls b _ q;have g:s'.heap.get? b=some { cls:=.none,data:=.fields (#[]++a0) }:=a2 b _ z3;have e1:=J b z;rw[e]at e1;cases e1;obtain⟨p,hp,ep⟩:=aN.mp z;refine⟨.inr (.inl ⟨?_,rfl,#[],a0,rfl,g⟩),_,g⟩;have t:=((hT p hp).1.tab (hT p hp).2).isCodeTable;rw[ep]at t;exact t
    exact⟨rfl,⟨λ b o e=>(key b o e).1,λ b o e=>(key b o e).2⟩,os,bare⟩
 have tbl:∀ b,b∈tabs.map (·.2)->b≠a:=λ b h z=>by
  have e:=J b h;rw[z,ha]at e;cases e
 cases hk:K.lookup a with
 | some o =>
  have e:=KX a o hk;rw[ha]at e;cases e;refine a1 (λ b=>if b∈tabs.map (·.2)then some (.tbl #[])else none) (λ b u z=>?_) (λ q hq=>if_pos (cJ hq)) (.inr ⟨_,vs.toArray,_,hk,rfl,rfl,rfl,by rw[ay,a7];exact hl,by simpa using rv⟩) (λ b u z=>?_) λ z=>?_
  .by_cases hb:b∈tabs.map (·.2)
   .have Y:=(if_pos hb).symm.trans z;cases Y;exact .inr ⟨hb,rfl⟩
   .have Y:=(if_neg hb).symm.trans z;cases Y
  .by_cases hb:b∈tabs.map (·.2)
   .have Y:=(if_pos hb).symm.trans z;cases Y;exact J b hb
   .have Y:=(if_neg hb).symm.trans z;cases Y
  .exact absurd (if_neg λ y=>tbl a y rfl) z
 | none =>
  refine a1 (λ b=>if b=a then some (.frz { cls:=.type "list",data:=.seq vs.toArray } (.J (ns.map V.int)))else if b∈tabs.map (·.2)then some (.tbl #[])else none) (λ b u z=>?_) (λ q hq=>?_) (.inl (.inr ⟨{ cls:=.type "list",data:=.seq vs.toArray },if_pos rfl⟩)) (λ b u z=>?_) λ _=>hk
  .by_cases hb:b=a
   .have Y:=(if_pos hb).symm.trans z;cases Y;exact .inl ⟨hb,_,_,rfl⟩
   .have Y:=(if_neg hb).symm.trans z;by_cases hc:b∈tabs.map (·.2)
    .rw[if_pos hc]at Y;cases Y;exact .inr ⟨hc,rfl⟩
    .rw[if_neg hc]at Y;cases Y
  .have hm:q.2∈tabs.map (·.2):=cJ hq;show(if _ then _ else if _ then _ else _)=_;rw[if_neg (tbl _ hm),if_pos hm]
  .by_cases hb:b=a
   .have Y:=(if_pos hb).symm.trans z;cases Y;subst hb;exact⟨ha,by rw[ao];exact hl,vs,_,rv,ha⟩
   .have Y:=(if_neg hb).symm.trans z;by_cases hc:b∈tabs.map (·.2)
    .rw[if_pos hc]at Y;cases Y;exact J b hc
    .rw[if_neg hc]at Y;cases Y
def aX2 {l:dv}{loose:yI}{K:Params->ac}{sp:ac->Sp} names 
  (hn:l.most=some n) (a6:n<=aP) (a4:d.params.defaults=[]) (hr:Room k jb)
  (hY:∀(w:World) (h:Heap),YP w h->(K w.params).In h/\∀ P∈ts,h.get? P=some (iV #[])) (a2:∀ w:World,bR8 (K w.params) names ts=true) (a7:∀ w:World,lv (K w.params)=true)
  (F:∀(w:World) (Z:yD) (fa:Addr) (h:Heap),(K w.params).In h->h.Ns aZ Z->Z d.name=some (.ref fa) ->
   ∃ fd:bW,(∀(s:af) (u:Value),kY s fd ⟨[u],[]⟩ [(x,u)]) /\
    ∀ base:Heap,(K w.params).In base->base.Ns aZ Z->BM Z base->bA5 (K w.params) names base->FnOk l.prog w (K w.params) Z base CX0 k fa fd [x] (sp (K w.params)))
  (a3:∀(K:ac) (H:Hp) (a:Addr) (ns:List Int),ns.length<=n->bD2 K names H->SqL K H a (ns.map V.int)->(∀ u,H a=some u->(∃ o xs,u=.frz o (.J xs))\/∃ ps,u=.tbl ps)->sp K [.ref a] H (λ v _=>v=.T true) E0) :
  lA q loose XP YP l.row.toRowW d [] (λ f vs=>k9 f vs):=by
 refine Att.attach_call hn a4 λ w s₀ s₁ Z mb fa o pm cd b0 a vs ns G Y ho hd a9 a8 a1 a0 J hg=>?_;obtain⟨KX,a5⟩:=hY w _ Y;obtain⟨fd,hb,hF⟩:=F w Z fa _ KX G.T.g a8;have hT:lu ((aC5 (K w.params) names).map (·.2)) s₁.heap:=λ p hp=>by
  obtain⟨y,hy,rfl⟩:=aN.mp hp;obtain⟨h1,h2⟩:=at4.mp hy;have z:=aD.mp (a2 w) y.1 h1;rw[h2]at z;have z':(kz (K w.params) y.2.1 y.2.2&&ts.contains y.2.2)=true:=z;rw[am]at z';exact⟨PySem.W.codeHd_of_K KX z'.1,a5 _ (by simpa using z'.2)⟩
 have hm:∀ x∈names,∀ c P,bB (K w.params) x=some (c,P)->(c,P)∈(aC5 (K w.params) names).map (·.2):=λ x hx c P e=>aN.mpr ⟨(x,c,P),at4.mpr ⟨hx,e⟩,rfl⟩;refine aT7 (tabs:=(aC5 (K w.params) names).map (·.2)) KX G.T.g G.T.b G.T.builtins G.T.nolimit hg ?_ hT (a7 w) a1 a0 (aq J a6) hr (λ base k1 k2 k3 k4=>hF base k1 k2 k3 λ x hx c P e=>k4 _ (hm x hx c P e)) hb λ H hO hS hF=>a3 (K w.params) H a ns J (λ x hx c P e=>hO _ (hm x hx c P e)) hS hF;obtain⟨bm,ob,h1,h2,h3,h4,h5,h6⟩:=G.T.bmain;exact⟨bm,ob,h1,h2,h3,h4,h5,h6⟩
def spB (names:yI)(K:ac):Sp:=λ vs H Q _=>∃(a:Addr) (ns:List Int),vs=[.ref a]/\SqF K H a (ns.map V.int)/\ns.length<=63/\bD2 K names H/\∀ H',Q (.T true) H'
def bG5 {K}{ns:List Int}(hl:ns.length<=63)(G:bD2 K names H)(y:SqL K H a (ns.map V.int))(F:∀ u,H a=some u->(∃ o J,u=.frz o (.J J))\/∃ ps,u=.tbl ps):spB names K [.ref a] H (λ v _=>v=.T true) E0:=by
 refine⟨a,ns,rfl,⟨y,λ H' k=>?_⟩,hl,G,λ _=>rfl⟩;rcases y with(h|⟨o,h⟩)|h
 .rcases F _ h with⟨_,_,z⟩|⟨_,z⟩<;>cases z
 .exact .inl (.inr ⟨o,k _ _ h rfl⟩)
 .exact .inr h
def cl4 (P:mQ):String->LamI->Prop:=λ _ _=>False
noncomputable def sfx (x:Str):Str:=if x = "letter_table" then "least_fee" else "<lambda>"
def bv0 (names:yI)(K:ac):List (Addr×Str):=names.map λ x=>(((bB K x).getD (0,0)).2,x ++ ".<locals>."++sfx x)
noncomputable def bG4 (names:yI)(K:ac):List (Addr×Addr):=names.map λ x=>(bB K x).getD (0,0)
noncomputable def ce8 (K:ac)(f:String):Option Addr:=match bQ K aZ (f)with
 | some (some (.ref a))=>(match K.lookup a with
  | some ⟨_,_,.func _,_⟩=>some a
  | _=>none)
 | _=>none
def aM4 {K}(h:ce8 K f=some a):bQ K aZ (f)=some (some (.ref a))/\∃ oc od y sl,K.lookup a=some ⟨oc,od,.func y,sl⟩:=by
 unfold ce8 at h;split at h
 .rename_i z e;split at h
  .rename_i oc od y sl e2;cases h;exact⟨e,_,_,_,_,e2⟩
  .cases h
 .cases h
abbrev bz3 (names:yI)(P:mQ)(K:ac):Gm:=⟨K,ce8 K,cl4 P,bv0 names K⟩
def cd5 {K}{y:yD}(X:K.In h)(G:h.Ns aZ y):∀ f a ,(bz3 names P K).fa f=some a->y (f)=some (.ref a)/\∃ oc od z sl,(bz3 names P K).K.lookup a=some ⟨oc,od,.func z,sl⟩:=λ f a e=>⟨bL X G (aM4 e).1,(aM4 e).2⟩
def bk6 {K}(ht:∀ x∈names,(bB K x).isSome=true)(q:spB names K vs H Q E):spT (bz3 names P K) vs H Q E:=by
 obtain⟨a,ns,e,F,hl,z,y⟩:=q;refine⟨a,ns,e,F,hl,TabsH.init λ p hp=>?_,y⟩;simp only[bv0,ce]at hp;obtain⟨x,hx,rfl⟩:=aN.mp hp;exact z x hx _ _ (aO9 (ht x hx))
def bq0 {K}(ht:∀ x∈names,(bB K x).isSome=true)(F:BM z base)(hc:bA5 K names base):∀ y∈bG4 names K,cq base y.1 y.2/\BM z base:=λ y hy=>by
 obtain⟨x,hx,rfl⟩:=aN.mp hy;exact⟨hc x hx _ _ (aO9 (ht x hx)),F⟩
def ba2 {K}:bE9 (bz3 names P K) (bG4 names K) f sc N y (λ _ _ _=>false):=λ _ _ _ h=>by cases h
def bX3 (K:ac)(n:Str)(st:Stmt):Prop:=∃(f:Addr) (od an:yJ) (sl:yF) (oc kV dc pm cd ct:Value),bQ K aZ n=some (some (.ref f)) /\
 K.lookup f=some ⟨oc,od,.func (dj n n (defArgs st) (zD st) (defScope st) .none kV dc pm an cd ct),sl⟩/\f9 K cd n=true/\cy K (.ref f)=true
def cj3 (n:Str)(st:Stmt)(ps:yI):Prop:=∀ kV doc pm (an:yJ) cdv ct (us:yH),us.length=ps.length->bindArgs (dj n n (defArgs st) (zD st) (defScope st) .none kV doc pm an cdv ct) ⟨us,[]⟩=pure (ps.zip us)
def bd0 {Q:List Value->Prop}(h:Q [])(us:yH)(hl:us.length=0):Q us:=by
 cases us with
 | nil=>exact h
 | cons _ _=>cases hl
def bdS {Q:List Value->Prop}(h:∀ a us,us.length=k->Q (a::us))(us:yH)(hl:us.length=k+1):Q us:=by
 cases us with
 | nil=>cases hl
 | cons a us=>exact h a us (Nat.succ.inj hl)
def bd1 {Q:List Value->Prop}(h:∀ a,Q [a]):∀ us:List Value,us.length=1->Q us:=bdS λ a=>bd0 (h a)
def bd2 {Q:List Value->Prop}(h:∀ a b,Q [a,b]):∀ us:List Value,us.length=2->Q us:=bdS λ a=>bd1 (h a)
def bd3 {Q:List Value->Prop}(h:∀ a b c,Q [a,b,c]):∀ us:List Value,us.length=3->Q us:=bdS λ a=>bd2 (h a)
def DTB (names:yI)(P:mQ)(n:String)(pc vc:Nat)(m:Ck->List Stmt->Bool)(st:Stmt):Prop:=∃ N ps,FnScope N ps (defScope st)/\ps.length=pc/\N.length=pc+vc/\cj3 n st ps/\(m ⟨N,defScope st,λ _ _ _=>false⟩ (zD st)=true \/
 False)
def DT (names:yI)(P:mQ)(n:String)(d:n9)(st:Stmt):Prop:=DTB names P n d.ps d.vs (λ ck S=>mSs ck d.body S) st
def af8 {names:yI}{P:mQ}{K:ac}{h:Heap}{y:yD}{n:String}{J z:Nat}{m:Ck->List Stmt->Bool}{st:Stmt}(X:K.In h)(G:h.Ns aZ y)(hT:∀ x∈names,(bB K x).isSome=true)(hD:bX3 K n st)(hd:DTB names P n J z m st):GoodB (bz3 names P K) (bG4 names K) y n J z m:=by
 obtain⟨f,od,an,sl,oc,kV,dc,pm,cd,ct,a,l,c,k⟩:=hD;obtain⟨N,ps,Z,Y,h3,h4,h5⟩:=hd;have F:=bs5 (st:=st) l c k;have D:DefAt K y n st ps f _:=⟨F,bL X G a,F.binds h4⟩
 rcases h5 with h5|h5
 .exact⟨_,_,_,_,_,_,D,Z,Y,h3,h5,ba2⟩
 .exact h5.elim
def good_of {K}{y}{n:String}{st}(X:K.In h)(G:h.Ns aZ y)(hT:∀ x∈names,(bB K x).isSome=true)(hD:bX3 K n st)(hd:DT names P n d st):Good (bz3 names P K) (bG4 names K) y n d:=af8 X G hT hD hd
theorem aI8 {α:Type}{Q:String->α->Prop}:∀ {tbl:List (String×α)},(∀ p∈tbl,Q p.1 p.2)->∀ f d,tbl.lookup f=some d->Q f d
 | [],_,f,d,h=>by cases h
 | (g,e)::tbl,H,f,d,h=>by
  rw[bo]at h;cases q:f==g with
  | true =>
   rw[q]at h;cases h;rw[eq_of_beq q];exact H (g,_) (au ..)
  | false =>
   rw[q]at h;exact aI8 (λ p hp=>H p (ai _ hp)) f d h
def cj2 (K:ac)(c:String):Bool:=match bQ K aZ (c)with|some (some (.ref Cc))=>cb5 K Cc&&(excI K Cc&&(bJ K (.ref Cc) (.ref Cc)==some true&&(bc K (.ref Cc) (.type "ValueError")==some true&&bQ K aZ ("ValueError")==some none)))|_=>false
noncomputable def ci8 (K:ac)(c:String):Bool:=match bQ K aZ (c)with|some (some (.ref _))=>true|_=>false
noncomputable def cj4 (K:ac)(c d:String):Bool:=match bQ K aZ (c),bQ K aZ (d)with|some (some (.ref Cc)),some (some (.ref D))=>bc K (.ref Cc) (.ref D)==some (mF c d)&&bJ K (.ref Cc) (.ref D)==some (mF c d)|_,_=>false
def bx1 (K:ac)(cs ts:List String):Bool:=cs.all (cj2 K)&&(ts.all (ci8 K)&&cs.all λ c=>ts.all λ d=>cj4 K c d)
def ap3 {K:ac}{y:yD}(X:K.In h)(G:h.Ns aZ y)(hx:bx1 K z ts=true) :
  (∀ c:String,z.contains c=true->∃ Cc,y (c:Str)=some (.ref Cc)/\ExcCls K Cc/\excI K Cc=true)/\(∀ c:String,ts.contains c=true->∃ Cc,y (c:Str)=some (.ref Cc)) /\
  (∀(c d:String) (Cc D:Addr),z.contains c=true->ts.contains d=true->y (c:Str)=some (.ref Cc)->y (d:Str)=some (.ref D)->bc K (.ref Cc) (.ref D)=some (mF c d)) /\
  (∀(c d:String) (Cc D:Addr),z.contains c=true->ts.contains d=true->y (c:Str)=some (.ref Cc)->y (d:Str)=some (.ref D)->bJ K (.ref Cc) (.ref D)=some (mF c d)) /\
  (∀(c:String) (Cc:Addr),z.contains c=true->y (c:Str)=some (.ref Cc)->bJ K (.ref Cc) (.ref Cc)=some true)/\(∀ c:String,z.contains c=true->y ("ValueError":Str)=none) /\
  ∀(c:String) (Cc:Addr),z.contains c=true->y (c:Str)=some (.ref Cc)->bc K (.ref Cc) (.type "ValueError")=some true:=by
 unfold bx1 at hx;simp only[am]at hx;obtain⟨h1,Z,h3⟩:=hx;have one:∀ c:String,z.contains c=true->∃ Cc,y (c:Str)=some (.ref Cc)/\ExcCls K Cc/\excI K Cc=true/\bJ K (.ref Cc) (.ref Cc)=some true/\bc K (.ref Cc) (.type "ValueError")=some true/\y ("ValueError":Str)=none:=λ c hc=>by
  have q:=aD.mp h1 c (dC.mp hc);unfold cj2 at q;split at q
  .rename_i Cc e;rw[am,am,am,am]at q;exact⟨Cc,bL X G e,bE0 q.1,q.2.1,eq_of_beq q.2.2.1,eq_of_beq q.2.2.2.1,jM X G (eq_of_beq q.2.2.2.2)⟩
  .cases q
 have two:∀(c d:String) (Cc D:Addr),z.contains c=true->ts.contains d=true->y (c:Str)=some (.ref Cc)->y (d:Str)=some (.ref D)->bc K (.ref Cc) (.ref D)=some (mF c d)/\bJ K (.ref Cc) (.ref D)=some (mF c d):=λ c d Cc D hc hd mc md=>by
  have q:=aD.mp (aD.mp h3 c (dC.mp hc)) d (dC.mp hd);unfold cj4 at q;split at q
  .rename_i F D' e1 e2;have Y:=bL X G e1;have J:=bL X G e2;rw[mc]at Y;cases Y;rw[md]at J;cases J;rw[am]at q;exact⟨eq_of_beq q.1,eq_of_beq q.2⟩
  .cases q
 refine⟨λ c hc=>?_,λ c hc=>?_,λ c d Cc D a b e f=>(two c d Cc D a b e f).1,λ c d Cc D a b e f=>(two c d Cc D a b e f).2,λ c Cc hc hm=>?_,λ c hc=>?_,λ c Cc hc hm=>?_⟩
 .obtain⟨Cc,a,b,e,_⟩:=one c hc;exact⟨Cc,a,b,e⟩
 .have q:=aD.mp Z c (dC.mp hc);unfold ci8 at q;split at q
  .rename_i Cc e;exact⟨Cc,bL X G e⟩
  .cases q
 .obtain⟨F,a,_,_,b,_⟩:=one c hc;rw[hm]at a;cases a;exact b
 .obtain⟨F,_,_,_,_,_,b⟩:=one c hc;exact b
 .obtain⟨F,a,_,_,_,b,_⟩:=one c hc;rw[hm]at a;cases a;exact b
end L2
end
noncomputable section
namespace DV
noncomputable def ab1:Df:=⟨"is_whole",3,0,(.cons (.ret (.and (.bi .isInt (.cons (.X 0) .nil)) (.and (.not (.bi .isBool (.cons (.X 0) .nil))) (.chain .le .le (.X 1) (.X 0) (.X 2))))) .nil)⟩
noncomputable def ab0:Df:=⟨"is_tuple_of",2,0,(.cons (.ret (.and (.bi .isTup (.cons (.X 0) .nil)) (.Z .eq (.bi .len (.cons (.X 0) .nil)) (.X 1)))) .nil)⟩
noncomputable def ab9:Df:=⟨"is_room",2,0,(.cons (.ret (.call "is_whole" (.ex (.X 0) (.ex (.K (.int 0)) (.ex (.G .sub (.X 1) (.K (.int 1))) .nil))))) .nil)⟩
noncomputable def ab5:Df:=⟨"is_letter",2,0,(.cons (.ret (.Z .isin (.X 0) (.slU (.gl "LETTERS") (.X 1)))) .nil)⟩
noncomputable def aa3:Df:=⟨"are_rising_rooms",2,0,(.cons (.ite (.or (.not (.bi .isTup (.cons (.X 0) .nil))) (.not (.mk .all (.comp (.Y 0) (.seq (.X 0)) (.call "is_room" (.ex (.X 0) (.ex (.X 1) .nil))) [none,some 1])))) (.cons (.ret (.K (.T false))) .nil) .nil) (.cons (.ret (.mk .all (.comp (.tp [0,1]) (.zip (.seq (.X 0)) (.seq (.slL (.X 0) (.K (.int 1))))) (.Z .lt (.X 0) (.X 1)) [none,none]))) .nil))⟩
noncomputable def ac1:Df:=⟨"is_door",3,0,(.cons (.ret (.and (.call "is_tuple_of" (.ex (.X 0) (.ex (.K (.int 4)) .nil))) (.and (.call "is_room" (.ex (.ix (.X 0) (.K (.int 0))) (.ex (.X 2) .nil))) (.and (.call "is_letter" (.ex (.ix (.X 0) (.K (.int 1))) (.ex (.X 1) .nil))) (.and (.call "is_room" (.ex (.ix (.X 0) (.K (.int 2))) (.ex (.X 2) .nil))) (.call "is_whole" (.ex (.ix (.X 0) (.K (.int 3))) (.ex (.K (.int 0)) (.ex (.gl "MOST_TOLL") .nil))))))))) .nil)⟩
noncomputable def ab4:Df:=⟨"are_doors",3,0,(.cons (.ite (.or (.not (.bi .isTup (.cons (.X 0) .nil))) (.Z .gt (.bi .len (.cons (.X 0) .nil)) (.gl "MOST_DOORS"))) (.cons (.ret (.K (.T false))) .nil) .nil) (.cons (.ret (.mk .all (.comp (.Y 0) (.seq (.X 0)) (.call "is_door" (.ex (.X 0) (.ex (.X 1) (.ex (.X 2) .nil)))) [none,some 1,some 2]))) .nil))⟩
noncomputable def ab7:Df:=⟨"is_machine",1,0,(.cons (.ret (.and (.call "is_tuple_of" (.ex (.X 0) (.ex (.K (.int 5)) .nil))) (.and (.call "is_whole" (.ex (.ix (.X 0) (.K (.int 0))) (.ex (.K (.int 1)) (.ex (.bi .len (.cons (.gl "LETTERS") .nil)) .nil)))) (.and (.call "is_whole" (.ex (.ix (.X 0) (.K (.int 1))) (.ex (.K (.int 1)) (.ex (.gl "MOST_ROOMS") .nil)))) (.and (.call "are_rising_rooms" (.ex (.ix (.X 0) (.K (.int 2))) (.ex (.ix (.X 0) (.K (.int 1))) .nil))) (.and (.call "are_rising_rooms" (.ex (.ix (.X 0) (.K (.int 3))) (.ex (.ix (.X 0) (.K (.int 1))) .nil))) (.call "are_doors" (.ex (.ix (.X 0) (.K (.int 4))) (.ex (.ix (.X 0) (.K (.int 0))) (.ex (.ix (.X 0) (.K (.int 1))) .nil)))))))))) .nil)⟩
noncomputable def ax6:Df:=⟨"_law_bag",2,3,(.cons (.A (.Y 2) (.K (.int 0))) (.cons (.ite (.Z .lt (.X 1) (.bi .len (.cons (.X 0) .nil))) (.cons (.A (.Y 2) (.bi .abs (.cons (.ix (.X 0) (.X 1)) .nil))) .nil) .nil) (.cons (.A (.Y 3) (.G .add (.G .mul (.K (.int 7919)) (.X 1)) (.K (.int 17)))) (.cons (.fo (.Y 4) (.rg (.bi .min2 (.cons (.bi .len (.cons (.X 0) .nil)) (.cons (.K (.int 60)) .nil)))) (.cons (.A (.Y 3) (.G .mod (.G .add (.G .add (.G .mul (.X 3) (.K (.int 48271))) (.G .mod (.ix (.X 0) (.X 4)) (.K (.int 2147483647)))) (.X 4)) (.K (.int 2147483629)))) .nil)) (.cons (.ite (.Z .lt (.X 2) (.G .pow (.K (.int 10)) (.K (.int 18)))) (.cons (.A (.Y 2) (.K (.int 0))) .nil) .nil) (.cons (.ret (.J (.cons (.X 2) (.cons (.X 3) .nil)))) .nil))))))⟩
noncomputable def ae1:Df:=⟨"_law_take",2,3,(.cons (.ite (.Z .gt (.ix (.X 0) (.K (.int 0))) (.K (.int 0))) (.cons (.A (.Y 2) (.G .mod (.ix (.X 0) (.K (.int 0))) (.X 1))) (.cons (.setIx (.X 0) (.K (.int 0)) (.G .fdiv (.ix (.X 0) (.K (.int 0))) (.X 1))) (.cons (.ret (.X 2)) .nil))) .nil) (.cons (.A (.Y 3) (.K (.int 0))) (.cons (.A (.Y 4) (.K (.int 1))) (.cons (.whl (.Z .lt (.X 4) (.X 1)) (.cons (.setIx (.X 0) (.K (.int 1)) (.G .mod (.G .add (.G .mul (.ix (.X 0) (.K (.int 1))) (.K (.int 48271))) (.K (.int 7919))) (.K (.int 2147483647)))) (.cons (.A (.Y 3) (.G .add (.G .mul (.X 3) (.K (.int 1073741789))) (.G .mod (.G .mul (.G .fdiv (.ix (.X 0) (.K (.int 1))) (.K (.int 8))) (.K (.int 69621))) (.K (.int 1073741789))))) (.cons (.A (.Y 4) (.G .mul (.X 4) (.K (.int 1073741789)))) .nil)))) (.cons (.ret (.G .mod (.X 3) (.X 1))) .nil)))))⟩
noncomputable def ag1:Df:=⟨"_law_rooms",2,1,(.cons (.A (.Y 2) (.call "_law_take" (.ex (.X 0) (.ex (.G .shl (.K (.int 1)) (.X 1)) .nil)))) (.cons (.ret (.mk .tuple (.compIf (.Y 0) (.rg (.X 1)) (.Z .eq (.G .mod (.G .fdiv (.X 1) (.G .shl (.K (.int 1)) (.X 0))) (.K (.int 2))) (.K (.int 1))) (.X 0) [none,some 2]))) .nil))⟩
noncomputable def ae7:Df:=⟨"_law_machine",1,5,(.cons (.A (.Y 1) (.G .add (.K (.int 1)) (.call "_law_take" (.ex (.X 0) (.ex (.K (.int 3)) .nil))))) (.cons (.A (.Y 2) (.G .add (.K (.int 1)) (.call "_law_take" (.ex (.X 0) (.ex (.K (.int 5)) .nil))))) (.cons (.A (.Y 3) (.call "_law_take" (.ex (.X 0) (.ex (.K (.int 13)) .nil)))) (.cons (.ite (.Z .eq (.call "_law_take" (.ex (.X 0) (.ex (.K (.int 8)) .nil))) (.K (.int 7))) (.cons (.A (.Y 3) (.call "_law_take" (.ex (.X 0) (.ex (.K (.int 76)) .nil)))) .nil) .nil) (.cons (.A (.Y 4) (.J .nil)) (.cons (.fo (.Y 5) (.rg (.X 3)) (.cons (.ex (.me .append (.X 4) (.cons (.tp (.cons (.call "_law_take" (.ex (.X 0) (.ex (.X 2) .nil))) (.cons (.ix (.K (.str [97,98,99])) (.call "_law_take" (.ex (.X 0) (.ex (.X 1) .nil)))) (.cons (.call "_law_take" (.ex (.X 0) (.ex (.X 2) .nil))) (.cons (.call "_law_take" (.ex (.X 0) (.ex (.K (.int 4)) .nil))) .nil))))) .nil))) .nil)) (.cons (.ret (.tp (.cons (.X 1) (.cons (.X 2) (.cons (.call "_law_rooms" (.ex (.X 0) (.ex (.X 2) .nil))) (.cons (.call "_law_rooms" (.ex (.X 0) (.ex (.X 2) .nil))) (.cons (.mk .tuple (.seq (.X 4))) .nil))))))) .nil)))))))⟩
noncomputable def al5:Df:=⟨"letters_of",1,0,(.cons (.ret (.slU (.gl "LETTERS") (.ix (.X 0) (.K (.int 0))))) .nil)⟩
noncomputable def au6:Df:=⟨"rooms_of",1,0,(.cons (.ret (.ix (.X 0) (.K (.int 1)))) .nil)⟩
noncomputable def ap8:Df:=⟨"begins_of",1,0,(.cons (.ret (.ix (.X 0) (.K (.int 2)))) .nil)⟩
noncomputable def aE4:Df:=⟨"ends_of",1,0,(.cons (.ret (.ix (.X 0) (.K (.int 3)))) .nil)⟩
noncomputable def au2:Df:=⟨"doors_of",1,0,(.cons (.ret (.ix (.X 0) (.K (.int 4)))) .nil)⟩
noncomputable def bN6:Df:=⟨"grid",2,2,.nil⟩
noncomputable def at3:Df:=⟨"sign_product",2,1,.nil⟩
noncomputable def ak3:Lm:=⟨"sign_product.0",2,3,(.mk .min (.comp (.Y 0) (.rg (.X 2)) (.bi .max2 (.cons (.ix (.ix (.X 1) (.X 2)) (.X 0)) (.cons (.ix (.ix (.X 3) (.X 0)) (.X 4)) .nil))) [none,some 3,some 0,some 4,some 1]))⟩
noncomputable def ad9:Df:=⟨"_law_whole",3,0,(.cons (.ret (.and (.bi .isInt (.cons (.X 0) .nil)) (.and (.not (.bi .isBool (.cons (.X 0) .nil))) (.chain .le .le (.X 1) (.X 0) (.X 2))))) .nil)⟩
noncomputable def ac0:Df:=⟨"_law_are_rooms",2,2,(.cons (.ite (.not (.bi .isTup (.cons (.X 0) .nil))) (.cons (.ret (.K (.T false))) .nil) .nil) (.cons (.A (.Y 2) (.neg (.K (.int 1)))) (.cons (.fo (.Y 3) (.seq (.X 0)) (.cons (.ite (.not (.call "_law_whole" (.ex (.X 3) (.ex (.G .add (.X 2) (.K (.int 1))) (.ex (.G .sub (.X 1) (.K (.int 1))) .nil))))) (.cons (.ret (.K (.T false))) .nil) .nil) (.cons (.A (.Y 2) (.X 3)) .nil))) (.cons (.ret (.K (.T true))) .nil))))⟩
noncomputable def ab8:Df:=⟨"_law_is_door",3,0,(.cons (.ite (.or (.not (.bi .isTup (.cons (.X 0) .nil))) (.or (.Z .ne (.bi .len (.cons (.X 0) .nil)) (.K (.int 4))) (.or (.not (.bi .isStr (.cons (.ix (.X 0) (.K (.int 1))) .nil))) (.Z .ne (.bi .len (.cons (.ix (.X 0) (.K (.int 1))) .nil)) (.K (.int 1)))))) (.cons (.ret (.K (.T false))) .nil) .nil) (.cons (.ite (.or (.not (.call "_law_whole" (.ex (.ix (.X 0) (.K (.int 0))) (.ex (.K (.int 0)) (.ex (.G .sub (.X 2) (.K (.int 1))) .nil))))) (.not (.call "_law_whole" (.ex (.ix (.X 0) (.K (.int 2))) (.ex (.K (.int 0)) (.ex (.G .sub (.X 2) (.K (.int 1))) .nil)))))) (.cons (.ret (.K (.T false))) .nil) .nil) (.cons (.ret (.and (.Z .isin (.ix (.X 0) (.K (.int 1))) (.slU (.K (.str [97,98,99])) (.X 1))) (.call "_law_whole" (.ex (.ix (.X 0) (.K (.int 3))) (.ex (.K (.int 0)) (.ex (.K (.int 3)) .nil)))))) .nil)))⟩
noncomputable def ab3:Df:=⟨"_law_is_machine",2,0,(.cons (.ite (.or (.not (.bi .isTup (.cons (.X 0) .nil))) (.or (.Z .ne (.bi .len (.cons (.X 0) .nil)) (.K (.int 5))) (.not (.call "_law_whole" (.ex (.ix (.X 0) (.K (.int 0))) (.ex (.X 1) (.ex (.X 1) .nil))))))) (.cons (.ret (.K (.T false))) .nil) .nil) (.cons (.ite (.or (.not (.call "_law_whole" (.ex (.ix (.X 0) (.K (.int 1))) (.ex (.K (.int 1)) (.ex (.K (.int 5)) .nil))))) (.or (.not (.bi .isTup (.cons (.ix (.X 0) (.K (.int 4))) .nil))) (.Z .gt (.bi .len (.cons (.ix (.X 0) (.K (.int 4))) .nil)) (.K (.int 75))))) (.cons (.ret (.K (.T false))) .nil) .nil) (.cons (.ite (.or (.not (.call "_law_are_rooms" (.ex (.ix (.X 0) (.K (.int 2))) (.ex (.ix (.X 0) (.K (.int 1))) .nil)))) (.not (.call "_law_are_rooms" (.ex (.ix (.X 0) (.K (.int 3))) (.ex (.ix (.X 0) (.K (.int 1))) .nil))))) (.cons (.ret (.K (.T false))) .nil) .nil) (.cons (.ret (.mk .all (.comp (.Y 0) (.seq (.ix (.X 0) (.K (.int 4)))) (.call "_law_is_door" (.ex (.X 0) (.ex (.X 1) (.ex (.ix (.X 2) (.K (.int 1))) .nil)))) [none,some 1,some 0]))) .nil))))⟩
noncomputable def ck4:Df:=⟨"_law_on",3,5,.nil⟩
noncomputable def ag0:Df:=⟨"_law_due",1,1,(.cons (.A (.Y 1) (.call "_law_read" (.ex (.X 0) .nil))) (.cons (.ite (.isN (.X 1)) (.cons (.ret (.J (.cons (.K (.str [116,101,120,116])) .nil))) .nil) .nil) (.cons (.ret (.X 1)) .nil)))⟩
noncomputable def ak5:Df:=⟨"row_text",1,0,(.cons (.ret (.join (.K (.str [32])) (.mk .list (.comp (.Y 0) (.seq (.X 0)) (.bi .str (.cons (.X 0) .nil)) [none])))) .nil)⟩
noncomputable def qO:Df:=⟨"machine_text",1,1,.nil⟩
noncomputable def ab2:Df:=⟨"read_machine",1,6,(.cons (.A (.Y 1) (.mk .list (.comp (.Y 0) (.seq (.spl (.X 0) 10)) (.spl (.X 0) 32) [none]))) (.cons (.A (.Y 2) (.slU (.X 1) (.bi .len (.cons (.gl "HEADS") .nil)))) (.cons (.ite (.Z .ne (.mk .list (.comp (.Y 0) (.seq (.X 2)) (.ix (.X 0) (.K (.int 0))) [none])) (.mk .list (.seq (.gl "HEADS")))) (.cons .raise .nil) .nil) (.cons (.A (.Y 3) (.call "read_number" (.ex (.ix (.X 2) (.K (.int 0))) .nil))) (.cons (.A (.Y 4) (.call "read_number" (.ex (.ix (.X 2) (.K (.int 1))) .nil))) (.cons (.A (.Y 5) (.mk .tuple (.comp (.Y 0) (.seq (.slL (.X 1) (.bi .len (.cons (.gl "HEADS") .nil)))) (.call "read_door" (.ex (.X 0) .nil)) [none]))) (.cons (.A (.Y 6) (.tp (.cons (.X 3) (.cons (.X 4) (.cons (.call "read_numbers" (.ex (.ix (.X 2) (.K (.int 2))) .nil)) (.cons (.call "read_numbers" (.ex (.ix (.X 2) (.K (.int 3))) .nil)) (.cons (.X 5) .nil))))))) (.cons (.ite (.not (.call "is_machine" (.ex (.X 6) .nil))) (.cons .raise .nil) .nil) (.cons (.ret (.X 6)) .nil)))))))))⟩
noncomputable def aa2:Df:=⟨"read_figure",1,0,(.cons (.ite (.Z .notin (.X 0) (.gl "FIGURES")) (.cons .raise .nil) .nil) (.cons (.ret (.bi .int (.cons (.X 0) .nil))) .nil))⟩
noncomputable def aa5:Df:=⟨"read_numbers",1,0,(.cons (.ret (.mk .tuple (.comp (.Y 0) (.seq (.slL (.X 0) (.K (.int 1)))) (.call "read_figure" (.ex (.X 0) .nil)) [none]))) .nil)⟩
noncomputable def aa6:Df:=⟨"read_number",1,0,(.cons (.ite (.Z .ne (.bi .len (.cons (.X 0) .nil)) (.K (.int 2))) (.cons .raise .nil) .nil) (.cons (.ret (.call "read_figure" (.ex (.ix (.X 0) (.K (.int 1))) .nil))) .nil))⟩
noncomputable def aa8:Df:=⟨"read_door",1,0,(.cons (.ite (.or (.Z .ne (.bi .len (.cons (.X 0) .nil)) (.K (.int 5))) (.Z .ne (.ix (.X 0) (.K (.int 0))) (.K (.str [100,111,111,114])))) (.cons .raise .nil) .nil) (.cons (.ret (.tp (.cons (.call "read_figure" (.ex (.ix (.X 0) (.K (.int 1))) .nil)) (.cons (.ix (.X 0) (.K (.int 2))) (.cons (.call "read_figure" (.ex (.ix (.X 0) (.K (.int 3))) .nil)) (.cons (.call "read_figure" (.ex (.ix (.X 0) (.K (.int 4))) .nil)) .nil)))))) .nil))⟩
noncomputable def ac5:Df:=⟨"_law_written",1,12,(.cons (.A (.tp [1,2,3,4,5]) (.X 0)) (.cons (.A (.Y 6) (.J (.cons (.G .add (.K (.str [108,101,116,116,101,114,115,32])) (.bi .str (.cons (.X 1) .nil))) (.cons (.G .add (.K (.str [114,111,111,109,115,32])) (.bi .str (.cons (.X 2) .nil))) .nil)))) (.cons (.fo (.tp [7,8]) (.seq (.J (.cons (.tp (.cons (.K (.str [98,101,103,105,110])) (.cons (.X 3) .nil))) (.cons (.tp (.cons (.K (.str [101,110,100])) (.cons (.X 4) .nil))) .nil)))) (.cons (.ex (.me .append (.X 6) (.cons (.join (.K (.str [32])) (.G .add (.J (.cons (.X 7) .nil)) (.mk .list (.comp (.Y 0) (.seq (.X 8)) (.bi .str (.cons (.X 0) .nil)) [none])))) .nil))) .nil)) (.cons (.fo (.tp [9,10,11,12]) (.seq (.X 5)) (.cons (.ex (.me .append (.X 6) (.cons (.G .add (.G .add (.G .add (.G .add (.G .add (.G .add (.G .add (.K (.str [100,111,111,114,32])) (.bi .str (.cons (.X 9) .nil))) (.K (.str [32]))) (.X 10)) (.K (.str [32]))) (.bi .str (.cons (.X 11) .nil))) (.K (.str [32]))) (.bi .str (.cons (.X 12) .nil))) .nil))) .nil)) (.cons (.ret (.join (.K (.str [10])) (.X 6))) .nil)))))⟩
noncomputable def aW5:Df:=⟨"law",1,5,(.cons (.A (.Y 1) (.J .nil)) (.cons (.fo (.Y 2) (.rg (.bi .max2 (.cons (.K (.int 3)) (.cons (.bi .min2 (.cons (.bi .len (.cons (.X 0) .nil)) (.cons (.K (.int 12)) .nil))) .nil)))) (.cons (.ex (.me .append (.X 1) (.cons (.call "_law_machine" (.ex (.call "_law_bag" (.ex (.X 0) (.ex (.X 2) .nil))) .nil)) .nil))) .nil)) (.cons (.fo (.Y 3) (.seq (.G .add (.X 1) (.slU (.X 1) (.K (.int 2))))) (.cons (.A (.Y 4) (.call "machine_text" (.ex (.X 3) .nil))) (.cons (.ite (.or (.not (.bi .isStr (.cons (.X 4) .nil))) (.Z .ne (.X 4) (.call "_law_written" (.ex (.X 3) .nil)))) (.cons (.ret (.K (.T false))) .nil) .nil) (.cons (.A (.Y 5) (.call "read_machine" (.ex (.X 4) .nil))) (.cons (.ite (.or (.not (.bi .isTup (.cons (.X 5) .nil))) (.or (.Z .ne (.X 5) (.X 3)) (.Z .ne (.call "machine_text" (.ex (.X 5) .nil)) (.X 4)))) (.cons (.ret (.K (.T false))) .nil) .nil) .nil))))) (.cons (.ret (.K (.T true))) .nil))))⟩
noncomputable def af9:Df:=⟨"_law_read",1,6,(.cons (.A (.Y 1) (.mk .list (.comp (.Y 0) (.seq (.spl (.X 0) 10)) (.spl (.X 0) 32) [none]))) (.cons (.ite (.or (.Z .lt (.bi .len (.cons (.X 1) .nil)) (.K (.int 4))) (.Z .ne (.mk .list (.comp (.Y 0) (.seq (.slU (.X 1) (.K (.int 4)))) (.ix (.X 0) (.K (.int 0))) [none])) (.J (.cons (.K (.str [108,101,116,116,101,114,115])) (.cons (.K (.str [114,111,111,109,115])) (.cons (.K (.str [98,101,103,105,110])) (.cons (.K (.str [101,110,100])) .nil))))))) (.cons (.ret (.K .N)) .nil) .nil) (.cons (.ite (.or (.Z .ne (.bi .len (.cons (.ix (.X 1) (.K (.int 0))) .nil)) (.K (.int 2))) (.or (.Z .ne (.bi .len (.cons (.ix (.X 1) (.K (.int 1))) .nil)) (.K (.int 2))) (.not (.mk .all (.comp (.Y 0) (.seq (.slL (.X 1) (.K (.int 4)))) (.and (.Z .eq (.ix (.X 0) (.K (.int 0))) (.K (.str [100,111,111,114]))) (.Z .eq (.bi .len (.cons (.X 0) .nil)) (.K (.int 5)))) [none]))))) (.cons (.ret (.K .N)) .nil) .nil) (.cons (.A (.Y 2) (.G .add (.G .add (.J (.cons (.ix (.ix (.X 1) (.K (.int 0))) (.K (.int 1))) (.cons (.ix (.ix (.X 1) (.K (.int 1))) (.K (.int 1))) .nil))) (.slL (.ix (.X 1) (.K (.int 2))) (.K (.int 1)))) (.slL (.ix (.X 1) (.K (.int 3))) (.K (.int 1))))) (.cons (.fo (.Y 3) (.seq (.slL (.X 1) (.K (.int 4)))) (.cons (.A (.Y 2) (.G .add (.X 2) (.J (.cons (.ix (.X 3) (.K (.int 1))) (.cons (.ix (.X 3) (.K (.int 3))) (.cons (.ix (.X 3) (.K (.int 4))) .nil)))))) .nil)) (.cons (.ite (.not (.mk .all (.comp (.Y 0) (.seq (.X 2)) (.Z .isin (.X 0) (.mk .list (.seq (.K (.str [48,49,50,51,52,53,54,55,56,57]))))) [none]))) (.cons (.ret (.K .N)) .nil) .nil) (.cons (.A (.Y 4) (.mk .tuple (.comp (.Y 0) (.seq (.slL (.X 1) (.K (.int 4)))) (.tp (.cons (.bi .int (.cons (.ix (.X 0) (.K (.int 1))) .nil)) (.cons (.ix (.X 0) (.K (.int 2))) (.cons (.bi .int (.cons (.ix (.X 0) (.K (.int 3))) .nil)) (.cons (.bi .int (.cons (.ix (.X 0) (.K (.int 4))) .nil)) .nil))))) [none]))) (.cons (.A (.Y 5) (.mk .tuple (.comp (.Y 0) (.seq (.slL (.ix (.X 1) (.K (.int 2))) (.K (.int 1)))) (.bi .int (.cons (.X 0) .nil)) [none]))) (.cons (.A (.Y 6) (.tp (.cons (.bi .int (.cons (.ix (.ix (.X 1) (.K (.int 0))) (.K (.int 1))) .nil)) (.cons (.bi .int (.cons (.ix (.ix (.X 1) (.K (.int 1))) (.K (.int 1))) .nil)) (.cons (.X 5) (.cons (.mk .tuple (.comp (.Y 0) (.seq (.slL (.ix (.X 1) (.K (.int 3))) (.K (.int 1)))) (.bi .int (.cons (.X 0) .nil)) [none])) (.cons (.X 4) .nil))))))) (.cons (.ite (.or (.not (.chain .le .le (.K (.int 1)) (.ix (.X 6) (.K (.int 0))) (.K (.int 3)))) (.not (.call "_law_is_machine" (.ex (.X 6) (.ex (.ix (.X 6) (.K (.int 0))) .nil))))) (.cons (.ret (.K .N)) .nil) .nil) (.cons (.ret (.X 6)) .nil)))))))))))⟩
noncomputable def aa9:Df:=⟨"_law_words_otherwise",2,7,(.cons (.A (.Y 2) (.call "_law_take" (.ex (.X 0) (.ex (.bi .len (.cons (.X 1) .nil)) .nil)))) (.cons (.A (.Y 3) (.spl (.ix (.X 1) (.X 2)) 32)) (.cons (.A (.Y 4) (.call "_law_take" (.ex (.X 0) (.ex (.bi .len (.cons (.X 3) .nil)) .nil)))) (.cons (.A (.Y 5) (.J (.cons (.K (.str [48,48])) (.cons (.K (.str [48,49])) (.cons (.K (.str [49,48])) (.cons (.K (.str [43,49])) (.cons (.K (.str [45,49])) (.cons (.K (.str [49,46])) (.cons (.K (.str [48])) (.cons (.K (.str [49])) (.cons (.K (.str [51])) (.cons (.K (.str [52])) (.cons (.K (.str [53])) (.cons (.K (.str [54])) (.cons (.K (.str [57])) (.cons (.K (.str [97])) (.cons (.K (.str [98])) (.cons (.K (.str [99])) (.cons (.K (.str [100])) (.cons (.K (.str [97,98])) (.cons (.K (.str [65])) .nil))))))))))))))))))))) (.cons (.A (.Y 5) (.G .add (.X 5) (.J (.cons (.K (.str [])) (.cons (.K (.str [49,95])) (.cons (.K (.str [108,101,116,116,101,114,115])) (.cons (.K (.str [114,111,111,109,115])) (.cons (.K (.str [98,101,103,105,110])) (.cons (.K (.str [101,110,100])) (.cons (.K (.str [100,111,111,114])) (.cons (.K (.str [100,111,111,114,115])) .nil))))))))))) (.cons (.A (.Y 6) (.call "_law_take" (.ex (.X 0) (.ex (.K (.int 4)) .nil)))) (.cons (.A (.Y 7) (.ix (.J (.cons (.J (.cons (.ix (.X 5) (.call "_law_take" (.ex (.X 0) (.ex (.K (.int 27)) .nil)))) .nil)) (.cons (.J .nil) (.cons (.J (.cons (.ix (.X 3) (.X 4)) (.cons (.ix (.X 3) (.X 4)) .nil))) (.cons (.J (.cons (.ix (.X 3) (.X 4)) (.cons (.ix (.X 5) (.call "_law_take" (.ex (.X 0) (.ex (.K (.int 27)) .nil)))) .nil))) .nil))))) (.X 6))) (.cons (.A (.Y 8) (.join (.K (.str [32])) (.G .add (.G .add (.slU (.X 3) (.X 4)) (.X 7)) (.slL (.X 3) (.G .add (.X 4) (.K (.int 1))))))) (.cons (.ret (.G .add (.G .add (.slU (.X 1) (.X 2)) (.J (.cons (.X 8) .nil))) (.slL (.X 1) (.G .add (.X 2) (.K (.int 1)))))) .nil)))))))))⟩
noncomputable def aa7:Df:=⟨"_law_rows_otherwise",2,4,(.cons (.A (.Y 2) (.call "_law_take" (.ex (.X 0) (.ex (.bi .len (.cons (.X 1) .nil)) .nil)))) (.cons (.A (.Y 3) (.call "_law_take" (.ex (.X 0) (.ex (.bi .len (.cons (.X 1) .nil)) .nil)))) (.cons (.A (.Y 4) (.call "_law_take" (.ex (.X 0) (.ex (.K (.int 3)) .nil)))) (.cons (.ite (.Z .eq (.X 4) (.K (.int 0))) (.cons (.A (.Y 5) (.mk .list (.seq (.X 1)))) (.cons (.setIx (.X 5) (.X 2) (.ix (.X 1) (.X 3))) (.cons (.setIx (.X 5) (.X 3) (.ix (.X 1) (.X 2))) (.cons (.ret (.X 5)) .nil)))) .nil) (.cons (.ite (.Z .eq (.X 4) (.K (.int 1))) (.cons (.ret (.G .add (.slU (.X 1) (.X 2)) (.slL (.X 1) (.G .add (.X 2) (.K (.int 1)))))) .nil) .nil) (.cons (.ret (.G .add (.G .add (.slU (.X 1) (.X 3)) (.J (.cons (.ix (.X 1) (.X 2)) .nil))) (.slL (.X 1) (.X 3)))) .nil))))))⟩
noncomputable def ac9:Df:=⟨"_law_otherwise",2,3,(.cons (.fo (.Y 2) (.rg (.G .add (.K (.int 1)) (.call "_law_take" (.ex (.X 0) (.ex (.K (.int 3)) .nil))))) (.cons (.A (.Y 3) (.call "_law_take" (.ex (.X 0) (.ex (.K (.int 5)) .nil)))) (.cons (.ite (.Z .lt (.X 3) (.K (.int 3))) (.cons (.A (.Y 1) (.join (.K (.str [10])) (.call "_law_words_otherwise" (.ex (.X 0) (.ex (.spl (.X 1) 10) .nil))))) .nil) (.cons (.ite (.Z .eq (.X 3) (.K (.int 3))) (.cons (.A (.Y 1) (.join (.K (.str [10])) (.call "_law_rows_otherwise" (.ex (.X 0) (.ex (.spl (.X 1) 10) .nil))))) .nil) (.cons (.A (.Y 4) (.ix (.J (.cons (.call "_law_take" (.ex (.X 0) (.ex (.G .add (.bi .len (.cons (.X 1) .nil)) (.K (.int 1))) .nil))) (.cons (.bi .len (.cons (.X 1) .nil)) .nil))) (.call "_law_take" (.ex (.X 0) (.ex (.K (.int 2)) .nil))))) (.cons (.A (.Y 1) (.G .add (.G .add (.slU (.X 1) (.X 4)) (.ix (.J (.cons (.K (.str [32])) (.cons (.K (.str [10])) .nil))) (.call "_law_take" (.ex (.X 0) (.ex (.K (.int 2)) .nil))))) (.slL (.X 1) (.X 4)))) .nil))) .nil)) .nil))) (.cons (.ret (.X 1)) .nil))⟩
noncomputable def ah3:Df:=⟨"_law_short",1,3,(.cons (.A (.Y 1) (.J (.cons (.K (.str [])) (.cons (.K (.str [10])) (.cons (.K (.str [108,101,116,116,101,114,115,32,49])) (.cons (.K (.str [108,101,116,116,101,114,115,32,49,10,114,111,111,109,115,32,49,10,98,101,103,105,110,10,101,110,100])) (.cons (.K (.str [108,101,116,116,101,114,115,32,49,10,114,111,111,109,115,32,49,10,98,101,103,105,110,32,48,10,101,110,100,32,48,10])) .nil))))))) (.cons (.A (.Y 1) (.G .add (.X 1) (.J (.cons (.K (.str [108,101,116,116,101,114,115,32,49,10,114,111,111,109,115,32,49,10,98,101,103,105,110,32,10,101,110,100])) (.cons (.K (.str [108,101,116,116,101,114,115,32,48,10,114,111,111,109,115,32,49,10,98,101,103,105,110,10,101,110,100])) .nil))))) (.cons (.A (.Y 1) (.G .add (.X 1) (.J (.cons (.K (.str [108,101,116,116,101,114,115,32,52,10,114,111,111,109,115,32,49,10,98,101,103,105,110,10,101,110,100])) (.cons (.K (.str [108,101,116,116,101,114,115,32,49,10,114,111,111,109,115,32,48,10,98,101,103,105,110,10,101,110,100])) .nil))))) (.cons (.A (.Y 1) (.G .add (.X 1) (.J (.cons (.K (.str [108,101,116,116,101,114,115,32,49,10,114,111,111,109,115,32,54,10,98,101,103,105,110,10,101,110,100])) (.cons (.K (.str [108,101,116,116,101,114,115,32,49,10,114,111,111,109,115,32,50,10,98,101,103,105,110,32,49,32,48,10,101,110,100])) .nil))))) (.cons (.A (.Y 1) (.G .add (.X 1) (.J (.cons (.K (.str [108,101,116,116,101,114,115,32,49,10,114,111,111,109,115,32,50,10,98,101,103,105,110,32,48,32,48,10,101,110,100])) (.cons (.K (.str [108,101,116,116,101,114,115,32,49,10,114,111,111,109,115,32,50,10,98,101,103,105,110,32,48,32,50,10,101,110,100])) .nil))))) (.cons (.ex (.me .append (.X 1) (.cons (.K (.str [114,111,111,109,115,32,49,10,108,101,116,116,101,114,115,32,49,10,98,101,103,105,110,10,101,110,100])) .nil))) (.cons (.A (.Y 2) (.K (.str [108,101,116,116,101,114,115,32,49,10,114,111,111,109,115,32,49,10,98,101,103,105,110,32,48,10,101,110,100,32,48]))) (.cons (.fo (.Y 3) (.rg (.K (.int 75))) (.cons (.A (.Y 2) (.G .add (.X 2) (.K (.str [10,100,111,111,114,32,48,32,97,32,48,32,49])))) .nil)) (.cons (.ret (.ix (.G .add (.X 1) (.J (.cons (.X 2) (.cons (.G .add (.X 2) (.K (.str [10,100,111,111,114,32,48,32,97,32,48,32,49]))) .nil)))) (.call "_law_take" (.ex (.X 0) (.ex (.K (.int 16)) .nil))))) .nil)))))))))⟩
noncomputable def ad8:Df:=⟨"law",1,4,(.cons (.fo (.Y 1) (.rg (.bi .max2 (.cons (.K (.int 3)) (.cons (.bi .min2 (.cons (.bi .len (.cons (.X 0) .nil)) (.cons (.K (.int 12)) .nil))) .nil)))) (.cons (.A (.Y 2) (.call "_law_bag" (.ex (.X 0) (.ex (.X 1) .nil)))) (.cons (.A (.Y 3) (.call "_law_written" (.ex (.call "_law_machine" (.ex (.X 2) .nil)) .nil))) (.cons (.fo (.Y 4) (.seq (.J (.cons (.X 3) (.cons (.call "_law_otherwise" (.ex (.X 2) (.ex (.X 3) .nil))) (.cons (.call "_law_otherwise" (.ex (.X 2) (.ex (.X 3) .nil))) (.cons (.call "_law_short" (.ex (.X 2) .nil)) .nil)))))) (.cons (.ite (.or (.Z .ne (.call "_law_outcome" (.ex (.X 4) .nil)) (.call "_law_due" (.ex (.X 4) .nil))) (.Z .ne (.call "_law_outcome" (.ex (.X 4) .nil)) (.call "_law_due" (.ex (.X 4) .nil)))) (.cons (.ret (.K (.T false))) .nil) .nil) .nil)) .nil)))) (.cons (.ret (.K (.T true))) .nil))⟩
class Has (P:Pr)(d:Df):Prop where
 eq:P.df d.name=some d
class HasL (P:Pr)(d:Lm):Prop where
 eq:P.lm d.id=some d
class HasC (P:Pr)(x:String)(v:D):Prop where
 eq:P.con x=some v
def fin (s:Sto)(c:Ct)(s':Sto):R D:=match c with
 | .ret v=>zw s v s'
 | .next _=>zw s .N s'
 | _=>.B
@[simp] theorem fin_ret s v s' :fin s (.ret v) s'=zw s v s':=rfl
@[simp] theorem fin_next s U s' :fin s (.next U) s'=zw s .N s':=rfl
def ze d [h:Has P d](hl:l.length=d.ps) :
  (aa0 P (n+1)).call d.name l s=(exs (aa0 P n) d.body (l.map some++ax d.vs none) s).bind (fin s):=by
 simp only[aa0,h.eq,hl];rfl
def ay2 [h:HasC P x v]:(aa0 P n).con x=some v:=by
 cases n<;>exact h.eq
def aF7 s t :ax5 s (s++t)=true:=by
 unfold ax5;rw[aD];intro i y;rw[cO]at y;rw[bh y];simp
def aF9 s t r o (h:o.bnd s.length=true):ax5 s (s.set r o++t)=true:=by
 unfold ax5;rw[aD];intro i y;rw[cO]at y;rw[bh (by rw[bt];exact y)];by_cases e:r=i
 .subst e;rw[aX y];simp[h]
 .rw[bI e];simp
def qi (h:∀ n,d.bnd n=true)(hr:∀ r,d≠.ref r):zw s d (s++t)=.ok d s:=by
 unfold zw;rw[aF7,if_pos rfl];cases d with
 | ref r=>exact absurd rfl (hr r)
 | _=>simp[h]
def zx (h:∀ n,d.bnd n=true)(hr:∀ r,d≠.ref r):zw s d s=.ok d s:=by
 have:=qi (s:=s) (t:=[]) h hr
 rwa [az]at this
def aj4 (h:∀ n,d.bnd n=true)(hr:∀ r,d≠.ref r)(ho:o.bnd s.length=true):zw s d (s.set r o++t)=.ok d (s.set r o):=by
 unfold zw;rw[aF9 s t r o ho,if_pos rfl];have e:(s.set r o++t).take s.length=s.set r o:=by rw[fz (by simp),bU (by simp)]
 cases d with
 | ref r=>exact absurd rfl (hr r)
 | _=>simp only[h,if_true,e]
def ak8 (h:∀ n,d.bnd n=true)(hr:∀ r,d≠.ref r)(ho:o.bnd s.length=true):zw s d (s.set r o)=.ok d (s.set r o):=by
 have:=aj4 (t:=[]) (r:=r) h hr ho
 rwa [az]at this
def aD9 { u:Sto}(ho:o.bnd s.length=true):zw s (.ref (s.length+t.length)) (s++(t++o::u))=.ok (.ref s.length) (s++[o]):=by
 unfold zw;rw[aF7,if_pos rfl];simp[ho]
@[simp] theorem aC9 :zw s (.int i) s=.ok (.int i) s:=zx (λ _=>rfl) (by nofun)
@[simp] theorem bX1 :zw s (.T i) s=.ok (.T i) s:=zx (λ _=>rfl) (by nofun)
@[simp] theorem bL4 :zw s .N s=.ok .N s:=zx (λ _=>rfl) (by nofun)
@[simp] theorem bR7 :zw s (.str x) s=.ok (.str x) s:=zx (λ _=>rfl) (by nofun)
theorem qB :∀ {n} {U} {s},ah8 c g n U s≠.B->ah8 c g (n+1) U s=ah8 c g n U s
 | 0,_,_,h=>absurd rfl h
 | n+1,U,s,h=>by
  rw[show ah8 c g (n+1+1) U s=tru (c U s) (λ b s=>if b then(g U s).bind λ y s=>match y with
   | .next U=>ah8 c g (n+1) U s|.cont U=>ah8 c g (n+1) U s|.brk U=>.ok (.next U) s|.ret d=>.ok (.ret d) s else .ok (.next U) s)from rfl]
  have e:ah8 c g (n+1) U s=tru (c U s) (λ b s=>if b then(g U s).bind λ y s=>match y with
   | .next U=>ah8 c g n U s|.cont U=>ah8 c g n U s|.brk U=>.ok (.next U) s|.ret d=>.ok (.ret d) s else .ok (.next U) s):=rfl
  rw[e]at h ⊢;unfold tru at h ⊢;cases hc:c U s with
  | exc _ _=>rfl
  | B=>rfl
  | ok d s1 =>
   rw[hc]at h;cases d with
   | T b =>
    cases b with
    | false=>rfl
    | true =>
     simp only[R.bind_ok]at h ⊢;cases hg:g U s1 with
     | exc _ _=>rfl
     | B=>rfl
     | ok y s2 =>
      rw[hg]at h;simp only[R.bind_ok]at h ⊢;cases y with
      | next U'=>exact qB h
      | cont U'=>exact qB h
      | _=>rfl
   | _=>rfl
theorem z9 (h:ah8 c g n U s≠.B):∀ k,ah8 c g (n+k) U s=ah8 c g n U s
 | 0=>rfl
 | k+1=>by
  have e:=z9 h k;rw[<-Nat.add_assoc,qB (by rw[e];exact h),e]
def bP3 (h:ah8 c g n U s=.ok r t):whl c g U s=.ok r t:=by
 have hb:ah8 c g n U s≠.B:=by rw[h];nofun
 have hx:∃ n,ah8 c g n U s≠.B:=⟨n,hb⟩
 unfold whl;rw[dif_pos hx];have z:=z9 hx.choose_spec n;have y:=z9 hb hx.choose;rw[<-z,eL,y,h]
def bm2 (hc:c U s=.ok (.T true) y)(hg:g U y=.ok (.next U') s'):whl c g U s=whl c g U' s':=by
 have key:∀ n,ah8 c g (n+1) U s=ah8 c g n U' s':=λ n=>by
  show tru (c U s) _=_;rw[hc,tru_bl,if_pos rfl,hg];rfl
 unfold whl;by_cases hx:∃ n,ah8 c g n U' s'≠.B
 .have hy:∃ n,ah8 c g n U s≠.B:=⟨hx.choose+1,by rw[key];exact hx.choose_spec⟩
  rw[dif_pos hx,dif_pos hy];have F:=z9 hy.choose_spec (hx.choose+1);have z:=z9 (by rw[key];exact hx.choose_spec) hy.choose;rw[<-F,eL,z,key]
 .have hy:¬ ∃ n,ah8 c g n U s≠.B:=λ⟨n,hn⟩=>by
   cases n with
   | zero=>exact hn rfl
   | succ n=>exact hx ⟨n,by rw[<-key];exact hn⟩
  rw[dif_neg hx,dif_neg hy]
def bB1 (hc:c U s=.ok (.T false) y):whl c g U s=.ok (.next U) y :=
 bP3 (n:=1) (by show tru (c U s) _=_;rw[hc,tru_bl];rfl)
theorem aq5 (P:Nat->Env->Sto->Prop):∀ l k U s ,
  P k U s->(∀ j U s ,j<=l.length->P (k+j) U s->ok s=true)->(∀ j d U s ,l[j]?=some d->P (k+j) U s->∃ U' s',(g d U s=.ok (.next U') s'\/g d U s=.ok (.cont U') s')/\P (k+j+1) U' s') ->
  ∃ U' s',ax9 ok g l U s=.ok (.next U') s'/\P (k+l.length) U' s'
 | [],k,U,s,h,o,_=>⟨U,s,by show(if ok s then _ else _)=_;rw[if_pos (o 0 U s (av _) h)],h⟩
 | d::l,k,U,s,h,o,t=>by
  have ho:=o 0 U s (cA _) h;obtain⟨U1,y,hg,z⟩:=t 0 d U s rfl h;obtain⟨U2,s2,e,F⟩:=aq5 P l (k+1) U1 y z (λ j U' s' hj hp=>o (j+1) U' s' (by simpa using hj) (by rwa [show k+(j+1)=k+1+j by lia])) λ j d' U' s' hj hp=>by
   have:=t (j+1) d' U' s' (by simpa using hj) (by rwa [show k+(j+1)=k+1+j by lia])
   rwa [show k+(j+1)+1=k+1+j+1 by lia]at this
  refine⟨U2,s2,?_,by rwa [aE,show k+(l.length+1)=k+1+l.length by lia]⟩;show(if ok s then _ else _)=_;rw[if_pos ho];rcases hg with hg|hg<;>(rw[hg];exact e)
noncomputable def Nx (Q:Env->Sto->Prop):R Ct->Prop
 | .ok (.next U) s=>Q U s
 | .ok (.cont U) s=>Q U s
 | _=>False
@[simp] theorem ca9 Q U s :Nx Q (.ok (.next U) s)=Q U s:=rfl
@[simp] theorem ca8 Q U s :Nx Q (.ok (.cont U) s)=Q U s:=rfl
def aJ3 (e:r=.ok (.next U) s)(h:Q U s):Nx Q r:=by rw[e];exact h
def Nx.out :∀ {r},Nx Q r->∃ U s,(r=.ok (.next U) s\/r=.ok (.cont U) s)/\Q U s
 | .ok (.next U) s,h=>⟨U,s,.inl rfl,h⟩
 | .ok (.cont U) s,h=>⟨U,s,.inr rfl,h⟩
 | .ok (.ret _) _,h=>h.elim
 | .ok (.brk _) _,h=>h.elim
 | .exc _ _,h=>h.elim
 | .B,h=>h.elim
noncomputable def Tst (A B:Sto->Prop):R D->Prop
 | .ok (.T false) s=>A s
 | .ok (.T true) s=>B s
 | _=>False
@[simp] theorem bq6 A B b s :Tst A B (.ok (.T b) s)=if b then B s else A s:=by cases b<;>rfl
def Tst.out :∀ {r},Tst A B r->(∃ s,r=.ok (.T false) s/\A s)\/∃ s,r=.ok (.T true) s/\B s
 | .ok (.T false) s,h=>.inl ⟨s,rfl,h⟩
 | .ok (.T true) s,h=>.inr ⟨s,rfl,h⟩
 | .ok .N _,h=>h.elim
 | .ok (.int _) _,h=>h.elim
 | .ok (.str _) _,h=>h.elim
 | .ok (.tp _) _,h=>h.elim
 | .ok (.ref _) _,h=>h.elim
 | .ok (.fn _) _,h=>h.elim
 | .ok (.clo _ _) _,h=>h.elim
 | .exc _ _,h=>h.elim
 | .B,h=>h.elim
def bl1 (hc:c U s=.ok (.T true) y)(hg:g U y=.ok (.cont U') s'):whl c g U s=whl c g U' s':=by
 have key:∀ n,ah8 c g (n+1) U s=ah8 c g n U' s':=λ n=>by
  show tru (c U s) _=_;rw[hc,tru_bl,if_pos rfl,hg];rfl
 unfold whl;by_cases hx:∃ n,ah8 c g n U' s'≠.B
 .have hy:∃ n,ah8 c g n U s≠.B:=⟨hx.choose+1,by rw[key];exact hx.choose_spec⟩
  rw[dif_pos hx,dif_pos hy];have F:=z9 hy.choose_spec (hx.choose+1);have z:=z9 (by rw[key];exact hx.choose_spec) hy.choose;rw[<-F,eL,z,key]
 .have hy:¬ ∃ n,ah8 c g n U s≠.B:=λ⟨n,hn⟩=>by
   cases n with
   | zero=>exact hn rfl
   | succ n=>exact hx ⟨n,by rw[<-key];exact hn⟩
  rw[dif_neg hx,dif_neg hy]
def bR1 (P:Nat->Env->Sto->Prop)(Q:Env->Sto->Prop)
  (step:∀ k U s,P k U s->Tst (λ y=>Q U y) (λ y=>Nx (λ U' s'=>∃ z,z<k/\P z U' s') (g U y)) (c U s)) :
  ∀ k U s ,P k U s->∃ U' s',whl c g U s=.ok (.next U') s'/\Q U' s':=by
 intro k
 induction k using Nat.strongRecOn with
 | _ k ih =>
  intro U s h;rcases(step k U s h).out with⟨y,hc,hq⟩|⟨y,hc,hn⟩
  .exact⟨U,y,bB1 hc,hq⟩
  .obtain⟨U',s',hg,z,hk,hp⟩:=hn.out;rcases hg with hg|hg
   .rw[bm2 hc hg];exact ih z hk U' s' hp
   .rw[bl1 hc hg];exact ih z hk U' s' hp
def bh5 {Ww:R α->Prop}(P:Nat->Env->Sto->Prop)(Q:Env->Sto->Prop) k (h:P k U s)
  (step:∀ k U s,P k U s->Tst (λ y=>Q U y) (λ y=>Nx (λ U' s'=>∃ z,z<k/\P z U' s') (g U y)) (c U s))
  (hf:∀ U' s',Q U' s'->Ww (f (.next U') s')):Ww ((whl c g U s).bind f):=by
 obtain⟨U',s',e,q⟩:=bR1 P Q step k U s h;rw[e];exact hf U' s' q
def bi5 {x:R α}(P:Nat->Env->Sto->Prop)(Q:Env->Sto->Prop) k (h:P k U s)
  (step:∀ k U s,P k U s->Tst (λ y=>Q U y) (λ y=>Nx (λ U' s'=>∃ z,z<k/\P z U' s') (g U y)) (c U s))
  (hf:∀ U' s',Q U' s'->f (.next U') s'=x):(whl c g U s).bind f=x:=bh5 (Ww:=(·=x)) P Q k h step hf
def aw1 {Ww:R α->Prop}(P:Nat->Env->Sto->Prop)(h:P 0 U s)
  (o:∀(j:Nat) (U:Env) (s:Sto),j<=l.length->P j U s->ok s=true) (step:∀(j:Nat) (d:D) (U:Env) (s:Sto),l[j]?=some d->P j U s->Nx (P (j+1)) (g d U s))
  (hf:∀ U' s',P l.length U' s'->Ww (f (.next U') s')):Ww ((ax9 ok g l U s).bind f):=by
 obtain⟨U',s',e,q⟩:=aq5 P l 0 U s h (λ j U s hj hp=>o j U s hj (by rwa [dN]at hp)) (λ j d U s hj hp=>by
  rw[dN]at hp ⊢;exact(step j d U s hj hp).out)
 rw[e];rw[dN]at q;exact hf U' s' q
def ay3 {x:R α}(P:Nat->Env->Sto->Prop)(h:P 0 U s)
  (o:∀(j:Nat) (U:Env) (s:Sto),j<=l.length->P j U s->ok s=true) (step:∀(j:Nat) (d:D) (U:Env) (s:Sto),l[j]?=some d->P j U s->Nx (P (j+1)) (g d U s))
  (hf:∀ U' s',P l.length U' s'->f (.next U') s'=x):(ax9 ok g l U s).bind f=x:=aw1 (Ww:=(·=x)) P h o step hf
section
variable {F:Fns} {U:Env} {s:Sto}
@[simp] theorem ev_var i :ev F (.X i) U s=bq2 U i s:=rfl
@[simp] theorem ev_cst c :ev F (.K c) U s=.ok c.d s:=rfl
@[simp] theorem ev_bin op a b :ev F (.G op a b) U s=(ev F a U s).bind λ x s=>(ev F b U s).bind λ y s=>qK op x y s:=rfl
@[simp] theorem ev_not a :ev F (.not a) U s=tru (ev F a U s) λ b s=>.ok (.T (!b)) s:=rfl
@[simp] theorem ev_cmp op a b :ev F (.Z op a b) U s=(ev F a U s).bind λ x s=>(ev F b U s).bind λ y s=>zQ op x y s:=rfl
@[simp] theorem am6 o p a b c :ev F (.chain o p a b c) U s=(ev F a U s).bind λ x s=>(ev F b U s).bind λ y s=>tru (zQ o x y s) λ k s=>if k then(ev F c U s).bind λ z s=>zQ p y z s else .ok (.T false) s:=rfl
@[simp] theorem ev_isN a :ev F (.isN a) U s=(ev F a U s).bind λ x s=>.ok (.T (decide (x=.N))) s:=rfl
@[simp] theorem ev_and a b :ev F (.and a b) U s=tru (ev F a U s) λ c s=>if c then tru (ev F b U s) λ c s=>.ok (.T c) s else .ok (.T false) s:=rfl
@[simp] theorem ev_or a b :ev F (.or a b) U s=tru (ev F a U s) λ c s=>if c then .ok (.T true) s else tru (ev F b U s) λ c s=>.ok (.T c) s:=rfl
@[simp] theorem ev_ite c a b :ev F (.ite c a b) U s=tru (ev F c U s) λ k s=>if k then ev F a U s else ev F b U s:=rfl
@[simp] theorem ev_tup es :ev F (.tp es) U s=(evs F es U s).bind λ l s=>.ok (.tp l) s:=rfl
@[simp] theorem ev_lst es :ev F (.J es) U s=(evs F es U s).bind λ l s=>af4 (.J l) s:=rfl
@[simp] theorem ev_ix a b :ev F (.ix a b) U s=(ev F a U s).bind λ x s=>(ev F b U s).bind λ y s=>ixM x y s:=rfl
@[simp] theorem ev_call f y :ev F (.call f y) U s=(ag7 F y U s).bind λ l s=>F.call f l s:=rfl
@[simp] theorem ev_bi b es :ev F (.bi b es) U s=(evs F es U s).bind λ l s=>bi b l s:=rfl
@[simp] theorem ev_mk k it :ev F (.mk k it) U s=(evL F it U s).bind λ q s=>mk k q s:=rfl
@[simp] theorem aN4 o c :ev F (.spl o c) U s=(ev F o U s).bind λ x s=>bt5 c x s:=rfl
@[simp] theorem ev_meth m o es :ev F (.me m o es) U s=(ev F o U s).bind λ x s=>(evs F es U s).bind λ l s=>meth m x l s:=rfl
@[simp] theorem evs_nil:evs F .nil U s=.ok [] s:=rfl
@[simp] theorem evs_cons e es :evs F (.cons e es) U s=(ev F e U s).bind λ d s=>(evs F es U s).bind λ l s=>.ok (d::l) s:=rfl
@[simp] theorem evas_nil:ag7 F .nil U s=.ok [] s:=rfl
@[simp] theorem evas_ex e y :ag7 F (.ex e y) U s=(ev F e U s).bind λ d s=>(ag7 F y U s).bind λ l s=>.ok (d::l) s:=rfl
@[simp] theorem ca1 f y :ag7 F (.fn f y) U s=(ag7 F y U s).bind λ l s=>.ok (.fn f::l) s:=rfl
@[simp] theorem evI_seq e :evI F (.seq e) U s=(ev F e U s).bind λ d s=>qG d s:=rfl
@[simp] theorem bW1 es :evL F (.disp es) U s=evs F es U s:=rfl
@[simp] theorem evL_seq e :evL F (.seq e) U s=(ev F e U s).bind λ d s=>bo9 d s:=rfl
def bb4 (x:D):M Sq:=λ s=>match x with|.int i=>if -Ww62<=i/\i<Ww62 then .ok ⟨ah9 0 i,[]⟩ s else .B|_=>.B
@[simp] theorem evI_rng1 a :evI F (.rg a) U s=(ev F a U s).bind λ x s=>bb4 x s:=rfl
def ak7 (h0:-Ww62<=i)(h:i<Ww62):bb4 (.int i) s=.ok ⟨ah9 0 i,[]⟩ s:=by unfold bb4;simp only[h0,h,and_self,if_true]
def nxt (F:Fns)(ss:Ss)(c:Ct)(s:Sto):R Ct:=match c with|.next U=>exs F ss U s|c=>.ok c s
@[simp] theorem nxt_next y U s :nxt F y (.next U) s=exs F y U s:=rfl
@[simp] theorem nxt_ret y d s :nxt F y (.ret d) s=.ok (.ret d) s:=rfl
@[simp] theorem nxt_cont y U s :nxt F y (.cont U) s=.ok (.cont U) s:=rfl
@[simp] theorem exs_nil:exs F .nil U s=.ok (.next U) s:=rfl
@[simp] theorem zb st y :exs F (.cons st y) U s=(ex F st U s).bind (nxt F y):=rfl
noncomputable def cg9 (U:Option Env)(s:Sto):R Ct:=match U with|some U=>.ok (.next U) s|none=>.B
@[simp] theorem setC_some U s :cg9 (some U) s=.ok (.next U) s:=rfl
@[simp] theorem ex_asg tg e :ex F (.A tg e) U s=(ev F e U s).bind λ d s=>cg9 (qg U tg d) s:=rfl
@[simp] theorem ex_setIx o i e :ex F (.setIx o i e) U s=(ev F e U s).bind λ d s=>(ev F o U s).bind λ x s=>(ev F i U s).bind λ y s=>(setIx x y d s).bind λ _ s=>.ok (.next U) s:=rfl
@[simp] theorem ex_ex e :ex F (.ex e) U s=(ev F e U s).bind λ _ s=>.ok (.next U) s:=rfl
@[simp] theorem ex_ret e :ex F (.ret e) U s=(ev F e U s).bind λ d s=>.ok (.ret d) s:=rfl
@[simp] theorem ex_ite c a b :ex F (.ite c a b) U s=tru (ev F c U s) λ k s=>if k then exs F a U s else exs F b U s:=rfl
@[simp] theorem ex_whl c b :ex F (.whl c b) U s=whl (ev F c) (exs F b) U s:=rfl
def turn (F:Fns)(tg:Tg)(b:Ss)(d:D)(U:Env)(s:Sto):R Ct:=match qg U tg d with
 | some U=>exs F b U s
 | none=>.B
@[simp] theorem ex_for tg it b :ex F (.fo tg it b) U s=(evI F it U s).bind λ q s0=>ax9 (λ s=>chk s0 s q.src) (turn F tg b) q.its U s0:=rfl
@[simp] theorem bindT_one i d :qg U (.Y i) d=aQ3 U i d:=rfl
@[simp] theorem bindT_tup is l :qg U (.tp is) (.tp l)=aq7 U is l:=rfl
@[simp] theorem setVs_nil:aq7 U [] []=some U:=rfl
@[simp] theorem setVs_cons i is d l :aq7 U (i::is) (d::l)=(aQ3 U i d).bind λ U=>aq7 U is l:=rfl
@[simp] theorem getV_0 d (U:Env):bq2 (some d::U) 0 s=.ok d s:=rfl
@[simp] theorem getV_s x (U:Env) i :bq2 (x::U) (i+1) s=bq2 U i s:=by unfold bq2;rw[List.getElem?_cons_succ]
@[simp] theorem setV_0 d x (U:Env):aQ3 (x::U) 0 d=some (some d::U):=rfl
@[simp] theorem setV_s d x (U:Env) i :aQ3 (x::U) (i+1) d=(aQ3 U i d).map (x::·):=by
 unfold aQ3;by_cases h:i < U.length
 .rw[if_pos (by simpa using h),if_pos h];rfl
 .rw[if_neg (by simpa using h),if_neg h];rfl
@[simp] theorem unsetV_0 x (U:Env):aP1 (x::U) 0=some (none::U):=rfl
@[simp] theorem unsetV_s x (U:Env) i :aP1 (x::U) (i+1)=(aP1 U i).map (x::·):=by
 unfold aP1;by_cases h:i < U.length
 .rw[if_pos (by simpa using h),if_pos h];rfl
 .rw[if_neg (by simpa using h),if_neg h];rfl
@[simp] theorem Cn_int i :(Cn.int i).d=.int i:=rfl
@[simp] theorem Cn_bl i :(Cn.T i).d=.T i:=rfl
@[simp] theorem Cn_str i :(Cn.str i).d=.str i:=rfl
@[simp] theorem Cn_non:Cn.N.d=.N:=rfl
@[simp] theorem add_int a b :qK .add (.int a) (.int b) s=.ok (.int (a+b)) s:=rfl
@[simp] theorem sub_int a b :qK .sub (.int a) (.int b) s=.ok (.int (a - b)) s:=rfl
def ak4 (h:mulOk a b=true):qK .mul (.int a) (.int b) s=.ok (.int (a*b)) s:=by show(if mulOk a b then _ else _:M D) s=_;rw[if_pos h];rfl
def bC4 (h:a.natAbs<2^64):mulOk a b=true:=by unfold mulOk;simp[h]
def ax2 (h:b.natAbs<2^64):mulOk a b=true:=by unfold mulOk;simp[h]
def ao7 (h:0<b):qK .mod (.int a) (.int b) s=.ok (.int (a % b)) s:=by show(if 0<b then _ else _:M D) s=_;rw[if_pos h];rfl
def bz4:(10)^200<=(DIVL:Int):=by unfold DIVL;decide +kernel
def aw7 (h:0<b)(y:b<10^200):qK .fdiv (.int a) (.int b) s=.ok (.int (a / b)) s:=by show(if 0<b/\b<(DIVL)then _ else _:M D) s=_;rw[if_pos ⟨h,Int.lt_of_lt_of_le y bz4⟩];rfl
def bb7 (h:0<=b/\b<=1000000/\a.natAbs<2^64):qK .pow (.int a) (.int b) s=.ok (.int (a^b.toNat)) s:=by show(if _ then _ else _:M D) s=_;rw[if_pos h];rfl
@[simp] theorem lt_int a b :zQ .lt (.int a) (.int b) s=.ok (.T (decide (a<b))) s:=rfl
@[simp] theorem le_int a b :zQ .le (.int a) (.int b) s=.ok (.T (decide (a<=b))) s:=rfl
@[simp] theorem gt_int a b :zQ .gt (.int a) (.int b) s=.ok (.T (decide (b<a))) s:=rfl
@[simp] theorem ge_int a b :zQ .ge (.int a) (.int b) s=.B:=rfl
@[simp] theorem eq_int a b :zQ .eq (.int a) (.int b) s=.ok (.T (decide (a=b))) s:=rfl
@[simp] theorem ne_int a b :zQ .ne (.int a) (.int b) s=.ok (.T (!decide (a=b))) s:=rfl
@[simp] theorem zT o :af4 o s=.ok (.ref s.length) (s++[o]):=rfl
@[simp] theorem bB3 l :bi .len [.tp l] s=.ok (.int l.length) s:=rfl
@[simp] theorem bA2 l :bi .len [.str l] s=.ok (.int l.length) s:=rfl
def aI3 (h:s[r]?=some (.J l)):bi .len [.ref r] s=.ok (.int l.length) s:=by
 show bv4 (.ref r) s=_;unfold bv4;simp only[h]
def bt2 (h:s[r]?=some (.ro l)):bi .len [.ref r] s=.ok (.int l.length) s:=by
 show bv4 (.ref r) s=_;unfold bv4;simp only[h]
@[simp] theorem bZ7 i :bi .abs [.int i] s=.ok (.int (if i<0 then -i else i)) s:=rfl
@[simp] theorem bj0 a b :bi .min2 [.int a,.int b] s=.ok (.int (if b<a then b else a)) s:=rfl
@[simp] theorem bk0 a b :bi .max2 [.int a,.int b] s=.ok (.int (if b > a then b else a)) s:=rfl
@[simp] theorem bO4 a :bi .isInt [.int a] s=.ok (.T true) s:=rfl
@[simp] theorem bF5 a :bi .isBool [.int a] s=.ok (.T false) s:=rfl
@[simp] theorem bP0 l :bi .isTup [.tp l] s=.ok (.T true) s:=rfl
def bM3 {j:Nat}(h:s[r]?=some (.ro l))(hj:l[j]?=some d):ixM (.ref r) (.int (j)) s=.ok d s:=by
 have hl:=(ah.mp hj).1;have e:=(ah.mp hj).2;simp[ixM,h,ixn,hl,e]
def ai4 {j:Nat}(h:s[r]?=some (.J l))(hj:l[j]?=some d):ixM (.ref r) (.int (j)) s=.ok d s:=by
 have hl:=(ah.mp hj).1;have e:=(ah.mp hj).2;simp[ixM,h,ixn,hl,e]
def ix_tup {j:Nat}(hj:l[j]?=some d):ixM (.tp l) (.int (j)) s=.ok d s:=by
 have hl:=(ah.mp hj).1;have e:=(ah.mp hj).2;simp[ixM,ixn,hl,e]
def aX1 {j:Nat}(h:s[r]?=some (.J l))(hl:j<l.length):setIx (.ref r) (.int (j)) v s=.ok () (s.set r (.J (l.set j v))):=by
 simp[setIx,h,ixn,hl]
def qF (h:s[r]?=some (.J l))(hl:l.length<LIM):meth .append (.ref r) [v] s=.ok .N (s.set r (.J (l++[v]))):=by
 show(match s[r]? with|some (.J l)=>(if l.length<LIM then R.ok D.N (s.set r (.J (l++[v])))else .B)|_=>.B)=_;rw[h];exact if_pos hl
end
def aI2 s t b :∃ s',zw s (.T b) t=.ok (.T b) s':=by
 unfold zw;by_cases h:ax5 s t=true
 .rw[if_pos h];exact⟨_,rfl⟩
 .rw[if_neg h];exact⟨_,rfl⟩
def Yes (r:R D):Prop:=∃ s',r=.ok (.T true) s'
def aY2 s t :Yes (zw s (.T true) t):=aI2 s t true
def aw0 {j:Nat}(h:(ah9 a b)[j]?=some d):(j)<b - a/\d=.int (a+j):=by
 have hj:=(ah.mp h).1;simp only[ah9,ao,List.length_range]at hj;unfold ah9 at h;rw[aY,jl hj]at h;exact⟨by omega,(aB h).symm⟩
def cd6 (P:Pr)(k:Nat):Prop:=∀ ns:List Int,ns.length<=63->Yes ((aa0 P k).call "law" [.ref 0] [.ro (ns.map D.int)])
noncomputable def bF0:Option Int->D
 | none=>.N
 | some i=>.int i
@[simp] theorem bU8:bF0 none=.N:=rfl
@[simp] theorem bU7 i :bF0 (some i)=.int i:=rfl
@[simp] theorem bm4 p n :(bF0 p).bnd n=true:=by cases p<;>rfl
def bi0 p r :bF0 p≠.ref r:=by cases p<;>nofun
@[simp] theorem bF4 :zw s (bF0 p) s=.ok (bF0 p) s:=zx (bm4 p) (bi0 p)
noncomputable def zh (b:Nat×Nat):O:=.J [.int b.1,.int b.2]
@[simp] theorem bX5 b n :(zh b).bnd n=true:=rfl
noncomputable def tkW (many:Nat):Nat->Nat->Nat->Nat->Nat×Nat
 | 0,mix,num,_=>(num,mix)
 | n+1,mix,num,room=>if room<many then tkW many n ((mix*48271+7919) % 2147483647) (num*1073741789+(mix*48271+7919) % 2147483647 / 8*69621 % 1073741789) (room*1073741789)else(num,mix)
def tk (b:Nat×Nat)(many:Nat):Nat×(Nat×Nat) :=
 if 0<b.1 then(b.1 % many,(b.1 / many,b.2))else let r:=tkW many 12 b.2 0 1;(r.1 % many,(b.1,r.2))
def bZ4 b (h:0<many):(tk b many).1<many:=by
 unfold tk;split
 .exact Nat.mod_lt _ h
 .exact Nat.mod_lt _ h
def ba0 (h:many<=room):tkW many k z y room=(y,z):=by
 cases k with
 | zero=>rfl
 | succ k=>unfold tkW;rw[if_neg (by lia)]
def bl9 (h:room<many):tkW many (k+1) y z room=tkW many k ((y*48271+7919) % 2147483647) (z*1073741789+(y*48271+7919) % 2147483647 / 8*69621 % 1073741789) (room*1073741789):=by
 conv=>lhs;unfold tkW
 rw[if_pos h]
def bB9 [Has P ae1] n b (many:Nat)(h0:0<many)(h:many<=10^90) s r (hs:s[r]?=some (zh b)) :
  (aa0 P (n+1)).call "_law_take" [.ref r,.int many] s=.ok (.int (tk b many).1) (s.set r (zh (tk b many).2)):=by
 refine(ze ae1 rfl).trans ?_;obtain⟨c,m⟩:=b;have hr:=(ah.mp hs).1;have J:(0:Int)<(many:Int):=by lia
 have Z:(many:Int)<10^200:=by
  have:(10:Int)^90<10^200:=by decide +kernel
  have:((many:Nat):Int)<=((10^90:Nat):Int):=by exact_mod_cast h
  lia
 by_cases hc:0<c
 .have G:s[r]?=some (.J [.int c,.int m]):=hs;simp[ae1,ixM,G,ixn,hc,ao7 J,aw7 J Z,setIx,tk];exact ak8 (λ _=>rfl) (by nofun) rfl
 .have Y:c=0:=by lia
  subst Y;have G:s[r]?=some (.J [.int 0,.int m]):=hs;simp[ae1,ixM,G,ixn];refine bi5 (λ k U t=>∃ y z room:Nat,U=[some (.ref r),some (.int many),none,some (.int z),some (.int room)]/\t=s.set r (zh (0,y))/\many<=room*1073741789^k/\tkW many k y z room=tkW many 12 m 0 1)
   (λ U t=>∃ room:Nat,U=[some (.ref r),some (.int many),none,some (.int (tkW many 12 m 0 1).1),some (.int room)]/\t=s.set r (zh (0,(tkW many 12 m 0 1).2))) 12 ⟨m,0,1,by simp,?_,?_,rfl⟩ ?_ ?_
  .have e:s[r]=zh (0,m):=(ah.mp hs).2;rw[<-e,iB]
  .refine aq h ?_
   decide +kernel
  .rintro k U t ⟨y,z,room,rfl,rfl,F,he⟩
   by_cases hlt:room<many
   .simp only[ev_cmp,ev_var,getV_0,getV_s,R.bind_ok,lt_int,bq6,jY,hlt,decide_true,if_true];cases k with
    | zero=>simp at F;omega
    | succ k =>
     have h1:(s.set r (zh (0,y)))[r]?=some (.J [.int 0,.int y]):=by rw[aX hr];rfl
     have m1:∀ a:Int,mulOk a 48271=true:=λ a=>ax2 (by decide);have m2:∀ a:Int,mulOk a 1073741789=true:=λ a=>ax2 (by decide);have m3:∀ a:Int,mulOk a 69621=true:=λ a=>ax2 (by decide);refine aJ3 ?_ ⟨k,dM k,(y*48271+7919) % 2147483647,z*1073741789+(y*48271+7919) % 2147483647 / 8*69621 % 1073741789,room*1073741789,rfl,rfl,?_,?_⟩
     .simp[ixM,h1,ixn,ak4 (m1 _),ao7,setIx,hr,ak4 (m2 _),ak4 (m3 _),aw7,zh]
     .rw[Nat.pow_succ]at F;rw[Nat.mul_assoc,lM 1073741789];exact F
     .rw[<-he,bl9 hlt]
   .simp only[ev_cmp,ev_var,getV_0,getV_s,R.bind_ok,lt_int,bq6,jY,hlt,decide_false,if_false,gj];refine⟨room,?_,?_⟩
    .rw[<-he,ba0 (by lia)]
    .rw[<-he,ba0 (by omega)]
  .rintro U t ⟨room,rfl,rfl⟩
   simp[ao7 J,tk];exact ak8 (λ _=>rfl) (by nofun) rfl
noncomputable def bs0 (at_:Int)(ns:List Int):Nat->Int
 | 0=>7919*at_+17
 | k+1=>(bs0 at_ ns k*48271+(ns.getD k 0) % 2147483647+k) % 2147483629
def by6 at_ (h:0<=at_) ns :∀ k,0<=bs0 at_ ns k
 | 0=>by unfold bs0;lia
 | k+1=>by unfold bs0;exact Int.emod_nonneg _ (by decide)
noncomputable def cellF (ns:List Int)(at_:Nat):Nat:=if 10^18<=(ns.getD at_ 0).natAbs then(ns.getD at_ 0).natAbs else 0
def bE7 (ns:List Int)(at_:Nat):Nat×Nat:=(cellF ns at_,(bs0 at_ ns (min ns.length 60)).toNat)
def bK6 [Has P ax6] n ns (at_:Nat) s r (hs:s[r]?=some (.ro (ns.map D.int)))(hl:ns.length<=63) :
  (aa0 P (n+1)).call "_law_bag" [.ref r,.int at_] s=.ok (.ref s.length) (s++[zh (bE7 ns at_)]):=by
 refine(ze ax6 rfl).trans ?_;have m1:∀ a:Int,mulOk 7919 a=true:=λ a=>bC4 (by decide);have m2:∀ a:Int,mulOk a 48271=true:=λ a=>ax2 (by decide);have y:bi .len [.ref r] s=.ok (.int ns.length) s:=by rw[bt2 hs,ao]
 have F:∀(c:Int),(c<10^18->cellF ns at_=0)->(10^18<=c->(cellF ns at_:Int)=c) ->
   (exs (aa0 P n) (.cons (.A (.Y 3) (.G .add (.G .mul (.K (.int 7919)) (.X 1)) (.K (.int 17)))) (.cons (.fo (.Y 4) (.rg (.bi .min2 (.cons (.bi .len (.cons (.X 0) .nil)) (.cons (.K (.int 60)) .nil)))) (.cons (.A (.Y 3) (.G .mod (.G .add (.G .add (.G .mul (.X 3) (.K (.int 48271))) (.G .mod (.ix (.X 0) (.X 4)) (.K (.int 2147483647)))) (.X 4)) (.K (.int 2147483629)))) .nil)) (.cons (.ite (.Z .lt (.X 2) (.G .pow (.K (.int 10)) (.K (.int 18)))) (.cons (.A (.Y 2) (.K (.int 0))) .nil) .nil) (.cons (.ret (.J (.cons (.X 2) (.cons (.X 3) .nil)))) .nil)))) [some (.ref r),some (.int at_),some (.int c),none,none] s).bind (fin s)=.ok (.ref s.length) (s++[zh (bE7 ns at_)]):=by
  intro c h1 h2;simp[ak4 (m1 _),y];have hk:(if(60:Int)<(ns.length:Int)then 60 else(ns.length:Int))=((min ns.length 60:Nat):Int):=by lia
  rw[hk,ak7 (by unfold Ww62;lia) (by unfold Ww62;omega)];simp only[R.bind_ok];refine ay3 (λ j U t=>t=s/\∃ x,U=[some (.ref r),some (.int at_),some (.int c),some (.int (bs0 at_ ns j)),x]) ⟨rfl,none,rfl⟩ (λ _ _ _ _ _=>rfl) ?_ ?_
  .rintro j d U t hj ⟨rfl,x,rfl⟩
   have a0:=by have:=(ah.mp hj).1;simpa [ah9]using this
   have hd:=by simpa [ah9,a0]using hj.symm
   subst hd;refine aJ3 ?_ ⟨rfl,some (.int (j:Int)),rfl⟩;have hx:ixM (.ref r) (.int (j:Int)) t=.ok (.int (ns.getD j 0)) t:=bM3 hs (by simp[show j<ns.length by lia]);simp[turn,ak4 (m2 _),hx,ao7,bs0]
  .rintro U t ⟨rfl,x,rfl⟩
   have Y:(ah9 0 ((min ns.length 60:Nat):Int)).length=min ns.length 60:=by simp[ah9]
   rw[Y];have Z:=by6 at_ (by lia) ns (min ns.length 60);have z:∀ G,(G:Int)=cellF ns at_->zw t (.ref t.length) (t++[.J [.int G,.int (bs0 at_ ns (min ns.length 60))]])=.ok (.ref t.length) (t++[zh (bE7 ns at_)]):=by
    intro G J;have:=aD9 (s:=t) (t:=[]) (u:=[]) (o:=zh (bE7 ns at_)) rfl;simp only[cY,ka,fI]at this;rw[<-this];simp[zh,bE7,J,fT Z]
   by_cases h:c<10^18
   .have h':c<1000000000000000000:=h;simp[bb7,h'];exact z 0 (by rw[h1 h];rfl)
   .have h':¬ c<1000000000000000000:=h;simp[bb7,h'];exact z c (h2 (by omega)).symm
 by_cases hat:at_<ns.length
 .have hx:ixM (.ref r) (.int at_) s=.ok (.int (ns.getD at_ 0)) s:=bM3 hs (by simp[hat]);have e:=F (if ns.getD at_ 0<0 then -ns.getD at_ 0 else ns.getD at_ 0) (by unfold cellF;intro h;rw[if_neg (by omega)]) (by unfold cellF;intro h;rw[if_pos (by omega)];omega);rw[<-e];simp[ax6,y,hat,hx]
 .have e:=F 0 (by unfold cellF;intro h;rw[if_neg];rw[bq,dB (by lia)];decide) (by intro h;exact absurd h (by decide));rw[<-e];simp[ax6,y,hat]
def aG8 { t:Sto}(h:r<s.length):(s++t).set r o=s.set r o++t:=by rw[kT,if_pos h]
def za { t:Sto}{r:Nat}(h:s[r]?=some o):(s++t)[r]?=some o:=by
 rw[bh (ah.mp h).1];exact h
def ak9 {s:Sto}(h:r<s.length):(s.set r o)[r]?=some o:=aX h
def bi8 [Has P ae1] n b many (h0:0<many)(h:many<=10^90) s r (hs:s[r]?=some (zh b)) :
  (aa0 P (n+1)).call "_law_take" [.ref r,.int many] s=.ok (.int (tk b many.toNat).1) (s.set r (zh (tk b many.toNat).2)):=by
 have:=bB9 n b many.toNat (P:=P) (by lia) (by have:=(by simpa using h);lia) s r hs
 rwa [show((many.toNat))=many by lia]at this
def bd (b:Nat×Nat):Nat×(Nat×Nat) :=
 let x0:=tk b 3
 let x1:=tk x0.2 13
 let x2:=tk x1.2 1000000000
 let x3:=tk x2.2 1000000000000000000000000000000
 let i:=tk x3.2 4
 ([x0.1,x1.1,x2.1,x3.1].getD i.1 0,i.2)
section
variable {F:Fns} {U:Env} {s:Sto}
def ac3 (F:Fns)(tg:Tg)(e:E)(d:D)(U:Env)(s:Sto):R (Option D×Env):=match qg U tg d with
 | some U=>(ev F e U s).bind λ v s=>.ok (some v,U) s
 | none=>.B
def bD7 (F:Fns)(tg:Tg)(c e:E)(d:D)(U:Env)(s:Sto):R (Option D×Env):=match qg U tg d with
 | some U=>tru (ev F c U s) λ k s=>if k then(ev F e U s).bind λ v s=>.ok (some v,U) s else .ok (none,U) s
 | none=>.B
@[simp] theorem zK tg it e caps :evL F (.comp tg it e caps) U s=(evI F it U s).bind λ q s0=>if q.its.length<=LIM then ae5 (λ s=>chk s0 s q.src) (ac3 F tg e) q.its (zJ U caps) s0 else .B:=rfl
@[simp] theorem aT3 tg it c e caps :evL F (.compIf tg it c e caps) U s=(evI F it U s).bind λ q s0=>if q.its.length<=LIM then ae5 (λ s=>chk s0 s q.src) (bD7 F tg c e) q.its (zJ U caps) s0 else .B:=rfl
@[simp] theorem ch7 a z :ev F (.slU a z) U s=(ev F a U s).bind λ x s=>(ev F z U s).bind λ y s=>match y with|.int i=>slM x none (some i) s|_=>.B:=rfl
@[simp] theorem bP8 a z :ev F (.slL a z) U s=(ev F a U s).bind λ x s=>(ev F z U s).bind λ y s=>match y with|.int i=>slM x (some i) none s|_=>.B:=rfl
end
theorem an4 (P:Env->Sto->Prop) f :∀ l U s ,P U s ->
  (∀ U s,P U s->ok s=true)->(∀ d∈l,∀ U s,P U s->∃ U' s',g d U s=.ok (f d,U') s'/\P U' s')->∃ U' s',ae5 ok g l U s=.ok (l.filterMap f) s'/\P U' s'
 | [],U,s,h,o,_=>⟨U,s,by unfold ae5;rw[if_pos (o U s h)];rfl,h⟩
 | d::l,U,s,h,o,st=>by
  obtain⟨U1,z,e1,F⟩:=st d (au ..) U s h;obtain⟨U2,s2,e2,y⟩:=an4 P f l U1 z F o λ x hx=>st x (ai _ hx);refine⟨U2,s2,?_,y⟩;unfold ae5;rw[if_pos (o U s h),e1];simp only[R.bind_ok];rw[e2,bA];cases f d<;>rfl
def zy [Has P ae1] n {s}{r}(hs:∃ b,s[r]?=some (zh b)) many (h0:0<many)(h:many<=10^90) :
  ∃(k:Nat) (b:Nat×Nat),(k:Int)<many/\(aa0 P (n+1)).call "_law_take" [.ref r,.int many] s=.ok (.int k) (s.set r (zh b)):=by
 obtain⟨b,hb⟩:=hs;have:=bZ4 b (many:=many.toNat) (by omega);exact⟨(tk b many.toNat).1,(tk b many.toNat).2,by lia,bi8 n b many h0 h s r hb⟩
def zN {k:Int}(h:k<=1000):k<=10^90:=lR h (by decide)
def qS {s:Sto}(h:r<s.length):∃ y,(s.set r (zh b))[r]?=some (zh y):=⟨b,ak9 h⟩
def qN {s:Sto}(h:∃ b,s[r]?=some (zh b)):r<s.length:=by obtain⟨b,hb⟩:=h;exact(ah.mp hb).1
def aZ8 (h:0<=k/\k<=1000000):qK .shl (.int 1) (.int k) s=.ok (.int (1*2^k.toNat)) s:=by
 show(if 0<=k/\k<=1000000/\(1:Int).natAbs<2^64 then _ else _:M D) s=_;rw[if_pos ⟨h.1,h.2,by decide⟩];rfl
def zS (h:∀ d∈l,∀ n,d.bnd n=true) n :D.bndL n l=true:=by
 induction l with
 | nil=>rfl
 | cons d l ih=>unfold D.bndL;rw[h d (au ..),ih λ x hx=>h x (ai _ hx)];rfl
noncomputable def aB6 (bits:Nat):D->Option D
 | .int i=>if(bits:Int) / (1*2^i.toNat) % 2=1 then some (.int i)else none
 | _=>none
def aV8 {l:List D}:∀ d∈l.filterMap (aB6 y),∀ n,d.bnd n=true:=λ d hd n=>by
 obtain⟨x,hx,e⟩:=ed.mp hd;cases x with
 | int i =>
  simp only[aB6]at e;split at e
  .cases e;rfl
  .cases e
 | _=>cases e
def aV3 [Has P ae1][Has P ag1] n {s}{r}(hs:∃ b,s[r]?=some (zh b)) k (h0:0<=k)(h:k<=5) :
  ∃ y   b ,(aa0 P (n+2)).call "_law_rooms" [.ref r,.int k] s=.ok (.tp ((ah9 0 k).filterMap (aB6 y))) (s.set r (zh b)):=by
 have e0:(aa0 P (n+2)).call "_law_rooms" [.ref r,.int k] s=_:=ze ag1 rfl;have hr:=qN hs;have hp:(1:Int)*2^k.toNat<=32:=by
  have:k.toNat<=5:=by lia
  have F:(2:Nat)^k.toNat<=2^5:=iW (by decide) this;have h3:((2^k.toNat:Nat):Int)<=32:=by exact_mod_cast F
  rw[gF];simpa using h3
 have J:(0:Int)<1*2^k.toNat:=by rw[gF];exact Int.pow_pos (by decide)
 obtain⟨y,b,hb,Y⟩:=zy (P:=P) n hs (1*2^k.toNat) J (zN (by lia));rw[e0];simp only[ag1,zb,ex_asg,ev_call,evas_ex,evas_nil,ev_var,ev_bin,ev_cst,Cn_int,aF,eM,fh,fI,getV_0,getV_s,R.bind_ok,aZ8 ⟨h0,by lia⟩,Y,bindT_one];simp only[ax,setV_s,setV_0,fP,setC_some,R.bind_ok,nxt_next,zb,ex_ret,ev_mk,aT3,evI_rng1,ev_var,getV_0,getV_s];rw[ak7 (by unfold Ww62;lia) (by unfold Ww62;lia)];simp only[R.bind_ok];rw[if_pos (by simp[ah9];unfold LIM;lia)];have key:∃(U':Env) (s':Sto),ae5 (λ G=>chk (s.set r (zh b)) G []) (bD7 (aa0 P (n+1)) (.Y 0) (.Z .eq (.G .mod (.G .fdiv (.X 1) (.G .shl (.K (.int 1)) (.X 0))) (.K (.int 2))) (.K (.int 1))) (.X 0)) (ah9 0 k) (zJ [some (.ref r),some (.int k),some (.int y)] [none,some 2]) (s.set r (zh b))=.ok ((ah9 0 k).filterMap (aB6 y)) s'/\(s'=s.set r (zh b)/\∃ x,U'=[x,some (D.int y)]):=by
  refine an4 (λ U u=>u=s.set r (zh b)/\∃ x,U=[x,some (.int y)]) (aB6 y) (ah9 0 k) _ _ ⟨rfl,none,rfl⟩ (λ _ _ _=>rfl) ?_
  rintro d hd U u ⟨rfl,x,rfl⟩
  obtain⟨j,hj⟩:=cC hd;obtain⟨F,rfl⟩:=aw0 hj;refine⟨[some (.int (0+j)),some (.int y)],_,?_,rfl,_,rfl⟩;have a0:j<5:=by lia
  have Z:(1:Int)*2^((0:Int)+j).toNat<=32:=by
   have:((0:Int)+j).toNat<=5:=by lia
   have F:(2:Nat)^((0:Int)+j).toNat<=2^5:=iW (by decide) this;have h3:((2^((0:Int)+j).toNat:Nat):Int)<=32:=by exact_mod_cast F
   rw[gF];simpa using h3
  have z:(0:Int)<1*2^((0:Int)+j).toNat:=by rw[gF];exact Int.pow_pos (by decide)
  unfold bD7;simp only[bindT_one,setV_0,ev_cmp,ev_bin,ev_var,ev_cst,Cn_int,getV_0,getV_s,R.bind_ok];rw[aZ8 ⟨by lia,by lia⟩];simp only[R.bind_ok];rw[aw7 z (by lia)];simp only[R.bind_ok];rw[ao7 (by decide)];simp only[R.bind_ok,eq_int,tru_bl];simp[aB6];split<;>rfl
 obtain⟨U',s',e,h1⟩:=key;rw[e];obtain⟨rfl,_⟩:=h1;refine⟨y,b,?_⟩;simp only[R.bind_ok,mk,nxt_ret,fin_ret];exact ak8 (λ m=>by unfold D.bnd;exact zS aV8 m) (by nofun) rfl
def bM4 {k:Nat}(h:k<3) s :ixM (.str [97,98,99]) (.int (k)) s=.ok (.str [97+k]) s:=by
 match k,h with
 | 0,_=>rfl
 | 1,_=>rfl
 | 2,_=>rfl
def ax1 [Has P ae1] n {s t:Sto}{r}(hr:r<s.length) b many (h0:0<many)(h:many<=10^90) :
  ∃(k:Nat) (y:Nat×Nat),(k:Int)<many/\(aa0 P (n+1)).call "_law_take" [.ref r,.int many] (s.set r (zh b)++t)=.ok (.int k) (s.set r (zh y)++t):=by
 obtain⟨k,y,F,z⟩:=zy (P:=P) n ⟨b,za (ak9 hr)⟩ many h0 h;refine⟨k,y,F,?_⟩;rw[z,aG8 (by rw[bt];exact hr),du]
def bK7 {s t:Sto}(h:l.length<LIM):meth .append (.ref s.length) [v] (s.set r (zh b)++(.J l::t))=.ok .N (s.set r (zh b)++(.J (l++[v])::t)):=by
 rw[qF (l:=l) (by rw[bR (by simp)];simp) h]
 congr 1
 rw[kT,if_neg (by simp)];simp
def ag2 (h:a.length+b.length<=LIM):qK .add (.str a) (.str b) s=.ok (.str (a++b)) s:=by
 show(if a.length+b.length<=LIM then _ else _:M D) s=_;rw[if_pos h];rfl
def Lts (L:Nat)(w:List Nat):Prop:=∀ c∈w,97<=c/\c<97+L
theorem rep_len l :∀ n,(rep n l).length=l.length*n
 | 0=>by simp[rep]
 | n+1=>by simp[rep,rep_len l n,kN];omega
noncomputable def bV3 (L:Nat)(d:D):Bool:=match d with
 | .str w=>decide (w.length<=200)&&w.all λ c=>decide (97<=c/\c<97+L)
 | _=>false
noncomputable def ad5 (s:Sto):D->Prop
 | .fn _=>False
 | .clo _ _=>False
 | .ref k=>∃ l,s[k]?=some (.J l)
 | _=>True
def qP [HasC P x v]{n}{U}{s}:ev (aa0 P n) (.gl x) U s=.ok v s:=by
 show(match(aa0 P n).con x with|some d=>R.ok d s|none=>.B)=_;rw[ay2 (v:=v)]
noncomputable abbrev aK3:List D:=[.str [97],.str [98],.str [99]]
def bD1 {L:Nat}(h:L<=3) s :slM (.tp aK3) none (some (L)) s=.ok (.tp (aK3.take L)) s:=by
 match L,h with
 | 0,_=>rfl
 | 1,_=>rfl
 | 2,_=>rfl
 | 3,_=>rfl
def by2 :zQ .isin a b s=(inM a b s).bind λ r s=>.ok (.T r) s:=rfl
@[simp] theorem ch2 a :ev F (.neg a) U s=(ev F a U s).bind λ x s=>match x with|.int i=>.ok (.int (-i)) s|_=>.B:=rfl
structure Dr where
 a:Nat
 l:Nat
 b:Nat
 t:Nat
noncomputable def Dr.d (x:Dr):D:=.tp [.int x.a,.str [x.l],.int x.b,.int x.t]
structure Mc where
 L:Nat
 R:Nat
 bg:List Nat
 en:List Nat
 ds:List Dr
noncomputable def zn (l:List Nat):List D:=l.map λ(k:Nat)=>D.int (k)
noncomputable def sg (w:List Nat):List D:=w.map λ c=>.str [c]
def Mc.ps (m:Mc):List D:=[.int m.L,.int m.R,.tp (zn m.bg),.tp (zn m.en),.tp (m.ds.map Dr.d)]
noncomputable def Mc.d (m:Mc):D:=.tp m.ps
structure Dr.Ok (m:Mc)(x:Dr):Prop where
 a:x.a<m.R
 l:97<=x.l/\x.l<97+m.L
 b:x.b<m.R
 t:x.t<4
structure Mc.Ok (m:Mc):Prop where
 L1:1<=m.L
 L3:m.L<=3
 R1:1<=m.R
 R5:m.R<=5
 bg:(∀ k∈m.bg,k<m.R)/\m.bg.Pairwise (· < ·)
 en:(∀ k∈m.en,k<m.R)/\m.en.Pairwise (· < ·)
 ds:(∀ x∈m.ds,x.Ok m)/\m.ds.length<=75
def am4 :∀ d∈zn l,∀ n,d.bnd n=true:=λ d hd n=>by
 obtain⟨c,_,rfl⟩:=aN.mp hd;rfl
def bE2 {l:List Dr}:∀ d∈l.map Dr.d,∀ n,d.bnd n=true:=λ d hd n=>by
 obtain⟨c,_,rfl⟩:=aN.mp hd;rfl
def bz1 {m:Mc}:∀ d∈m.ps,∀ n,d.bnd n=true:=λ d hd n=>by
 simp only[Mc.ps,aw,aR,or_false]at hd;rcases hd with rfl|rfl|rfl|rfl|rfl
 .rfl
 .rfl
 .unfold D.bnd;exact zS am4 n
 .unfold D.bnd;exact zS am4 n
 .unfold D.bnd;exact zS bE2 n
def bT9 (m:Mc) n :m.d.bnd n=true:=by unfold Mc.d D.bnd;exact zS bz1 n
noncomputable def aP7 (bits k:Nat):List Nat:=(bE k).filter λ i=>decide (bits / 2^i % 2=1)
def aZ7 y k :(∀ i∈aP7 y k,i<k)/\(aP7 y k).Pairwise (· < ·) :=
 ⟨λ i z=>cO.mp (iq.mp z).1,lZ _ List.pairwise_lt_range⟩
def bj3 y (k:Nat):(ah9 0 (k)).filterMap (aB6 y)=zn (aP7 y k):=by
 unfold ah9 aP7 zn;simp only[lQ,cr];rw[gd]
 induction (bE k)with
 | nil=>rfl
 | cons i l ih =>
  rw[bA,List.filter_cons];have e:((y:Int) / (1*2^((0)+(i:Int)).toNat) % 2=1)↔(y / 2^i % 2=1):=by
   rw[gF,show((0)+(i:Int)).toNat=i by lia];have:((y) / 2^i % 2)=((y / 2^i % 2:Nat):Int):=by simp
   rw[this];omega
  simp only[Function.comp,aB6];by_cases h:y / 2^i % 2=1
  .rw[if_pos (e.mpr h)];simp only[h,decide_true,if_true,aF];rw[<-ih,lU]
  .rw[if_neg λ z=>h (e.mp z)];simp only[h];exact ih
def aM5 [Has P ae1][Has P ag1] n {s}{r}(hs:∃ b,s[r]?=some (zh b)) k (h:k<=5) :
  ∃(l:List Nat) (b:Nat×Nat),((∀ i∈l,i<k)/\l.Pairwise (· < ·))/\(aa0 P (n+2)).call "_law_rooms" [.ref r,.int k] s=.ok (.tp (zn l)) (s.set r (zh b)):=by
 obtain⟨y,b,e⟩:=aV3 (P:=P) n hs k (by lia) (by lia);rw[bj3]at e;exact⟨_,b,aZ7 y k,e⟩
def McR (s:Sto)(r:Nat)(x:R D):Prop:=∃(m:Mc) (b:Nat×Nat),m.Ok/\x=.ok m.d (s.set r (zh b))
def aT4 [Has P ae1][Has P ag1][Has P ae7] n {s}{r}(hs:∃ b,s[r]?=some (zh b)):McR s r ((aa0 P (n+3)).call "_law_machine" [.ref r] s):=by
 have e0:(aa0 P (n+3)).call "_law_machine" [.ref r] s=_:=ze ae7 rfl;have hr:=qN hs;obtain⟨a,b1,ha,e1⟩:=zy (P:=P) (n+1) hs 3 (by decide) (by decide);obtain⟨c,b2,hc,e2⟩:=zy (P:=P) (n+1) (qS (b:=b1) hr) 5 (by decide) (by decide);rw[du]at e2;obtain⟨m1,b3,a1,e3⟩:=zy (P:=P) (n+1) (qS (b:=b2) hr) 13 (by decide) (by decide);rw[du]at e3;obtain⟨m2,Y,a6,e4⟩:=zy (P:=P) (n+1) (qS (b:=b3) hr) 8 (by decide) (by decide);rw[du]at e4;obtain⟨m3,b5,a5,e5⟩:=zy (P:=P) (n+1) (qS hr) 76 (by decide) (by decide);rw[du]at e5;rw[e0];simp -implicitDefEqProofs [ae7,e1,e2,e3,e4];obtain⟨many,bb,hmany,hif⟩:∃(many:Nat) (bb:Nat×Nat),many<=75/\(if(m2:Int)=7 then
   ((aa0 P (n+2)).call "_law_take" [D.ref r,D.int 76] (List.set s r (zh Y))).bind λ d s =>
    R.ok
     (Ct.next [some (D.ref r),some (D.int (1+↑a)),some (D.int (1+↑c)),some d,none,none]) s
   else
    R.ok
     (Ct.next
      [some (D.ref r),some (D.int (1+↑a)),some (D.int (1+↑c)),some (D.int ↑m1),none,none])
     (List.set s r (zh Y)))=.ok (.next [some (.ref r),some (.int (1+a)),some (.int (1+c)),some (.int many),none,none]) (s.set r (zh bb)):=by
  by_cases h7:(m2:Int)=7
  .exact⟨m3,b5,by lia,by rw[if_pos h7,e5];rfl⟩
  .exact⟨m1,Y,by lia,by rw[if_neg h7]⟩
 rw[hif];simp -implicitDefEqProofs;rw[ak7 (by unfold Ww62;lia) (by unfold Ww62;lia)];simp only[R.bind_ok];refine aw1 (λ j U u=>∃(b:Nat×Nat) (l:List Dr) (x:Option D),(∀ d∈l,d.Ok ⟨a+1,c+1,[],[],[]⟩)/\l.length=j/\U=[some (.ref r),some (.int (1+a)),some (.int (1+c)),some (.int many),some (.ref s.length),x]/\u=s.set r (zh b)++[.J (l.map Dr.d)]) ⟨bb,[],none,by simp,rfl,rfl,rfl⟩ (λ _ _ _ _ _=>rfl) ?_ ?_
 .rintro j d U u hj ⟨b,l,x,hl,y,rfl,rfl⟩
  obtain⟨a3,rfl⟩:=aw0 hj;obtain⟨k1,J,a4,z⟩:=ax1 (P:=P) (n+1) (t:=[.J (l.map Dr.d)]) hr b (1+c) (by lia) (zN (by lia));obtain⟨k2,G,a7,F⟩:=ax1 (P:=P) (n+1) (t:=[.J (l.map Dr.d)]) hr J (1+a) (by lia) (zN (by lia));obtain⟨k3,c3,a2,f3⟩:=ax1 (P:=P) (n+1) (t:=[.J (l.map Dr.d)]) hr G (1+c) (by lia) (zN (by lia));obtain⟨k4,c4,a8,f4⟩:=ax1 (P:=P) (n+1) (t:=[.J (l.map Dr.d)]) hr c3 4 (by decide) (by decide);refine aJ3 (U:=[some (.ref r),some (.int (1+a)),some (.int (1+c)),some (.int many),some (.ref s.length),some (.int j)]) (s:=s.set r (zh c4)++[.J ((l++[(⟨k1,97+k2,k3,k4⟩:Dr)]).map Dr.d)]) ?_ ⟨c4,l++[(⟨k1,97+k2,k3,k4⟩:Dr)],_,?_,?_,rfl,rfl⟩
  .simp -implicitDefEqProofs [turn,z,F,f3,f4,bM4 (show k2<3 by lia)];rw[bK7 (by unfold LIM;simp;lia)];rfl
  .intro d hd;rcases cH.mp hd with h|h
   .exact hl d h
   .rw[cT.mp h];constructor<;>simp only<;>lia
  .simp[y]
 .rintro U u ⟨b,l,x,hl,y,rfl,rfl⟩
  obtain⟨l1,J,g1,z⟩:=aM5 (P:=P) n (s:=s.set r (zh b)++[.J (l.map Dr.d)]) (r:=r) ⟨b,za (ak9 hr)⟩ (c+1) (by lia);rw[aG8 (by rw[bt];exact hr),du]at z;obtain⟨l2,G,g2,F⟩:=aM5 (P:=P) n (s:=s.set r (zh J)++[.J (l.map Dr.d)]) (r:=r) ⟨J,za (ak9 hr)⟩ (c+1) (by omega);rw[aG8 (by rw[bt];exact hr),du]at F;rw[show((c+1:Nat):Int)=1+(c:Int)by lia]at z F;have a0:(s.set r (zh G)++[O.J (l.map Dr.d)])[s.length]?=some (.J (l.map Dr.d)):=by rw[bR (by simp)];simp
  have Z:l.length<=75:=by
   rw[y];simp[ah9];omega
  simp -implicitDefEqProofs [z,F,bo9,a0,mk];refine⟨⟨a+1,c+1,l1,l2,l⟩,G,⟨by simp,by simp;lia,by simp,by simp;lia,g1,g2,λ x hx=>?_,Z⟩,?_⟩
  .have:=hl x hx;exact⟨this.a,this.l,this.b,this.t⟩
  .rw[show((1:Int)+(a:Int))=((a+1:Nat):Int)by lia,show((1:Int)+(c:Int))=((c+1:Nat):Int)by lia];exact aj4 (bT9 ⟨a+1,c+1,l1,l2,l⟩) (by nofun) rfl
section
variable {P:Pr}
def aw4 (j:Nat)(h:l[j]?=some d):ixM (.tp l) (.int (j)) s=.ok d s:=ix_tup h
@[simp] theorem bZ3 a b s :zQ .ne (.str [a]) (.str [b]) s=.ok (.T (!decide (a=b))) s:=by
 show(match eqv s DEEP (.str [a]) (.str [b])with|some r=>R.ok (D.T (!r)) s|none=>.B)=_;have:eqv s DEEP (.str [a]) (.str [b])=some ([a]==[b]):=rfl;rw[this];have e:([a]==[b])=decide (a=b):=by rw[cI];simp
 rw[e]
@[simp] theorem cb8 a b s :zQ .eq (.str [a]) (.str [b]) s=.ok (.T (decide (a=b))) s:=by
 show(match eqv s DEEP (.str [a]) (.str [b])with|some r=>R.ok (D.T r) s|none=>.B)=_;have:eqv s DEEP (.str [a]) (.str [b])=some ([a]==[b]):=rfl;rw[this];have e:([a]==[b])=decide (a=b):=by rw[cI];simp
 rw[e]
end
def good_of {L}(h:w.length<=200)(hw:Lts L w):bV3 L (.str w)=true:=by
 unfold bV3;simp only[h,decide_true,cj,aD,decide_eq_true_eq];exact hw
def as2 (x:R D)(s:Sto)(p:Prop):Prop:=∃ b,x=.ok (.T b) s/\(b=true↔p)
def fit (s:Sto)(B:Nat):Nat->D->Prop
 | 0,d=>(match d with|.tp _=>False|d=>ad5 s d)
 | n+1,d=>(match d with|.tp l=>l.length<=B/\∀ x∈l,fit s B n x|d=>ad5 s d)
def fit.thing :∀ {n} {d},fit s B n d->ad5 s d
 | 0,d,h=>by cases d<;>first|exact h|exact h.elim|trivial
 | n+1,d,h=>by cases d<;>first|exact h|trivial
def fit.tup (h:fit s B n (.tp l)):l.length<=B/\∀ x∈l,∃ m,m<n/\fit s B m x:=by
 cases n with
 | zero=>exact h.elim
 | succ n=>exact⟨h.1,λ x hx=>⟨n,dM n,h.2 x hx⟩⟩
def an0 (h:ad5 s d)(ht:∀ l,d≠.tp l):fit s B n d:=by
 cases n<;>(cases d<;>first|exact absurd rfl (ht _)|exact h)
def ql (h:ad5 s d):bi .isTup [d] s=.ok (.T (match d with|.tp _=>true|_=>false)) s:=by
 cases d with
 | ref k=>obtain⟨l,e⟩:=h;simp only[bi,bi1,isK,e];rfl
 | fn _=>exact h.elim
 | clo _ _=>exact h.elim
 | _=>rfl
def an8 (h:ad5 s d):bi .isInt [d] s=.ok (.T (match d with|.int _=>true|.T _=>true|_=>false)) s:=by
 cases d with
 | ref k=>obtain⟨l,e⟩:=h;simp only[bi,bi1,isK,e];rfl
 | fn _=>exact h.elim
 | clo _ _=>exact h.elim
 | _=>rfl
def aC8 (h:ad5 s d):bi .isBool [d] s=.ok (.T (match d with|.T _=>true|_=>false)) s:=by
 cases d with
 | ref k=>obtain⟨l,e⟩:=h;simp only[bi,bi1,isK,e];rfl
 | fn _=>exact h.elim
 | clo _ _=>exact h.elim
 | _=>rfl
def tup_or (d:D):(∃ l,d=.tp l)\/∀ l,d≠.tp l:=by
 cases d<;>first|exact .inl ⟨_,rfl⟩|exact .inr (by nofun)
def aw9 (h:ad5 s d)(hn:∀ l,d≠.tp l):bi .isTup [d] s=.ok (.T false) s:=by
 rw[ql h];cases d<;>first|rfl|exact absurd rfl (hn _)
def bm8 (h:ad5 s d)(y:∀ i,d≠.int i)(hb:∀ i,d≠.T i):bi .isInt [d] s=.ok (.T false) s:=by
 rw[an8 h];cases d<;>first|rfl|exact absurd rfl (y _)|exact absurd rfl (hb _)
def int_or (d:D):(∃ i,d=.int i)\/(∃ b,d=.T b)\/((∀ i,d≠.int i)/\∀ b,d≠.T b):=by
 cases d<;>first|exact .inl ⟨_,rfl⟩|exact .inr (.inl ⟨_,rfl⟩)|exact .inr (.inr ⟨by nofun,by nofun⟩)
def al2 (lo hi:Int)(d:D):Prop:=∃ i,d=.int i/\lo<=i/\i<=hi
def as2.no (e:x=.ok (.T false) s)(h:¬ p):as2 x s p:=⟨false,e,⟨by nofun,λ q=>absurd q h⟩⟩
def qp [Has P ab1] n {s}{d}(h:ad5 s d) z y :as2 ((aa0 P (n+1)).call "is_whole" [d,.int z,.int y] s) s (al2 z y d):=by
 have e0:(aa0 P (n+1)).call "is_whole" [d,.int z,.int y] s=_:=ze ab1 rfl;rw[e0];have G:=an8 h;have F:=aC8 h;rcases int_or d with⟨i,rfl⟩|⟨b,rfl⟩|⟨y,hb⟩
 ·
  refine⟨decide (z<=i)&&decide (i<=y),?_,?_⟩
  .by_cases hl:z<=i<;>simp -implicitDefEqProofs [ab1,hl]
  .simp[al2]
 .exact .no (by simp -implicitDefEqProofs [ab1,G,F]) (by rintro⟨i,e,_⟩;cases e)
 .exact .no (by simp -implicitDefEqProofs [ab1,bm8 h y hb]) (by rintro⟨i,e,_⟩;exact y _ e)
def al0 [Has P ab1][Has P ab9] n {s}{d}(h:ad5 s d) k :as2 ((aa0 P (n+2)).call "is_room" [d,.int k] s) s (al2 0 (k - 1) d):=by
 have e0:(aa0 P (n+2)).call "is_room" [d,.int k] s=_:=ze ab9 rfl;obtain⟨b,e,hb⟩:=qp (P:=P) n h 0 (k - 1);exact⟨b,by rw[e0];simp -implicitDefEqProofs [ab9,e],hb⟩
def ar5 [Has P ab0] n {s}{d}(h:ad5 s d)(k:Nat):as2 ((aa0 P (n+1)).call "is_tuple_of" [d,.int k] s) s (∃ l,d=.tp l/\l.length=k):=by
 have e0:(aa0 P (n+1)).call "is_tuple_of" [d,.int k] s=_:=ze ab0 rfl;rw[e0];have y:=ql h;rcases tup_or d with⟨l,rfl⟩|hn
 ·
  refine⟨decide ((l.length)=(k:Int)),by simp -implicitDefEqProofs [ab0],?_⟩;rw[decide_eq_true_iff];constructor
  .intro e;exact⟨l,rfl,by lia⟩
  .rintro⟨m,e,e2⟩;cases e;lia
 .exact .no (by simp -implicitDefEqProofs [ab0,aw9 h hn]) (by rintro⟨i,e,_⟩;exact hn _ e)
def cc2 (L:Nat)(d:D):Prop:=∃ c,d=.str [c]/\97<=c/\c<97+L
def aY4 (h:ad5 s d){L}(Y:1<=L)(h3:L<=3):∃ b,inM d (.tp (aK3.take L)) s=.ok b s/\(b=true↔cc2 L d):=by
 have e:∀ a:Nat,∃ b:Bool,eqv s DEEP (.str [a]) d=some b/\(b=true↔d=.str [a]):=λ a=>by
  cases d with
  | str w=>exact⟨[a]==w,rfl,by
   rw[beq_iff_eq];constructor
   .intro h;rw[h]
   .intro h;cases h;rfl⟩
  | ref k =>
   obtain⟨l,e⟩:=h;refine⟨false,?_,by constructor<;>intro h<;>cases h⟩;show af1 s (.str [a]) (.ref k)=_;unfold af1 aV4;simp only[kd,e];rfl
  | fn _=>exact h.elim
  | clo _ _=>exact h.elim
  | _=>exact⟨false,rfl,by constructor<;>intro h<;>cases h⟩
 obtain⟨b1,e1,y⟩:=e 97;obtain⟨z,e2,F⟩:=e 98;obtain⟨J,e3,G⟩:=e 99
 match L,Y,h3 with
 | 1,_,_ =>
  refine⟨b1||false,by simp only[kI,inM,inL,e1],?_⟩;rw[gM,y];constructor
  .intro h;exact⟨97,h,by lia,by lia⟩
  .rintro⟨c,rfl,h4,h5⟩;rw[show c=97 by lia]
 | 2,_,_ =>
  refine⟨b1||(z||false),by simp only[kI,inM,inL,e1,e2],?_⟩;rw[gM,bT,y,F];constructor
  .rintro(h|h)
   .exact⟨97,h,by omega,by lia⟩
   .exact⟨98,h,by lia,by lia⟩
  .rintro⟨c,rfl,h4,h5⟩
   rcases(show c=97\/c=98 by lia)with rfl|rfl
   .exact .inl rfl
   .exact .inr rfl
 | 3,_,_ =>
  refine⟨b1||(z||(J||false)),by simp only[kI,inM,inL,e1,e2,e3],?_⟩;rw[gM,bT,bT,y,F,G];constructor
  .rintro(h|h|h)
   .exact⟨97,h,by omega,by lia⟩
   .exact⟨98,h,by omega,by lia⟩
   .exact⟨99,h,by lia,by lia⟩
  .rintro⟨c,rfl,h4,h5⟩
   rcases(show c=97\/c=98\/c=99 by lia)with rfl|rfl|rfl
   .exact .inl rfl
   .exact .inr (.inl rfl)
   .exact .inr (.inr rfl)
def aF0 [Has P ab5][HasC P "LETTERS" (.tp aK3)] n {s}{d}(h:ad5 s d){L:Nat}(y:1<=L)(h3:L<=3):as2 ((aa0 P (n+1)).call "is_letter" [d,.int L] s) s (cc2 L d):=by
 have e0:(aa0 P (n+1)).call "is_letter" [d,.int L] s=_:=ze ab5 rfl;obtain⟨b,e,hb⟩:=aY4 h y h3;exact⟨b,by rw[e0];simp -implicitDefEqProofs [ab5,qP (v:=.tp aK3),bD1 h3,by2,e],hb⟩
def aY1 (L:Nat)(R:Int)(d:D):Prop:=∃ a b c t,d=.tp [a,b,c,t]/\al2 0 (R - 1) a/\cc2 L b/\al2 0 (R - 1) c/\al2 0 3 t
def cl5 {l:List D}(h:l.length=4):∃ a b c t,l=[a,b,c,t]:=by
 match l,h with
 | [a,b,c,t],_=>exact⟨a,b,c,t,rfl⟩
def ck0 {l:List D}(h:l.length=5):∃ a b c t u,l=[a,b,c,t,u]:=by
 match l,h with
 | [a,b,c,t,u],_=>exact⟨a,b,c,t,u,rfl⟩
def aV1 [Has P ab0][Has P ab1][Has P ab9][Has P ab5][Has P ac1][HasC P "LETTERS" (.tp aK3)][HasC P "MOST_TOLL" (.int 3)] n {s}{B k}{d}(h:fit s B k d){L:Nat}(h1:1<=L)(h3:L<=3) R  :
  as2 ((aa0 P (n+3)).call "is_door" [d,.int L,.int R] s) s (aY1 L R d):=by
 have e0:(aa0 P (n+3)).call "is_door" [d,.int L,.int R] s=_:=ze ac1 rfl;rw[e0];obtain⟨b,e,hb⟩:=ar5 (P:=P) (n+1) h.thing 4;rw[show((4:Nat):Int)=4 from rfl]at e;cases b with
 | false=>exact .no (by simp -implicitDefEqProofs [ac1,e]) (by
   rintro⟨x,y,z,t,rfl,_⟩
   exact absurd (hb.mpr ⟨_,rfl,rfl⟩) (by decide))
 | true =>
  obtain⟨l,rfl,hl⟩:=hb.mp rfl;obtain⟨x,y,z,t,rfl⟩:=cl5 hl;have hf:=h.tup.2;have F:∀ u∈[x,y,z,t],ad5 s u:=λ u hu=>by obtain⟨m,_,q⟩:=hf u hu;exact q.thing
  have i0:ixM (.tp [x,y,z,t]) (.int 0) s=.ok x s:=aw4 0 rfl;have i1:ixM (.tp [x,y,z,t]) (.int 1) s=.ok y s:=aw4 1 rfl;have Y:ixM (.tp [x,y,z,t]) (.int 2) s=.ok z s:=aw4 2 rfl;have i3:ixM (.tp [x,y,z,t]) (.int 3) s=.ok t s:=aw4 3 rfl;obtain⟨b1,e1,q1⟩:=al0 (P:=P) n (F x (by simp)) R;obtain⟨J,e2,q2⟩:=aF0 (P:=P) (n+1) (F y (by simp)) h1 h3;obtain⟨G,e3,q3⟩:=al0 (P:=P) n (F z (by simp)) R;obtain⟨b4,Z,q4⟩:=qp (P:=P) (n+1) (F t (by simp)) 0 3;refine⟨b1&&(J&&(G&&b4)),?_,?_⟩
  .simp -implicitDefEqProofs [ac1,e,i0,e1];cases b1
   .simp -implicitDefEqProofs
   .simp -implicitDefEqProofs [i1,e2];cases J
    .simp -implicitDefEqProofs
    .simp -implicitDefEqProofs [Y,e3];cases G
     .simp -implicitDefEqProofs
     .simp -implicitDefEqProofs [i3,Z,qP (v:=.int 3)]
  .rw[am,am,am,q1,q2,q3,q4];constructor
   .rintro⟨a,b,c,d⟩;exact⟨x,y,z,t,rfl,a,b,c,d⟩
   .rintro⟨_,_,_,_,e,a,b,c,d⟩;cases e;exact⟨a,b,c,d⟩
theorem qI (ho:ok s=true)(E:Env->Prop)(p:D->Prop):∀ l U ,E U ->
  (∀ d∈l,∀ U,E U->∃(b:Bool) (U':Env),g d U s=.ok (some (.T b),U') s/\E U'/\(b=true↔p d))->∃ bs:List Bool,ae5 ok g l U s=.ok (bs.map D.T) s/\(bs.all id=true↔∀ d∈l,p d)
 | [],U,_,_=>⟨[],by unfold ae5;rw[if_pos ho];rfl,by simp⟩
 | d::l,U,hE,h=>by
  obtain⟨b,U1,e1,y,hb⟩:=h d (au ..) U hE;obtain⟨bs,e2,z⟩:=qI ho E p l U1 y λ x hx=>h x (ai _ hx);refine⟨b::bs,?_,?_⟩
  .unfold ae5;rw[if_pos ho,e1];simp only[R.bind_ok];rw[e2];rfl
  .rw[ci,am,z];simp only[id,hb,aw,forall_eq_or_imp]
theorem aG4:∀ bs:List Bool,ah4 (bs.map D.T)=some bs
 | []=>rfl
 | b::bs=>by simp[ah4,aG4 bs]
theorem ao9:∀ l m (i:Nat),(ai1 l m)[i]?=(match l[i]?,m[i]? with|some a,some b=>some (.tp [a,b])|_,_=>none)
 | [],m,i=>by rw[ai1]<;>simp
 | a::l,[],i=>by rw[ai1]<;>simp
 | a::l,b::m,0=>by rw[ai1];rfl
 | a::l,b::m,i+1=>by rw[ai1];exact ao9 l m i
def bW8 (R:Int)(d:D):Prop:=∃ l,d=.tp l/\(∀ x∈l,al2 0 (R - 1) x)/\∀ k a b ,l[k]?=some (.int a)->l[k+1]?=some (.int b)->a<b
def bX9 (l:List D):ak0 l (some 1) none=l.drop 1:=by
 unfold ak0;simp only[loB,hiB,sbd];cases l with
 | nil=>rfl
 | cons a l=>simp
def aM9 (h:n<=B)(y:B<=100000):n<=LIM:=by unfold LIM;lia
def aB5 [Has P ab1][Has P ab9][Has P aa3] n {s}{B k}(J:B<=100000){d}(h:fit s B k d) F :
  as2 ((aa0 P (n+3)).call "are_rising_rooms" [d,.int F] s) s (bW8 F d):=by
 have e0:(aa0 P (n+3)).call "are_rising_rooms" [d,.int F] s=_:=ze aa3 rfl;rw[e0];have ht:=ql h.thing;rcases tup_or d with⟨l,rfl⟩|hn
 ·
  obtain⟨hl,hx⟩:=h.tup;have sT:qG (.tp l) s=.ok ⟨l,[]⟩ s:=rfl;obtain⟨bs,e1,h1⟩:=qI (ok:=λ G=>chk s G []) (g:=ac3 (aa0 P (n+2)) (.Y 0) (.call "is_room" (.ex (.X 0) (.ex (.X 1) .nil)))) (s:=s) rfl (λ U=>∃ x,U=[x,some (.int F)]) (al2 0 (F - 1)) l (zJ [some (.tp l),some (.int F)] [none,some 1]) ⟨none,rfl⟩ (by
   rintro d hd U ⟨x,rfl⟩
   obtain⟨m,_,hm⟩:=hx d hd;obtain⟨b,e,hb⟩:=al0 (P:=P) n hm.thing F;exact⟨b,[some d,some (.int F)],by unfold ac3;simp -implicitDefEqProofs [e],⟨_,rfl⟩,hb⟩)
  have Z:bs.all id=true\/bs.all id=false:=by cases bs.all id<;>simp
  rcases Z with ha|ha
  .have hw:=h1.mp ha;have mt:∀ a b,D.tp [a,b]∈ai1 l (l.drop 1)->∃ x y:Int,a=.int x/\b=.int y:=λ a b hm=>by
    obtain⟨i,z⟩:=cC hm;rw[ao9]at z;split at z
    .rename_i a' b' u v;cases z;obtain⟨x,rfl,_⟩:=hw a (aG u);obtain⟨y,rfl,_⟩:=hw b (dK (aG v));exact⟨x,y,rfl,rfl⟩
    .cases z
   have Y:∀ d∈ai1 l (l.drop 1),∃ a b,d=.tp [a,b]:=λ d hm=>by
    obtain⟨i,z⟩:=cC hm;rw[ao9]at z;split at z
    .cases z;exact⟨_,_,rfl⟩
    .cases z
   obtain⟨cs,e2,h2⟩:=qI (ok:=λ G=>chk s G ([]++[])) (g:=ac3 (aa0 P (n+2)) (.tp [0,1]) (.Z .lt (.X 0) (.X 1))) rfl (λ U=>∃ x y,U=[x,y]) (λ d=>∃ a b,d=.tp [.int a,.int b]/\a<b) (ai1 l (l.drop 1)) (zJ [some (.tp l),some (.int F)] [none,none]) ⟨none,none,rfl⟩ (by
    rintro d hd U ⟨x,y,rfl⟩
    obtain⟨a,b,rfl⟩:=Y d hd;obtain⟨a,b,rfl,rfl⟩:=mt a b hd;refine⟨decide (a<b),[some (.int a),some (.int b)],by unfold ac3;simp -implicitDefEqProofs,⟨_,_,rfl⟩,?_⟩;rw[decide_eq_true_iff];constructor
    .intro h;exact⟨a,b,rfl,h⟩
    .rintro⟨_,_,e,h⟩;cases e;exact h)
   have dT:as3 (.tp l) s=.ok ⟨l,[]⟩ s:=rfl;have a0:as3 (.tp (l.drop 1)) s=.ok ⟨l.drop 1,[]⟩ s:=rfl;have sl:slM (.tp l) (some 1) none s=.ok (.tp (l.drop 1)) s:=by show R.ok (D.tp (ak0 l (some 1) none)) s=_;rw[bX9]
   have zl:(ai1 l (l.drop 1)).length<=LIM:=by
    have:∀(a b:List D),(ai1 a b).length<=a.length:=λ a=>by
     induction a with
     | nil=>intro b;rw[ai1]<;>simp
     | cons x a ih =>
      intro b;cases b with
      | nil=>rw[ai1]<;>simp
      | cons y b=>rw[ai1];simpa using ih b
    exact aq (this l _) (aM9 hl J)
   refine⟨cs.all id,?_,?_⟩
   .simp -implicitDefEqProofs [aa3,sT];rw[if_pos (aM9 hl J),e1];simp -implicitDefEqProofs [mk,aG4,ha];simp only[evI,ev_var,getV_0,bP8,ev_cst,Cn_int,R.bind_ok,sl,dT,a0];rw[if_pos zl,e2];simp -implicitDefEqProofs [mk,aG4]
   .rw[h2];constructor
    .intro hh;refine⟨l,rfl,hw,λ k a b ha hb=>?_⟩;have:D.tp [.int a,.int b]∈ai1 l (l.drop 1):=by
      refine aG (i:=k) ?_;rw[ao9,ha,gu,eL,hb]
     obtain⟨_,_,e,h⟩:=hh _ this;cases e;exact h
    .rintro⟨_,e,_,hr⟩ d hd
     cases e;obtain⟨i,z⟩:=cC hd;rw[ao9]at z;split at z
     .rename_i a' b' u v;cases z;obtain⟨x,rfl,_⟩:=hw _ (aG u);obtain⟨y,rfl,_⟩:=hw _ (dK (aG v));rw[gu,eL]at v;exact⟨x,y,rfl,hr i x y u v⟩
     .cases z
  .refine .no ?_ ?_
   .simp -implicitDefEqProofs [aa3,sT];rw[if_pos (aM9 hl J),e1];simp -implicitDefEqProofs [mk,aG4,ha]
   .rintro⟨_,e,hw,_⟩
    cases e;rw[h1.mpr hw]at ha;cases ha
 .exact .no (by simp -implicitDefEqProofs [aa3,aw9 h.thing hn]) (by rintro⟨_,e,_⟩;exact hn _ e)
def br0 (L:Nat)(Rm:Int)(d:D):Prop:=∃ l,d=.tp l/\l.length<=75/\∀ x∈l,aY1 L Rm x
def bh8 [Has P ab0][Has P ab1][Has P ab9][Has P ab5][Has P ac1][Has P ab4][HasC P "LETTERS" (.tp aK3)][HasC P "MOST_TOLL" (.int 3)][HasC P "MOST_DOORS" (.int 75)] n {s}{B k}(J:B<=100000){d}(h:fit s B k d){L:Nat}(Z:1<=L)(h3:L<=3) z  :
  as2 ((aa0 P (n+4)).call "are_doors" [d,.int L,.int z] s) s (br0 L z d):=by
 have e0:(aa0 P (n+4)).call "are_doors" [d,.int L,.int z] s=_:=ze ab4 rfl;rw[e0];have ht:=ql h.thing;rcases tup_or d with⟨l,rfl⟩|hn
 ·
  obtain⟨hl,hx⟩:=h.tup;by_cases F:l.length<=75
  .have y:¬((75:Int)<(l.length:Int)):=by lia
   have Y:qG (.tp l) s=.ok ⟨l,[]⟩ s:=rfl;obtain⟨bs,e1,q1⟩:=qI (ok:=λ G=>chk s G []) (g:=ac3 (aa0 P (n+3)) (.Y 0) (.call "is_door" (.ex (.X 0) (.ex (.X 1) (.ex (.X 2) .nil))))) (s:=s) rfl (λ U=>∃ x,U=[x,some (.int L),some (.int z)]) (aY1 L z) l (zJ [some (.tp l),some (.int L),some (.int z)] [none,some 1,some 2]) ⟨none,rfl⟩ (by
    rintro d hd U ⟨x,rfl⟩
    obtain⟨m,_,hm⟩:=hx d hd;obtain⟨b,e,hb⟩:=aV1 (P:=P) n hm Z h3 z;exact⟨b,[some d,some (.int L),some (.int z)],by unfold ac3;simp -implicitDefEqProofs [e],⟨_,rfl⟩,hb⟩)
   refine⟨bs.all id,?_,?_⟩
   .simp -implicitDefEqProofs [ab4,Y,qP (v:=.int 75),y];rw[if_pos (aM9 hl J),e1];simp -implicitDefEqProofs [mk,aG4]
   .rw[q1];constructor
    .intro hh;exact⟨l,rfl,F,hh⟩
    .rintro⟨_,e,_,hh⟩;cases e;exact hh
  .refine .no ?_ (by rintro⟨_,e,hh,_⟩;cases e;exact F hh);have y:((75:Int)<(l.length:Int)):=by lia
   simp -implicitDefEqProofs [ab4,qP (v:=.int 75),y]
 .exact .no (by simp -implicitDefEqProofs [ab4,aw9 h.thing hn]) (by rintro⟨_,e,_⟩;exact hn _ e)
def aA8 (d:D):Prop:=∃(L:Nat) (Rm:Int) (b e ds:D),d=.tp [.int L,.int Rm,b,e,ds]/\(1<=L/\L<=3)/\(1<=Rm/\Rm<=5)/\bW8 Rm b/\bW8 Rm e/\br0 L Rm ds
def aU5 [Has P ab0][Has P ab1][Has P ab9][Has P ab5][Has P ac1][Has P ab4][Has P aa3][Has P ab7][HasC P "LETTERS" (.tp aK3)][HasC P "MOST_TOLL" (.int 3)][HasC P "MOST_DOORS" (.int 75)][HasC P "MOST_ROOMS" (.int 5)] n {s}{B k}(Z:B<=100000){d}(h:fit s B k d) :
  as2 ((aa0 P (n+5)).call "is_machine" [d] s) s (aA8 d):=by
 have e0:(aa0 P (n+5)).call "is_machine" [d] s=_:=ze ab7 rfl;rw[e0];obtain⟨b,e,hb⟩:=ar5 (P:=P) (n+3) h.thing 5;rw[show((5:Nat):Int)=5 from rfl]at e;cases b with
 | false=>exact .no (by simp -implicitDefEqProofs [ab7,e]) (by
   rintro⟨L,F,x,y,z,rfl,_⟩
   exact absurd (hb.mpr ⟨_,rfl,rfl⟩) (by decide))
 | true =>
  obtain⟨l,rfl,hl⟩:=hb.mp rfl;obtain⟨x0,x1,G,x3,x4,rfl⟩:=ck0 hl;have hf:=h.tup.2;have J:ixM (.tp [x0,x1,G,x3,x4]) (.int 0) s=.ok x0 s:=aw4 0 rfl;have Y:ixM (.tp [x0,x1,G,x3,x4]) (.int 1) s=.ok x1 s:=aw4 1 rfl;have i2:ixM (.tp [x0,x1,G,x3,x4]) (.int 2) s=.ok G s:=aw4 2 rfl;have i3:ixM (.tp [x0,x1,G,x3,x4]) (.int 3) s=.ok x3 s:=aw4 3 rfl;have i4:ixM (.tp [x0,x1,G,x3,x4]) (.int 4) s=.ok x4 s:=aw4 4 rfl;obtain⟨m0,_,f0⟩:=hf x0 (by simp);obtain⟨m1,_,f1⟩:=hf x1 (by simp);obtain⟨m2,_,f2⟩:=hf G (by simp);obtain⟨m3,_,f3⟩:=hf x3 (by simp);obtain⟨m4,_,f4⟩:=hf x4 (by simp);have gL:∀ U s,ev (aa0 P (n+4)) (.bi .len (.cons (.gl "LETTERS") .nil)) U s=.ok (.int 3) s:=λ U s=>by simp -implicitDefEqProofs [qP (v:=.tp aK3)]
  obtain⟨b1,e1,q1⟩:=qp (P:=P) (n+3) f0.thing 1 3
  conv=>arg 1;simp -implicitDefEqProofs [ab7,e,J,e1,qP (v:=.tp aK3)]
  cases b1 with
  | false=>exact .no (by simp -implicitDefEqProofs) (by
    rintro⟨L,F,x,y,z,e,⟨l1,l3⟩,_⟩
    cases e;exact absurd (q1.mpr ⟨L,rfl,by lia,by lia⟩) (by decide))
  | true =>
   obtain⟨Li,rfl,a3,a2⟩:=q1.mp rfl;obtain⟨L,rfl⟩:∃ L:Nat,Li=(L:Int):=⟨Li.toNat,by lia⟩
   obtain⟨b2,e2,q2⟩:=qp (P:=P) (n+3) f1.thing 1 5
   conv=>arg 1;simp -implicitDefEqProofs [J,Y,e2,qP (v:=.int 5)]
   cases b2 with
   | false=>exact .no (by simp -implicitDefEqProofs) (by
     rintro⟨L,F,x,y,z,e,_,⟨l1,l3⟩,_⟩
     cases e;exact absurd (q2.mpr ⟨F,rfl,by omega,by omega⟩) (by decide))
   | true =>
    obtain⟨F,rfl,a1,a0⟩:=q2.mp rfl;obtain⟨b3,e3,q3⟩:=aB5 (P:=P) (n+1) Z f2 F;obtain⟨b4,e4,q4⟩:=aB5 (P:=P) (n+1) Z f3 F;obtain⟨b5,e5,q5⟩:=bh8 (P:=P) n Z f4 (L:=L) (by lia) (by lia) F;refine⟨b3&&(b4&&b5),?_,?_⟩
    .simp -implicitDefEqProofs [J,Y,i2,e3];cases b3
     .simp -implicitDefEqProofs
     .simp -implicitDefEqProofs [J,Y,i3,e4];cases b4
      .simp -implicitDefEqProofs
      .simp -implicitDefEqProofs [J,Y,i4,e5]
    .rw[am,am,q3,q4,q5];constructor
     .rintro⟨a,b,c⟩;exact⟨L,F,G,x3,x4,rfl,⟨by omega,by omega⟩,⟨a1,a0⟩,a,b,c⟩
     .rintro⟨L',a4,_,_,_,e,_,_,a,b,c⟩
      simp only[D.tp.injEq,fQ,D.int.injEq,and_true]at e;obtain⟨h1,h2,h3,h4,h5⟩:=e;have:L=L':=by lia
      subst this h2 h3 h4 h5;exact⟨a,b,c⟩
def bm6 (hl:l.length<=B)(h:∀ x∈l,ad5 s x/\∀ m,x≠.tp m):fit s B (n+1) (.tp l):=⟨hl,λ x hx=>an0 (h x hx).1 (h x hx).2⟩
def two {l:List D}(h:l.length=2):∃ a b,l=[a,b]:=by
 match l,h with
 | [a,b],_=>exact⟨a,b,rfl⟩
noncomputable def row (m:Nat)(f:Nat->Int):List D:=(bE m).map λ j=>.int (f j)
@[simp] theorem cf2 :(row m f).length=m:=by unfold row;simp
def bR2 (m:Nat)(f:Nat->Nat->Int):Sto:=(bE m).map λ i=>.J (row m (f i))
@[simp] theorem bQ2 :(bR2 m f).length=m:=by unfold bR2;simp
noncomputable def refs (p m:Nat):List D:=(bE m).map λ i=>.ref (p+i)
@[simp] theorem bY8 a b :evI F (.zip (.seq a) (.seq b)) U s=(ev F a U s).bind λ x s=>(ev F b U s).bind λ y s=>(as3 x s).bind λ p s=>(as3 y s).bind λ q s=>.ok ⟨ai1 p.its q.its,p.src++q.src⟩ s:=rfl
def ix_str {j :Nat}(hj:l[j]?=some c):ixM (.str l) (.int (j)) s=.ok (.str [c]) s:=by
 have hl:=(ah.mp hj).1;have e:=(ah.mp hj).2;simp[ixM,ixn,hl,e]
noncomputable def shN (f:Nat->Nat->Int)(i j:Nat):Nat->Int
 | 0=>3
 | k+1=>let b:=max (max (f i k) (if f k k=1 then 2 else f k k)) (f k j);if b<shN f i j k then b else shN f i j k
def sh (m:Nat)(f:Nat->Nat->Int)(i j:Nat):Int:=shN f i j m
inductive Stp where
 | let_ (c:Nat)|pair (i j:Nat)|sharp (i:Nat)
noncomputable abbrev Stp.ctorIdx (x:Stp):Nat:=Stp.casesOn x (λ _=>0) (λ _ _=>1) (λ _=>2)
noncomputable def Stp.d:Stp->D
 | .let_ c=>.tp [.str [108,101,116,116,101,114],.str [c]]
 | .pair i j=>.tp [.str [112,97,105,114],.int i,.int j]
 | .sharp i=>.tp [.str [115,104,97,114,112],.int i]
section
variable {s:Sto} {r:Nat} {b:Int} {A B Cc:List D} {T:Sto}
end
section
variable {m:Nat} {f:Nat->Nat->Int} {x:Int}
end
noncomputable def cd0 (a c:Int)(vs:List Int):Stp->Int
 | .let_ _=>a
 | .pair i j=>vs.getD i 0+vs.getD j 0
 | .sharp i=>vs.getD i 0*c
def vl (a c:Int)(l:List Stp):List Int:=l.foldl (λ vs x=>vs++[cd0 a c vs x]) []
section
variable {F:Fns} {U:Env} {s:Sto}
end
noncomputable def Stp.t (c:Int):Stp->D
 | .sharp i=>.tp [.str [116,105,109,101,115],.int i,.int c]
 | x=>x.d
section
variable {P:Pr} [Has P bN6] [Has P at3] [HasL P ak3]
end
def bY0 (z:s[a]?=some (.J l))(y:s[b]?=some (.J m))(h:l.length+m.length<=LIM):qK .add (.ref a) (.ref b) s=.ok (.ref s.length) (s++[.J (l++m)]):=by
 show(match s[a]?,s[b]? with|some (.J l),some (.J m)=>(if l.length+m.length<=LIM then af4 (.J (l++m)) s else .B)|_,_=>.B)=_;rw[z,y];exact if_pos h
theorem au7:∀ ws:List (List Nat),af0 (ws.map D.str)=some ws
 | []=>rfl
 | w::ws=>by
  show(af0 (ws.map D.str)).map (w::·)=_;rw[au7 ws];rfl
def aJ4 (h:s[r]?=some (.J (ws.map D.str)))(hz:(ws.map λ w=>w.length+(c::sep).length).sum<=LIM):aS7 (.str (c::sep)) (.ref r) s=.ok (.str (ac6 (c::sep) ws)) s:=by
 show(match s[r]? with
   | some (.J l)=>(match af0 l with
    | some ss=>if(ss.map λ(w:List Nat)=>w.length+(c::sep).length).sum<=LIM then R.ok (D.str (ac6 (c::sep) ss)) s else .B
    | none=>.B)
   | _=>.B)=_
 rw[h];show(match af0 (ws.map D.str)with
   | some ss=>if(ss.map λ(w:List Nat)=>w.length+(c::sep).length).sum<=LIM then R.ok (D.str (ac6 (c::sep) ss)) s else .B
   | none=>.B)=_
 rw[au7];exact if_pos hz
def an1 o e :ev F (.join o e) U s=(ev F o U s).bind λ x s=>(ev F e U s).bind λ y s=>aS7 x y s:=rfl
theorem ay6 :∀ {ws:List (List Nat)} {k},(∀ w∈ws,w.length+k<=B)->(ws.map λ w=>w.length+k).sum<=ws.length*B
 | [],k,_=>by simp
 | w::ws,k,h=>by
  have z:=h w (au ..);have y:=ay6 λ x hx=>h x (ai _ hx);rw[aF,dZ,aE,jX];omega
theorem ai3 sep :∀ z:List (List Nat),(ac6 sep z).length<=(z.map λ w=>w.length+sep.length).sum
 | []=>cA _
 | [x]=>by simp[ac6]
 | x::y::r=>by
  have:=ai3 sep (y::r);show(x++(sep++ac6 sep (y::r))).length<=_;rw[ar,ar,aF,dZ];omega
noncomputable def tx:D->List Nat
 | .int i=>[48+i.toNat]
 | .str w=>w
 | _=>[]
def Wd (d:D):Prop:=(∃ k:Nat,k<=9/\d=.int (k))\/∃ w,d=.str w/\w.length<=10
def au5 (h:Wd d) s :bi .str [d] s=.ok (.str (tx d)) s:=by
 rcases h with⟨k,hk,rfl⟩|⟨w,rfl,_⟩
 .show(if 0<=(k:Int)/\(k:Int)<=9 then R.ok (D.str [48+(k:Int).toNat]) s else .B)=_;rw[if_pos ⟨by omega,by lia⟩];rfl
 .rfl
def bM6 (h:Wd d):(tx d).length<=10:=by
 rcases h with⟨k,hk,rfl⟩|⟨w,rfl,hw⟩
 .show 1<=10;decide
 .exact hw
def al8 (l:List D):List Nat:=ac6 [32] (l.map tx)
def aM0 {l:List D}(h:∀ d∈l,Wd d)(hl:l.length<=20):((l.map tx).map λ w=>w.length+([32]).length).sum<=220:=by
 have:=ay6 (ws:=l.map tx) (k:=1) (B:=11) (λ w hw=>by
  obtain⟨d,hd,rfl⟩:=aN.mp hw;have:=bM6 (h d hd);lia)
 rw[ao]at this;have y:l.length*11<=20*11:=fA _ hl;exact aq this y
section
variable {P:Pr} [Has P ak5]
end
noncomputable def minO:Option Int->Option Int->Option Int
 | none,x=>x
 | some a,none=>some a
 | some a,some b=>if b<a then some b else some a
noncomputable def Dr.turn (x:Dr):Dr:=⟨x.b,x.l,x.a,x.t⟩
def Mc.turn (m:Mc):Mc:=⟨m.L,m.R,m.en,m.bg,m.ds.map Dr.turn⟩
theorem al1 {α β:Type}{f g:α->Option β}:∀ {l:List α},(∀ x∈l,f x=g x)->l.filterMap f=l.filterMap g
 | [],_=>rfl
 | a::l,h=>by rw[bA,bA,h a (au ..),al1 λ x hx=>h x (ai _ hx)]
def zW [Has P ad9] n  i y z  s :(aa0 P (n+1)).call "_law_whole" [.int i,.int y,.int z] s=.ok (.T (decide (y<=i)&&decide (i<=z))) s:=by
 refine(ze ad9 rfl).trans ?_;by_cases h:y<=i<;>simp -implicitDefEqProofs [ad9,h]
def bM5 {L:Nat}(h3:L<=3) s :slM (.str [97,98,99]) none (some (L)) s=.ok (.str ([97,98,99].take L)) s:=by
 show R.ok (D.str (ak0 [97,98,99] none (some (L)))) s=_;unfold ak0;simp only[hiB,sbd,ke];rw[if_pos (by lia),cr];show R.ok (D.str (kI (min L 3) [97,98,99])) s=_;rw[kU h3]
noncomputable abbrev am1:List Nat:=[108,101,116,116,101,114,115]
noncomputable abbrev qu:List Nat:=[114,111,111,109,115]
noncomputable abbrev zR:List Nat:=[98,101,103,105,110]
noncomputable abbrev tEnd:List Nat:=[101,110,100]
noncomputable abbrev zH:List Nat:=[100,111,111,114]
def drR (x:Dr):List D:=[.str zH,.int x.a,.str [x.l],.int x.b,.int x.t]
def qh (m:Mc):List (List D):=[[.str am1,.int m.L],[.str qu,.int m.R],.str zR::zn m.bg,.str tEnd::zn m.en]++m.ds.map drR
def bA4 (m:Mc):List Nat:=ac6 [10] ((qh m).map al8)
def aN2 {l:List Nat}(h:(∀ i∈l,i<k)/\l.Pairwise (· < ·))(hk:k<=5):l.length<=5:=by
 have nd:=h.2.imp (λ h=>aC h);have:=List.Nodup.length_le_of_subset nd (λ x hx=>cO.mpr (h.1 x hx));simp at this;lia
def bx8 (hm:m.Ok):∀ r∈qh m,(∀ d∈r,Wd d)/\r.length<=20:=λ r hr=>by
 have h5:=hm.R5;have h3:=hm.L3;have fig:∀ k:Nat,k<=9->Wd (.int (k)):=λ k hk=>.inl ⟨k,hk,rfl⟩;have wd:∀ w:List Nat,w.length<=10->Wd (.str w):=λ w hw=>.inr ⟨w,rfl,hw⟩;have y:∀ {l} {k},(∀ i∈l,i<k)/\l.Pairwise (· < ·)->k<=5->∀ t:List Nat,t.length<=10->(∀ d∈D.str t::zn l,Wd d)/\(D.str t::zn l).length<=20:=λ {l k} h hk t ht=>by
  refine⟨λ d hd=>?_,?_⟩
  .rcases aw.mp hd with rfl|hd
   .exact wd t ht
   .obtain⟨i,z,rfl⟩:=aN.mp hd;have:=h.1 i z;exact fig i (by lia)
  .have:=aN2 h hk;unfold zn;simp only[aE,ao];lia
 unfold qh at hr;rcases cH.mp hr with hr|hr
 .simp only[aw,aR,or_false]at hr;rcases hr with rfl|rfl|rfl|rfl
  .refine⟨λ d hd=>?_,by simp⟩;simp only[aw,aR,or_false]at hd;rcases hd with rfl|rfl
   .exact wd _ (by decide)
   .exact fig _ (by lia)
  .refine⟨λ d hd=>?_,by simp⟩;simp only[aw,aR,or_false]at hd;rcases hd with rfl|rfl
   .exact wd _ (by decide)
   .exact fig _ (by lia)
  .exact y hm.bg h5 _ (by decide)
  .exact y hm.en h5 _ (by decide)
 .obtain⟨x,hx,rfl⟩:=aN.mp hr;have hx:=hm.ds.1 x hx;have:=hx.a;have:=hx.b;have:=hx.t;refine⟨λ d hd=>?_,by simp[drR]⟩;simp only[drR,aw,aR,or_false]at hd;rcases hd with rfl|rfl|rfl|rfl|rfl
  .exact wd _ (by decide)
  .exact fig _ (by lia)
  .exact wd _ (by simp)
  .exact fig _ (by lia)
  .exact fig _ (by lia)
def aM3 (hm:m.Ok):(qh m).length<=79:=by
 have:=hm.ds.2;unfold qh;simp only[ar,aE,cY,ao];lia
def bm9 (hm:m.Ok):(((qh m).map al8).map λ(w)=>w.length+([10]).length).sum<=20000:=by
 have h:=ay6 (λ w hw=>by
  obtain⟨r,hr,rfl⟩:=aN.mp hw;obtain⟨z,y⟩:=bx8 hm r hr;have:=ai3 [32] (r.map tx);have:=aM0 z y;show(ac6 [32] (r.map tx)).length+1<=221;lia)
 rw[ao]at h;have y:=aM3 hm;have h3:(qh m).length*221<=79*221:=fA _ y;exact aq h (by lia)
def bq9 {s:Sto}{o :O}:(s++[o]).set s.length p=s++[p]:=by rw[dE _ _ (av _)];simp
def zf {s:Sto}:(s++[o])[s.length]?=some o:=by simp
section
variable {P:Pr} [Has P ak5] [Has P al5] [HasC P "LETTERS" (.tp aK3)] [Has P au6] [Has P ap8] [Has P aE4] [Has P au2] [Has P qO]
end
end DV
end
local macro_rules | `(tactic| tbr_iter [$xs,*]) => `(tactic| simp -implicitDefEqProofs only [DV.zb, DV.exs_nil, DV.ex_asg, DV.ex_ite, DV.ex_ret, DV.ex_ex, DV.ex_for, DV.ex_whl, DV.ex_setIx, DV.ev_var, DV.ev_cst, DV.ev_bin, DV.ev_not, DV.ev_cmp, DV.ev_and, DV.ev_or, DV.ev_ite, DV.ev_tup, DV.ev_lst, DV.ev_ix, DV.ev_call, DV.ev_bi, DV.ev_mk, DV.ev_meth, DV.ev_isN, DV.evs_nil, DV.evs_cons, DV.evas_nil, DV.evas_ex, DV.evI_seq, DV.evI_rng1, DV.evL_seq, DV.Cn_bl, DV.Cn_int, DV.Cn_non, DV.Cn_str, DV.R.bind_ok, DV.bindT_one, DV.bindT_tup, DV.setVs_nil, DV.setVs_cons, DV.setV_s, DV.setV_0, DV.unsetV_s, DV.unsetV_0, DV.getV_0, DV.getV_s, Option.map_some, Option.bind_some, DV.setC_some, DV.nxt_next, DV.nxt_ret, DV.nxt_cont, DV.fin_ret, DV.fin_next, DV.add_int, DV.sub_int, DV.lt_int, DV.le_int, DV.gt_int, DV.ge_int, DV.eq_int, DV.ne_int, DV.zT, DV.tru_bl, if_true, if_false, Bool.false_eq_true, decide_true, decide_false, Bool.not_true, Bool.not_false, $[$xs:term],*])
noncomputable section
namespace DV
noncomputable def cc1:Ss:=(.cons (.ex (.me .append (.X 6) (.cons (.join (.K (.str [32])) (.G .add (.J (.cons (.X 7) .nil)) (.mk .list (.comp (.Y 0) (.seq (.X 8)) (.bi .str (.cons (.X 0) .nil)) [none])))) .nil))) .nil)
noncomputable def cf4:Ss:=(.cons (.ex (.me .append (.X 6) (.cons (.G .add (.G .add (.G .add (.G .add (.G .add (.G .add (.G .add (.K (.str [100,111,111,114,32])) (.bi .str (.cons (.X 9) .nil))) (.K (.str [32]))) (.X 10)) (.K (.str [32]))) (.bi .str (.cons (.X 11) .nil))) (.K (.str [32]))) (.bi .str (.cons (.X 12) .nil))) .nil))) .nil)
def bw2:ac5.body=(.cons (.A (.tp [1,2,3,4,5]) (.X 0)) (.cons (.A (.Y 6) (.J (.cons (.G .add (.K (.str [108,101,116,116,101,114,115,32])) (.bi .str (.cons (.X 1) .nil))) (.cons (.G .add (.K (.str [114,111,111,109,115,32])) (.bi .str (.cons (.X 2) .nil))) .nil)))) (.cons (.fo (.tp [7,8]) (.seq (.J (.cons (.tp (.cons (.K (.str [98,101,103,105,110])) (.cons (.X 3) .nil))) (.cons (.tp (.cons (.K (.str [101,110,100])) (.cons (.X 4) .nil))) .nil)))) cc1) (.cons (.fo (.tp [9,10,11,12]) (.seq (.X 5)) cf4) (.cons (.ret (.join (.K (.str [10])) (.X 6))) .nil))))):=rfl
noncomputable def aJ5 (x:Dr):List Nat:=[100,111,111,114,32,48+x.a,32,x.l,32,48+x.b,32,48+x.t]
def cd8 (z:s[a]?=some (.J l))(y:s[b]?=some (.J m))(h:l.length+m.length<=LIM):qK .add (.ref a) (.ref b) s=.ok (.ref s.length) (s++[.J (l++m)]):=by
 show(match s[a]?,s[b]? with|some (.J l),some (.J m)=>(if l.length+m.length<=LIM then af4 (.J (l++m)) s else .B)|_,_=>.B)=_;rw[z,y];exact if_pos h
def aY5 F (hk:u[k]?=some (.J (ws.map D.str)))(a6:ws.length<=1000)(hw:w.length<=10)(hl:l.length<=10)(hf:∀ i∈l,i<=9) x0 x1 x2 x3 x4 x5 x7 x8 x9 z y G :
  ∃ T,turn F (.tp [7,8]) cc1 (.tp [.str w,.tp (zn l)]) [x0,x1,x2,x3,x4,x5,some (.ref k),x7,x8,x9,z,y,G] u=.ok (.next [x0,x1,x2,x3,x4,x5,some (.ref k),some (.str w),some (.tp (zn l)),x9,z,y,G]) ((u++T).set k (.J ((ws++[al8 (.str w::zn l)]).map D.str))):=by
 have a7:=(ah.mp hk).1;have sT:∀ S,qG (.tp (zn l)) S=.ok ⟨zn l,[]⟩ S:=λ _=>rfl;have nl:(zn l).length=l.length:=by unfold zn;rw[ao]
 have a2:(zn l).length<=LIM:=by rw[nl];unfold LIM;lia
 have Z:∀ d∈zn l,Wd d:=λ d hd=>by
  obtain⟨i,hi,rfl⟩:=aN.mp hd;exact .inl ⟨i,hf i hi,rfl⟩
 obtain⟨U3,s3,e3,a4,_⟩:=an4 (ok:=λ a3=>chk (u++[.J [.str w]]) a3 []) (g:=ac3 F (.Y 0) (.bi .str (.cons (.X 0) .nil))) (λ U v=>v=u++[.J [.str w]]/\∃ x,U=[x]) (λ d=>some (.str (tx d))) (zn l) (zJ [x0,x1,x2,x3,x4,x5,some (.ref k),some (.str w),some (.tp (zn l)),x9,z,y,G] [none]) (u++[.J [.str w]]) ⟨rfl,none,rfl⟩ (λ _ _ _=>rfl) (by
  rintro d hd U v ⟨rfl,x,rfl⟩
  refine⟨[some d],u++[.J [.str w]],?_,rfl,_,rfl⟩;have hb:=au5 (Z d hd) (u++[.J [.str w]]);unfold ac3
  tbr_iter [hb])
 rw[a4,io]at e3;have ha:=cd8 (s:=u++[.J [.str w]]++[.J ((zn l).map λ d=>D.str (tx d))]) (a:=u.length) (b:=(u++[O.J [D.str w]]).length) (l:=[.str w]) (m:=(zn l).map λ d=>D.str (tx d)) (za zf) zf (by rw[ao,nl];unfold LIM;simp;lia);have a0:∀ d∈D.str w::zn l,Wd d:=λ d hd=>by
  rcases aw.mp hd with rfl|hd
  .exact .inr ⟨w,rfl,hw⟩
  .exact Z d hd
 have a1:[D.str w]++(zn l).map (λ d=>D.str (tx d))=((D.str w::zn l).map tx).map D.str:=by rw[ce,aF];rfl
 rw[a1]at ha;have a5:=aM0 a0 (by rw[aE,nl];lia);have hj:=aJ4 (s:=u++[.J [.str w]]++[.J ((zn l).map λ d=>D.str (tx d))]++[.J (((D.str w::zn l).map tx).map D.str)]) (r:=(u++[O.J [D.str w]]++[O.J ((zn l).map λ d=>D.str (tx d))]).length) (c:=32) (sep:=[]) (ws:=(D.str w::zn l).map tx) zf (by unfold LIM;lia);have Y:=qF (s:=u++[.J [.str w]]++[.J ((zn l).map λ d=>D.str (tx d))]++[.J (((D.str w::zn l).map tx).map D.str)]) (r:=k) (l:=ws.map D.str) (v:=.str (ac6 [32] ((D.str w::zn l).map tx))) (za (za (za hk))) (by rw[ao];unfold LIM;lia);refine⟨[.J [.str w]]++[.J ((zn l).map λ d=>D.str (tx d))]++[.J (((D.str w::zn l).map tx).map D.str)],?_⟩;have J:ws.map D.str++[D.str (ac6 [32] ((D.str w::zn l).map tx))]=(ws++[al8 (.str w::zn l)]).map D.str:=by rw[cb];rfl
 rw[J]at Y;unfold turn cc1
 tbr_iter [an1,zK,sT,a2,e3,mk,ha,hj,Y]
 rw[ag,ag,ag]
def bu3 F (hk:u[k]?=some (.J (ws.map D.str)))(a8:ws.length<=1000)(ha:x.a<=9)(hb:x.b<=9)(ht:x.t<=9) x0 x1 x2 x3 x4 x5 x7 x8 x9 Z J a0 :
  turn F (.tp [9,10,11,12]) cf4 x.d [x0,x1,x2,x3,x4,x5,some (.ref k),x7,x8,x9,Z,J,a0] u=.ok (.next [x0,x1,x2,x3,x4,x5,some (.ref k),x7,x8,some (.int x.a),some (.str [x.l]),some (.int x.b),some (.int x.t)]) (u.set k (.J ((ws++[aJ5 x]).map D.str))):=by
 have G:x.d=.tp [.int x.a,.str [x.l],.int x.b,.int x.t]:=rfl;have f1:=au5 (.inl ⟨x.a,ha,rfl⟩) u;have f2:=au5 (.inl ⟨x.b,hb,rfl⟩) u;have f3:=au5 (.inl ⟨x.t,ht,rfl⟩) u;have a1:=ag2 (a:=[100,111,111,114,32]) (b:=tx (.int x.a)) (s:=u) (by unfold LIM tx;simp);have a2:=ag2 (a:=[100,111,111,114,32]++tx (.int x.a)) (b:=[32]) (s:=u) (by unfold LIM tx;simp);have a3:=ag2 (a:=[100,111,111,114,32]++tx (.int x.a)++[32]) (b:=[x.l]) (s:=u) (by unfold LIM tx;simp);have a4:=ag2 (a:=[100,111,111,114,32]++tx (.int x.a)++[32]++[x.l]) (b:=[32]) (s:=u) (by unfold LIM tx;simp);have a5:=ag2 (a:=[100,111,111,114,32]++tx (.int x.a)++[32]++[x.l]++[32]) (b:=tx (.int x.b)) (s:=u) (by unfold LIM tx;simp);have a6:=ag2 (a:=[100,111,111,114,32]++tx (.int x.a)++[32]++[x.l]++[32]++tx (.int x.b)) (b:=[32]) (s:=u) (by unfold LIM tx;simp);have a7:=ag2 (a:=[100,111,111,114,32]++tx (.int x.a)++[32]++[x.l]++[32]++tx (.int x.b)++[32]) (b:=tx (.int x.t)) (s:=u) (by unfold LIM tx;simp);have Y:[100,111,111,114,32]++tx (.int x.a)++[32]++[x.l]++[32]++tx (.int x.b)++[32]++tx (.int x.t)=aJ5 x:=rfl;rw[Y]at a7;have z:=qF (v:=.str (aJ5 x)) hk (by rw[ao];unfold LIM;lia);have y:ws.map D.str++[D.str (aJ5 x)]=(ws++[aJ5 x]).map D.str:=by rw[cb];rfl
 rw[y]at z;rw[G];unfold turn cf4
 tbr_iter [f1,f2,f3,a1,a2,a3,a4,a5,a6,a7,z]
section
variable {P:Pr} [Has P ac5]
def bc4  n (hm:m.Ok) s :(aa0 P (n+1)).call "_law_written" [m.d] s=.ok (.str (bA4 m)) s:=by
 have e0:(aa0 P (n+1)).call "_law_written" [m.d] s=_:=ze ac5 rfl;rw[e0,bw2,show(cg some [m.d]++ax ac5.vs none)=[some m.d,none,none,none,none,none,none,none,none,none,none,none,none]from rfl];have b4:m.d=.tp [.int m.L,.int m.R,.tp (zn m.bg),.tp (zn m.en),.tp (m.ds.map Dr.d)]:=rfl;have h3:=hm.L3;have h5:=hm.R5;have f1:=λ S=>au5 (.inl ⟨m.L,by omega,rfl⟩) S;have f2:=λ S=>au5 (.inl ⟨m.R,by omega,rfl⟩) S;have a1:∀ S,qK .add (.str [108,101,116,116,101,114,115,32]) (.str (tx (.int m.L))) S=.ok (.str (al8 [.str am1,.int m.L])) S:=λ S=>ag2 (by unfold LIM tx;simp);have a2:∀ S,qK .add (.str [114,111,111,109,115,32]) (.str (tx (.int m.R))) S=.ok (.str (al8 [.str qu,.int m.R])) S:=λ S=>ag2 (by unfold LIM tx;simp)
 let y:=[al8 [.str am1,.int m.L],al8 [.str qu,.int m.R]]
 let LT:List D:=[.tp [.str zR,.tp (zn m.bg)],.tp [.str tEnd,.tp (zn m.en)]]
 have b3:[D.str (al8 [.str am1,.int m.L]),.str (al8 [.str qu,.int m.R])]=y.map D.str:=rfl;have a9:[D.tp [.str zR,.tp (zn m.bg)],.tp [.str tEnd,.tp (zn m.en)]]=LT:=rfl;have a4:qg [some m.d,none,none,none,none,none,none,none,none,none,none,none,none] (.tp [1,2,3,4,5]) m.d=some [some m.d,some (.int m.L),some (.int m.R),some (.tp (zn m.bg)),some (.tp (zn m.en)),some (.tp (m.ds.map Dr.d)),none,none,none,none,none,none,none]:=rfl;have sq:qG (.ref (s++[O.J (y.map D.str)]).length) (s++[O.J (y.map D.str)]++[.J LT])=.ok ⟨LT,[(s++[O.J (y.map D.str)]).length]⟩ (s++[O.J (y.map D.str)]++[.J LT]):=by simp only[qG,zf]
 tbr_iter [a4,f1,f2,a1,a2,b3,a9,sq]
 rw[R.bind_assoc];have lb:=aN2 hm.bg hm.R5;have le:=aN2 hm.en hm.R5;have a0:∀ {l:List Nat},((∀ i∈l,i<m.R)/\l.Pairwise (· < ·))->∀ i∈l,i<=9:=λ h i hi=>by have:=h.1 i hi;lia
 refine ay3 (λ j U u=>∃ T Y Z ,u=s++T/\u[s.length]?=some (.J ((y++([al8 (.str zR::zn m.bg),al8 (.str tEnd::zn m.en)].take j)).map D.str))/\u[(s++[O.J (y.map D.str)]).length]?=some (.J LT)/\U=[some m.d,some (.int m.L),some (.int m.R),some (.tp (zn m.bg)),some (.tp (zn m.en)),some (.tp (m.ds.map Dr.d)),some (.ref s.length),Y,Z,none,none,none,none])
  ⟨[.J (y.map D.str),.J LT],_,_,by rw[ag];rfl,za zf,zf,rfl⟩ (λ _ _ u _ h=>?_) ?_ ?_
 .obtain⟨T,Y,Z,_,_,h,_⟩:=h;unfold chk;rw[ci,dQ,dz,h,zf];exact decide_eq_true rfl
 .rintro j d U u hj ⟨T,Y,Z,rfl,hk,hq,rfl⟩
  have a7:=(ah.mp hk).1;have b2:(s++[O.J (y.map D.str)]).length≠s.length:=by simp
  have fin:∀ {w l:List Nat} (z:Sto) {ws:List (List Nat)},ws=y++([al8 (.str zR::zn m.bg),al8 (.str tEnd::zn m.en)].take (j+1))->∀ a6 a5,∃(b0:Sto) (y7 y8:Option D),(s++T++z).set s.length (.J (ws.map D.str))=s++b0/\((s++T++z).set s.length (.J (ws.map D.str)))[s.length]?=some (.J ((y++([al8 (.str zR::zn m.bg),al8 (.str tEnd::zn m.en)].take (j+1))).map D.str))/\((s++T++z).set s.length (.J (ws.map D.str)))[(s++[O.J (y.map D.str)]).length]?=some (.J LT)/\[some m.d,some (.int m.L),some (.int m.R),some (.tp (zn m.bg)),some (.tp (zn m.en)),some (.tp (m.ds.map Dr.d)),some (.ref s.length),a6,a5,none,none,none,none]=[some m.d,some (.int m.L),some (.int m.R),some (.tp (zn m.bg)),some (.tp (zn m.en)),some (.tp (m.ds.map Dr.d)),some (.ref s.length),y7,y8,none,none,none,none]:=by
   intro w l z ws b1 a6 a5;subst b1;refine⟨(T++z).set 0 (.J _),_,_,by rw[ag,dE _ _ (av _),kc],?_,?_,rfl⟩
   .rw[aX (by rw[ar];lia)]
   .rw[bI (d7 b2)];exact za hq
  match j,hj with
  | 0,hj =>
   cases hj;obtain⟨z,e⟩:=aY5 (aa0 P n) hk (by simp[y]) (w:=zR) (by decide) (by lia) (a0 hm.bg) (some m.d) (some (.int m.L)) (some (.int m.R)) (some (.tp (zn m.bg))) (some (.tp (zn m.en))) (some (.tp (m.ds.map Dr.d))) Y Z none none none none;exact aJ3 e (fin (w:=[]) (l:=[]) z rfl _ _)
  | 1,hj =>
   cases hj;obtain⟨z,e⟩:=aY5 (aa0 P n) hk (by simp[y]) (w:=tEnd) (l:=m.en) (by decide) (by lia) (a0 hm.en) (some m.d) (some (.int m.L)) (some (.int m.R)) (some (.tp (zn m.bg))) (some (.tp (zn m.en))) (some (.tp (m.ds.map Dr.d))) Y Z none none none none;exact aJ3 e (fin (w:=[]) (l:=[]) z rfl _ _)
  | j+2,hj=>cases hj
 rintro U u ⟨T,Y,Z,rfl,hk,hq,rfl⟩
 have hk:(s++T)[s.length]?=some (.J (((qh m).take 4).map al8 |>.map D.str)):=hk;have sD:∀ S,qG (.tp (m.ds.map Dr.d)) S=.ok ⟨m.ds.map Dr.d,[]⟩ S:=λ _=>rfl
 tbr_iter [sD]
 rw[R.bind_assoc];have b5:=hm.ds.2;refine ay3 (λ j U u=>∃(T:Sto) (x9 G F J:Option D),u=s++T/\u[s.length]?=some (.J ((((qh m).take 4).map al8++(m.ds.take j).map aJ5).map D.str))/\U=[some m.d,some (.int m.L),some (.int m.R),some (.tp (zn m.bg)),some (.tp (zn m.en)),some (.tp (m.ds.map Dr.d)),some (.ref s.length),Y,Z,x9,G,F,J])
  ⟨T,_,_,_,_,rfl,by rw[iX,eM,az];exact hk,rfl⟩ (λ _ _ _ _ _=>rfl) ?_ ?_
 .rintro j d U u hj ⟨T,x9,G,F,J,rfl,hk,rfl⟩
  obtain⟨x,hx,rfl⟩:∃ x,m.ds[j]?=some x/\d=x.d:=by
   rw[aY]at hj;cases e:m.ds[j]? with
   | none=>rw[e]at hj;cases hj
   | some x=>rw[e]at hj;cases hj;exact⟨x,rfl,rfl⟩
  have b6:j<m.ds.length:=(ah.mp hx).1;have hok:=hm.ds.1 x (aG hx);have:=hok.a;have:=hok.b;have:=hok.t;have a8:m.ds.take (j+1)=m.ds.take j++[x]:=by
   have q:m.ds[j]=x:=(ah.mp hx).2;rw[<-q,List.take_append_getElem]
  have a7:s.length<(s++T).length:=(ah.mp hk).1;have e:=bu3 (aa0 P n) hk (by rw[ar,ao,ao,aQ,aQ];lia) (x:=x) (by lia) (by lia) (by lia) (some m.d) (some (.int m.L)) (some (.int m.R)) (some (.tp (zn m.bg))) (some (.tp (zn m.en))) (some (.tp (m.ds.map Dr.d))) Y Z x9 G F J;refine aJ3 e ⟨T.set 0 (.J _),_,_,_,_,by rw[dE _ _ (av _),kc],?_,rfl⟩;rw[aX a7,a8];simp
 .rintro U u ⟨T,x9,G,F,J,rfl,hk,rfl⟩
  rw[ao,List.take_length]at hk;have a3:((qh m).take 4).map al8++m.ds.map aJ5=(qh m).map al8:=by
   have h4:(qh m).take 4=[[.str am1,.int m.L],[.str qu,.int m.R],.str zR::zn m.bg,.str tEnd::zn m.en]:=rfl;rw[h4];unfold qh;rw[cb,ce];rfl
  rw[a3]at hk;have hj:=aJ4 (c:=10) (sep:=[]) hk (by have:=bm9 hm;unfold LIM;lia)
  tbr_iter [an1,hj]
  exact qi (d:=.str _) (λ _=>rfl) (by nofun)
end
abbrev as0:List D:=[.str am1,.str qu,.str zR,.str tEnd]
noncomputable abbrev au3:List D:=[.str [48],.str [49],.str [50],.str [51],.str [52],.str [53],.str [54],.str [55],.str [56],.str [57]]
def ten (h:k<=9):k=0\/k=1\/k=2\/k=3\/k=4\/k=5\/k=6\/k=7\/k=8\/k=9:=by lia
def ev_slL' a z :ev F (.slL a z) U s=(ev F a U s).bind λ x s=>(ev F z U s).bind λ y s=>match y with|.int i=>slM x (some i) none s|_=>.B:=rfl
def zO a z :ev F (.slU a z) U s=(ev F a U s).bind λ x s=>(ev F z U s).bind λ y s=>match y with|.int i=>slM x none (some i) s|_=>.B:=rfl
section
variable {P:Pr} [HasC P "FIGURES" (.tp au3)] [HasC P "HEADS" (.tp as0)] [Has P aa2] [Has P aa6] [Has P aa5] [Has P aa8]
def aE7  n  U  s :ev (aa0 P n) (.gl "FIGURES") U s=.ok (.tp au3) s:=by
 show(match(aa0 P n).con "FIGURES" with|some d=>R.ok d s|none=>.B)=_;rw[ay2 (v:=.tp au3)]
def ap2  n (hk:k<=9) s :(aa0 P (n+1)).call "read_figure" [.str [48+k]] s=.ok (.int (k)) s:=by
 have e0:(aa0 P (n+1)).call "read_figure" [.str [48+k]] s=_:=ze aa2 rfl;rw[e0,show(cg some [D.str [48+k]]++ax aa2.vs none)=[some (.str [48+k])]from rfl];have F:zQ .notin (.str [48+k]) (.tp au3) s=.ok (.T false) s:=by
  rcases ten hk with h|h|h|h|h|h|h|h|h|h<;>subst h<;>rfl
 have y:bi .int [.str [48+k]] s=.ok (.int (k)) s:=by
  rcases ten hk with h|h|h|h|h|h|h|h|h|h<;>subst h<;>rfl
 have z:=λ U S=>aE7 (P:=P) n U S
 tbr_iter [aa2,z,F,y]
 exact aC9
def aX5  n { k:Nat}(hk:k<=9)(h:s[a]?=some (.J [.str w,.str [48+k]])):(aa0 P (n+2)).call "read_number" [.ref a] s=.ok (.int (k)) s:=by
 have e0:(aa0 P (n+2)).call "read_number" [.ref a] s=_:=ze aa6 rfl;rw[e0,show(cg some [D.ref a]++ax aa6.vs none)=[some (.ref a)]from rfl];have hl:=aI3 h;have y:bi .len [.ref a] s=.ok (.int 2) s:=hl;have F:ixM (.ref a) (.int 1) s=.ok (.str [48+k]) s:=ai4 h rfl;have hf:=ap2 (P:=P) n hk s;have z:decide ((2)=2)=true:=rfl
 tbr_iter [aa6,y,z,F,hf]
 exact aC9
def aT5  n (hf:∀ i∈l,i<=9)(hl:l.length<=100000)(h:s[a]?=some (.J (t::l.map λ i=>.str [48+i]))):(aa0 P (n+2)).call "read_numbers" [.ref a] s=.ok (.tp (zn l)) s:=by
 have e0:(aa0 P (n+2)).call "read_numbers" [.ref a] s=_:=ze aa5 rfl;rw[e0,show(cg some [D.ref a]++ax aa5.vs none)=[some (.ref a)]from rfl];have y:slM (.ref a) (some 1) none s=.ok (.ref s.length) (s++[.J (l.map λ i=>D.str [48+i])]):=by
  unfold slM;simp only[h,zT,bX9,jp,cB]
 have Y:qG (.ref s.length) (s++[.J (l.map λ i=>D.str [48+i])])=.ok ⟨l.map λ i=>D.str [48+i],[s.length]⟩ (s++[.J (l.map λ i=>D.str [48+i])]):=by simp only[qG,zf]
 have z:(l.map λ i=>D.str [48+i]).length<=LIM:=by rw[ao];unfold LIM;lia
 obtain⟨U3,s3,e3,J,_⟩:=an4 (ok:=λ F=>chk (s++[.J (l.map λ i=>D.str [48+i])]) F [s.length]) (g:=ac3 (aa0 P (n+1)) (.Y 0) (.call "read_figure" (.ex (.X 0) .nil))) (λ U u=>u=s++[.J (l.map λ i=>D.str [48+i])]/\∃ x,U=[x]) (λ d=>match d with|.str [c]=>some (.int ((c - 48:Nat):Int))|_=>none) (l.map λ i=>D.str [48+i]) (zJ [some (.ref a)] [none]) (s++[.J (l.map λ i=>D.str [48+i])]) ⟨rfl,none,rfl⟩ (λ _ _ h=>by rw[h.1];simp[chk]) (by
  rintro d hd U u ⟨rfl,x,rfl⟩
  obtain⟨i,Z,rfl⟩:=aN.mp hd;refine⟨[some (.str [48+i])],s++[.J (l.map λ i=>D.str [48+i])],?_,rfl,_,rfl⟩;have hg:=ap2 (P:=P) n (hf i Z) (s++[.J (l.map λ i=>D.str [48+i])]);unfold ac3
  tbr_iter [hg]
  show R.ok (some (D.int (i:Int)),_) _=R.ok (some (D.int ((48+i - 48:Nat):Int)),_) _;rw[show 48+i - 48=i by lia])
 have G:(l.map λ i=>D.str [48+i]).filterMap (λ d=>match d with|.str [c]=>some (D.int ((c - 48:Nat):Int))|_=>none)=zn l:=by
  unfold zn;rw[gd,<-io];refine al1 λ i _=>?_;show some (D.int ((48+i - 48:Nat):Int))=some (D.int (i:Int));rw[show 48+i - 48=i by omega]
 rw[J,G]at e3
 tbr_iter [aa5,zK,ev_slL',y,Y,z,e3,mk]
 exact qi (d:=.tp (zn l)) (λ m=>by unfold D.bnd;exact zS am4 m) (by nofun)
end
theorem aR2 F :∀(ws:List (List Nat)) x S ,(∀ T,ok (S++T)=true)->(∀ w∈ws,w.length+2<=LIM) ->
  ae5 ok (ac3 F (.Y 0) (.spl (.X 0) 32)) (ws.map D.str) [x] S=.ok ((bE ws.length).map λ i=>D.ref (S.length+i)) (S++ws.map λ w=>O.J ((aa4 32 w).map D.str))
 | [],x,S,ho,_=>by
  have h0:=ho [];rw[az]at h0;show(if ok S then R.ok [] S else .B)=_;rw[if_pos h0];simp
 | w::ws,x,S,ho,hl=>by
  have h0:=ho [];rw[az]at h0;have G:=aR2 F ws (some (.str w)) (S++[.J ((aa4 32 w).map D.str)]) (λ T=>by rw[ag];exact ho _) λ y hy=>hl y (ai _ hy);have hg:ac3 F (.Y 0) (.spl (.X 0) 32) (.str w) [x] S=.ok (some (.ref S.length),[some (.str w)]) (S++[.J ((aa4 32 w).map D.str)]):=by
   have z:bt5 32 (.str w) S=.ok (.ref S.length) (S++[.J ((aa4 32 w).map D.str)]):=by
    show(if w.length+2<=LIM then af4 (.J ((aa4 32 w).map D.str)) S else .B)=_;rw[if_pos (hl w (au ..))];rfl
   unfold ac3
   tbr_iter [aN4,z]
  show(if ok S then(ac3 F (.Y 0) (.spl (.X 0) 32) (.str w) [x] S).bind λ p s=>(ae5 ok (ac3 F (.Y 0) (.spl (.X 0) 32)) (ws.map D.str) p.2 s).bind λ r s=>R.ok (match p.1 with|some v=>v::r|none=>r) s else .B)=_;rw[if_pos h0,hg];simp only[R.bind_ok];rw[G];simp only[R.bind_ok,ar,aE,eQ,aF,ce,ka,ag,eW]
  congr 2
  refine jm λ i _=>?_;show D.ref _=D.ref _
  congr 1
  show S.length+(0+1)+i=S.length+(i+1);lia
def bY6 {l:List D}{k:Nat}:ak0 l none (some (k))=l.take (min k l.length):=by
 unfold ak0;simp only[loB,hiB,sbd,jN,if_true,cr,cB,ke]
def ce7 {l:List D}{k:Nat}:ak0 l (some (k)) none=(l.drop (min k l.length)).take (l.length - min k l.length):=by
 unfold ak0;simp only[loB,hiB,sbd,jN,if_true,cr]
section
variable {P:Pr} [HasC P "FIGURES" (.tp au3)] [HasC P "HEADS" (.tp as0)] [Has P aa2] [Has P aa6] [Has P aa5] [Has P aa8] [Has P ab2]
 [Has P ab0] [Has P ab1] [Has P ab9] [Has P ab5] [Has P ac1] [Has P ab4] [Has P aa3] [Has P ab7] [HasC P "LETTERS" (.tp aK3)] [HasC P "MOST_TOLL" (.int 3)] [HasC P "MOST_DOORS" (.int 75)] [HasC P "MOST_ROOMS" (.int 5)]
end
class HasX (P:Pr)(f:String)(d:Xf):Prop where
 at_:P.xf f=some d
class HasT (P:Pr)(f:String)(d:Tf):Prop where
 no:P.df f=none
 at_:P.tf f=some d
class HasE (P:Pr)(c:String)(ts:List String):Prop where
 at_:P.xc c=true
 ts:∀ t∈ts,P.xt t=true
def qA d [h:HasX P f d](hl:l.length=d.ps):(aa0 P (n+1)).xcall f l s=xB (aa0 P n) d.body (l.map some++ax d.vs none) s:=by
 show(match P.xf f with|some d=>if l.length=d.ps then xB (aa0 P n) d.body (l.map some++ax d.vs none) s else none|none=>none)=_;rw[h.at_];exact if_pos hl
def bu8 d [h:HasT P f d](hl:l.length=d.ps):(aa0 P (n+1)).call f l s=bw5 (aa0 P n) d l s:=by
 have e:(aa0 P (n+1)).call f l s=match P.df f with
   | some d=>if l.length=d.ps then(exs (aa0 P n) d.body (l.map some++ax d.vs none) s).bind λ c s'=>match c with
     | .ret v=>zw s v s'
     | .next _=>zw s .N s'
     | _=>.B else .B
   | none=>match P.tf f with
    | some d=>if l.length=d.ps then bw5 (aa0 P n) d l s else .B
    | none=>.B:=rfl
 rw[e,h.no];rw[h.at_];exact if_pos hl
def bi4 (h:d.pre=.nil):bw5 F d l s=bo1 F d s (l.map some++ax d.vs none) s:=by
 unfold bw5;rw[h];rfl
def aU2 :(aa0 P n).xc=P.xc/\(aa0 P n).xt=P.xt:=by cases n<;>exact⟨rfl,rfl⟩
def bw6 {s:Sto}:(s++[o])[s.length]?=some o:=by simp
def TxR (m:Nat)(s:Sto)(r:Nat)(x:R D):Prop:=∃ w b ,w.length<=m/\x=.ok (.str w) (s.set r (zh b))
def ay4 (h:a.length+b.length<=LIM):qK .add (.str a) (.str b) s=.ok (.str (a++b)) s:=by
 show(if a.length+b.length<=LIM then pur (.str (a++b))else bad) s=_;rw[if_pos h];rfl
def aP9 (h:o.bnd u.length=true):zw u (.ref (u++T).length) (u++T++[o])=.ok (.ref u.length) (u++[o]):=by
 have:=aD9 (t:=T) (u:=[]) h
 rwa [ar,ag]
noncomputable def an7:Xf:=⟨1,1,.kind⟩
noncomputable def qT:List Nat:=[116,101,120,116]
def bY9 [h:HasX P f an7]:(aa0 P n).kd f=true:=by
 have e:(aa0 P n).kd=bE8 P:=by cases n<;>rfl
 rw[e];unfold bE8;rw[h.at_];rfl
def bv5 (ha:s[a]?=some (.J l))(hb:s[b]?=some (.J l))(h:eqL (eqv s 29) l l=some true):zQ .ne (.ref a) (.ref b) s=.ok (.T false) s:=by
 have e:eqv s DEEP (.ref a) (.ref b)=some true:=by
  show(match s[a]?,s[b]? with
   | some (.J l),some (.J m)=>if l.length=m.length then eqL (eqv s 29) l m else some false
   | _,_=>none)=_
  rw[ha,hb];show(if l.length=l.length then eqL (eqv s 29) l l else some false)=_;rw[if_pos rfl,h]
 show(match eqv s DEEP (.ref a) (.ref b)with|some r=>R.ok (D.T (!r)) s|none=>.B)=_;rw[e];rfl
def aR7 { T:Sto}{ x:O}(ho:o.bnd s.length=true)(hx:x.bnd s.length=true):zw s (.ref (s.set r o++T).length) (s.set r o++T++[x])=.ok (.ref s.length) (s.set r o++[x]):=by
 unfold zw;rw[ag,aF9 s (T++[x]) r o ho,if_pos rfl];have z:¬(s.set r o++T).length<s.length:=by simp
 have y:(s.set r o++(T++[x]))[(s.set r o++T).length]?=some x:=by rw[<-ag];exact bw6
 simp only[z,if_false,y,hx,if_true];rw[fz (by simp),bU (by simp)]
def ar9 {Uu:Sto}(h:i≠r)(g:Uu[i]?=some x):(Uu.set r o)[i]?=some x:=by rw[bI (d7 h)];exact g
def aZ0 :exs F (.cons st .nil) U s=ex F st U s:=by
 rw[zb];cases h:ex F st U s with
 | ok c s=>cases c<;>rfl
 | B=>rfl
 | exc=>rfl
noncomputable def fig:List Nat->Option Nat
 | [c]=>if 48<=c/\c<=57 then some (c - 48)else none
 | _=>none
def ar4 (h:fig w=some k):k<=9/\w=[48+k]:=by
 match w,h with
 | [c],h =>
  change(if 48<=c/\c<=57 then some (c - 48)else none)=_ at h;split at h
  .rename_i hc;cases h;exact⟨by omega,by rw[show 48+(c - 48)=c by omega]⟩
  .cases h
theorem aH2 s w :∀ l:List (List Nat),inL s (.str w) (l.map D.str)=some (l.any λ x=>x==w)
 | []=>rfl
 | x::l=>by
  show(match eqv s DEEP (.str x) (.str w),inL s (.str w) (l.map D.str)with|some a,some b=>some (a||b)|_,_=>none)=_;rw[aH2 s w l];rfl
noncomputable def aJ2:List (List Nat):=[[48],[49],[50],[51],[52],[53],[54],[55],[56],[57]]
def aQ1 w :(aJ2.any λ x=>x==w)=(fig w).isSome:=by
 cases h:fig w with
 | some k =>
  obtain⟨hk,rfl⟩:=ar4 h;rcases ten hk with h|h|h|h|h|h|h|h|h|h<;>subst h<;>rfl
 | none =>
  rw[Option.isSome_none,jR];intro x hx e;have e:=eq_of_beq e;subst e;unfold aJ2 at hx;simp only[aw,aR,or_false]at hx;rcases hx with rfl|rfl|rfl|rfl|rfl|rfl|rfl|rfl|rfl|rfl<;>cases h
def aE2 w s :zQ .notin (.str w) (.tp au3) s=.ok (.T (fig w).isNone) s:=by
 have e:inM (.str w) (.tp au3) s=.ok (fig w).isSome s:=by
  show(match inL s (.str w) (aJ2.map D.str)with|some r=>R.ok r s|none=>.B)=_;rw[aH2,aQ1]
 show(inM (.str w) (.tp au3) s).bind (λ r s=>R.ok (D.T (!r)) s)=_;rw[e];cases fig w<;>rfl
noncomputable abbrev KX:List String:=["NoMaking", "NoName", "NoPair", "NoPaper", "NoRow", "NoText", "NotSteady", "TollError", "TooLong", "TooMuch"]
noncomputable def ac7:Xf:=⟨1,0,.iteT (.Z .notin (.X 0) (.gl "FIGURES")) (.rais "NoText") .no⟩
noncomputable def ad3:Xf:=⟨1,0,.iteT (.Z .ne (.bi .len (.cons (.X 0) .nil)) (.K (.int 2))) (.rais "NoText") (.call "read_figure" (.ex (.ix (.X 0) (.K (.int 1))) .nil))⟩
noncomputable def ac2:Xf:=⟨1,0,.xret (.tcomp (.Y 0) (.seq (.slL (.X 0) (.K (.int 1)))) (.call "read_figure" (.ex (.X 0) .nil)) "read_figure" (.ex (.X 0) .nil) [none])⟩
noncomputable def ag5:Xf:=⟨1,0,.iteT (.or (.Z .ne (.bi .len (.cons (.X 0) .nil)) (.K (.int 5))) (.Z .ne (.ix (.X 0) (.K (.int 0))) (.K (.str [100,111,111,114])))) (.rais "NoText") (.alt (.xret (.tp .nil (.call "read_figure" (.ex (.ix (.X 0) (.K (.int 1))) .nil)))) (.alt (.xret (.tp (.cons (.call "read_figure" (.ex (.ix (.X 0) (.K (.int 1))) .nil)) (.cons (.ix (.X 0) (.K (.int 2))) .nil)) (.call "read_figure" (.ex (.ix (.X 0) (.K (.int 3))) .nil)))) (.xret (.tp (.cons (.call "read_figure" (.ex (.ix (.X 0) (.K (.int 1))) .nil)) (.cons (.ix (.X 0) (.K (.int 2))) (.cons (.call "read_figure" (.ex (.ix (.X 0) (.K (.int 3))) .nil)) .nil))) (.call "read_figure" (.ex (.ix (.X 0) (.K (.int 4))) .nil))))))⟩
section
variable {F:Fns} {U:Env} {s s1:Sto} {l:List D}
def aF2 (h:F.xc c=true):xB F (.rais c) U s=some (c,s):=if_pos h
def bK9 (h:ev F c U s=.ok (.T b) s1):xB F (.iteT c a r) U s=if b then xB F a U s1 else xB F r U s1:=by
 show(match ev F c U s with|.ok (.T b) s1=>if b then xB F a U s1 else xB F r U s1|_=>none)=_;rw[h]
def az0 (h:ag7 F y U s=.ok l s1):xB F (.call f y) U s=F.xcall f l s1:=by
 show(match ag7 F y U s with|.ok l s1=>F.xcall f l s1|_=>none)=_;rw[h]
def aH3 :xB F (.alt a b) U s=match xB F a U s with|some r=>some r|none=>xB F b U s:=rfl
def aU1 (h:ex F a U s=.ok (.next U1) s1):xB F (.seq a b) U s=xB F b U1 s1:=by
 show(match ex F a U s with|.ok (.next U1) s1=>xB F b U1 s1|_=>none)=_;rw[h]
def ba3 (h:evs F es U s=.ok l s1)(G:ag7 F y U s1=.ok z s2):xE F (.tp es (.call f y)) U s=F.xcall f z s2:=by
 show(match evs F es U s with|.ok _ s1=>(match ag7 F y U s1 with|.ok l s1=>F.xcall f l s1|_=>none)|_=>none)=_;rw[h];show(match ag7 F y U s1 with|.ok l s1=>F.xcall f l s1|_=>none)=_;rw[G]
end
section
variable {P:Pr} [HasC P "FIGURES" (.tp au3)] [Has P aa2] [HasX P "read_figure" ac7] [hE:HasE P "NoText" KX]
omit [Has P aa2]in
def ai6 (n:Nat)(w:List Nat)(s:Sto):(aa0 P (n+1)).xcall "read_figure" [.str w] s=if(fig w).isNone then some ("NoText",s)else none:=by
 rw[qA ac7 (n:=n) rfl];show xB (aa0 P n) (.iteT (.Z .notin (.X 0) (.gl "FIGURES")) (.rais "NoText") .no) [some (.str w)] s=_;have hx:(aa0 P n).xc "NoText"=true:=by rw[aU2.1];exact hE.at_
 have y:∀ U S,ev (aa0 P n) (.gl "FIGURES") U S=.ok (.tp au3) S:=λ U S=>by
  show(match(aa0 P n).con "FIGURES" with|some d=>R.ok d S|none=>.B)=_;rw[ay2 (v:=.tp au3)]
 have e:ev (aa0 P n) (.Z .notin (.X 0) (.gl "FIGURES")) [some (.str w)] s=.ok (.T (fig w).isNone) s:=by
  have:=aE2 w s
  tbr_iter [y,this]
 rw[bK9 e,aF2 hx];rfl
end
def nmb:List (List Nat)->Option Nat
 | [_,w]=>fig w
 | _=>none
def fgs:List (List Nat)->Option (List Nat)
 | []=>some []
 | w::ws=>match fig w,fgs ws with|some k,some l=>some (k::l)|_,_=>none
noncomputable abbrev Dx:=Nat×List Nat×Nat×Nat
def dor:List (List Nat)->Option Dx
 | [h,a,w,b,t]=>if h=zH then(match fig a,fig b,fig t with|some i,some j,some k=>some (i,w,j,k)|_,_,_=>none)else none
 | _=>none
noncomputable def dD (x:Dx):D:=.tp [.int x.1,.str x.2.1,.int x.2.2.1,.int x.2.2.2]
theorem aI1:∀ {ws} {l},fgs ws=some l->ws=l.map (λ i=>[48+i])/\∀ i∈l,i<=9
 | [],l,h=>by cases h;exact⟨rfl,λ i y=>by cases y⟩
 | w::ws,l,h=>by
  change(match fig w,fgs ws with|some k,some l=>some (k::l)|_,_=>none)=_ at h;cases e1:fig w with
  | none=>rw[e1]at h;cases h
  | some k =>
   cases e2:fgs ws with
   | none=>rw[e1,e2]at h;cases h
   | some l' =>
    rw[e1,e2]at h;cases h;obtain⟨G,F⟩:=aI1 e2;obtain⟨hk,rfl⟩:=ar4 e1;exact⟨by rw[aF,<-G],λ i y=>(aw.mp y).elim (λ z=>by rw[z];exact hk) (F i)⟩
def bi3 {r:List (List Nat)}(h:s[a]?=some (.J (r.map D.str))):bi .len [.ref a] s=.ok (.int r.length) s:=by
 have:=aI3 h
 rwa [ao]at this
def qy {r:List (List Nat)}(h:s[a]?=some (.J (r.map D.str))){j:Nat}(hw:r[j]?=some w):ixM (.ref a) (.int (j)) s=.ok (.str w) s:=ai4 h (by rw[aY,hw];rfl)
section
variable {P:Pr} [HasC P "FIGURES" (.tp au3)] [HasC P "HEADS" (.tp as0)] [Has P aa2] [Has P aa6] [Has P aa5] [Has P aa8] [HasX P "read_figure" ac7] [HasX P "read_number" ad3] [HasX P "read_numbers" ac2] [HasX P "read_door" ag5] [hE:HasE P "NoText" KX]
include hE
def zU  n (h:fig w=some k) s :(aa0 P (n+1)).call "read_figure" [.str w] s=.ok (.int (k)) s:=by
 obtain⟨hk,rfl⟩:=ar4 h;exact ap2 n hk s
def an2  n (h:fig w=none) s :(aa0 P (n+1)).call "read_figure" [.str w] s=.B:=by
 have e0:(aa0 P (n+1)).call "read_figure" [.str w] s=_:=ze aa2 rfl;rw[e0,show(cg some [D.str w]++ax aa2.vs none)=[some (.str w)]from rfl];have y:=aE2 w s;rw[h]at y;have y:zQ .notin (.str w) (.tp au3) s=.ok (.T true) s:=y;have z:=λ U S=>aE7 (P:=P) n U S;have er:∀ U S,ex (aa0 P n) .raise U S=.B:=λ _ _=>rfl
 tbr_iter [aa2,z,y,er,R.bind_bad]
def aR3  n (hr:nmb r=some k)(h:s[a]?=some (.J (r.map D.str))):(aa0 P (n+2)).call "read_number" [.ref a] s=.ok (.int (k)) s:=by
 match r,hr with
 | [x,w],hr =>
  obtain⟨hk,rfl⟩:=ar4 (hr);exact aX5 n hk h
def aO1  n (h:s[a]?=some (.J (r.map D.str))):(aa0 P (n+2)).xcall "read_number" [.ref a] s=if(nmb r).isNone then some ("NoText",s)else none:=by
 rw[qA ad3 rfl];show xB (aa0 P (n+1)) (.iteT (.Z .ne (.bi .len (.cons (.X 0) .nil)) (.K (.int 2))) (.rais "NoText") (.call "read_figure" (.ex (.ix (.X 0) (.K (.int 1))) .nil))) [some (.ref a)] s=_;have hx:(aa0 P (n+1)).xc "NoText"=true:=by rw[aU2.1];exact hE.at_
 have hl:=bi3 h;have e:ev (aa0 P (n+1)) (.Z .ne (.bi .len (.cons (.X 0) .nil)) (.K (.int 2))) [some (.ref a)] s=.ok (.T (!decide ((r.length:Int)=2))) s:=by tbr_iter [hl]
 rw[bK9 e,aF2 hx];by_cases hr:r.length=2
 .match r,hr with
  | [x,w],hr =>
   have z:ixM (.ref a) (.int 1) s=.ok (.str w) s:=qy h rfl;have y:ag7 (aa0 P (n+1)) (.ex (.ix (.X 0) (.K (.int 1))) .nil) [some (.ref a)] s=.ok [.str w] s:=by tbr_iter [z]
   rw[az0 y,ai6];rfl
 .rw[decide_eq_false (by lia)];have:nmb r=none:=by
   match r,hr with
   | [],_=>rfl
   | [_],_=>rfl
   | [_,_],hr=>exact absurd rfl hr
   | _::_::_::_,_=>rfl
  rw[this];rfl
def aD5  n (hw:fgs ws=some l)(hl:ws.length<=100000)(h:s[a]?=some (.J (t::ws.map D.str))):(aa0 P (n+2)).call "read_numbers" [.ref a] s=.ok (.tp (zn l)) s:=by
 obtain⟨rfl,y⟩:=aI1 hw;rw[ce]at h;exact aT5 n y (by rwa [ao]at hl) h
theorem bg5 n {S}(ho:ok S=true):∀ ws x ,ah2 ok (λ d U s=>match qg U (.Y 0) d with
  | some U=>(ev (aa0 P (n+1)) (.call "read_figure" (.ex (.X 0) .nil)) U s).bind λ _ s=>.ok U s
  | none=>.B) (λ d U s=>match qg U (.Y 0) d with
  | some U=>match ag7 (aa0 P (n+1)) (.ex (.X 0) .nil) U s with|.ok l s1=>(aa0 P (n+1)).xcall "read_figure" l s1|_=>none
  | none=>none) (ws.map D.str) [x] S=if(fgs ws).isNone then some ("NoText",S)else none
 | [],x=>rfl
 | w::ws,x=>by
  have z:=bg5 n ho ws (some (.str w));rw[aF];unfold ah2;rw[if_pos ho];have hb:qg [x] (.Y 0) (.str w)=some [some (.str w)]:=rfl;have hf:fgs (w::ws)=match fig w,fgs ws with|some k,some l=>some (k::l)|_,_=>none:=rfl
  simp only[hb];cases e:fig w with
  | some k =>
   have e1:=zU (P:=P) n e S;have e2:(ev (aa0 P (n+1)) (.call "read_figure" (.ex (.X 0) .nil)) [some (.str w)] S).bind (λ _ s=>R.ok [some (D.str w)] s)=.ok [some (.str w)] S:=by tbr_iter [e1]
   rw[e2];show ah2 ok _ _ (ws.map D.str) [some (.str w)] S=_;rw[z,hf,e];cases fgs ws<;>rfl
  | none =>
   have e1:=an2 (P:=P) n e S;have e2:(ev (aa0 P (n+1)) (.call "read_figure" (.ex (.X 0) .nil)) [some (.str w)] S).bind (λ _ s=>R.ok [some (D.str w)] s)=.B:=by tbr_iter [e1,R.bind_bad]
   rw[e2];have e3:ag7 (aa0 P (n+1)) (.ex (.X 0) .nil) [some (.str w)] S=.ok [.str w] S:=by tbr_iter []
   have y:=ai6 (P:=P) n w S;rw[hf,e];rw[e3];show(aa0 P (n+1)).xcall "read_figure" [.str w] S=_;rw[y,e];cases fgs ws<;>rfl
def aD3  n (hl:ws.length<=100000)(h:s[a]?=some (.J (t::ws.map D.str))):(aa0 P (n+2)).xcall "read_numbers" [.ref a] s=if(fgs ws).isNone then some ("NoText",s++[.J (ws.map D.str)])else none:=by
 rw[qA ac2 rfl];show xE (aa0 P (n+1)) (.tcomp (.Y 0) (.seq (.slL (.X 0) (.K (.int 1)))) (.call "read_figure" (.ex (.X 0) .nil)) "read_figure" (.ex (.X 0) .nil) [none]) [some (.ref a)] s=_;have y:slM (.ref a) (some 1) none s=.ok (.ref s.length) (s++[.J (ws.map D.str)]):=by
  unfold slM;simp only[h,zT,bX9,jp,cB]
 have G:qG (.ref s.length) (s++[.J (ws.map D.str)])=.ok ⟨ws.map D.str,[s.length]⟩ (s++[.J (ws.map D.str)]):=by simp only[qG,zf]
 have F:evI (aa0 P (n+1)) (.seq (.slL (.X 0) (.K (.int 1)))) [some (.ref a)] s=.ok ⟨ws.map D.str,[s.length]⟩ (s++[.J (ws.map D.str)]):=by tbr_iter [ev_slL',y,G]
 have key:=bg5 (P:=P) n (ok:=λ z=>chk (s++[.J (ws.map D.str)]) z [s.length]) (S:=s++[.J (ws.map D.str)]) (by simp[chk]) ws none;unfold xE;rw[F];show(if(ws.map D.str).length<=LIM then _ else none)=_;rw[if_pos (by rw[ao];unfold LIM;lia)];exact key
end
def bB7 a b s :zQ .ne (.str a) (.str b) s=.ok (.T (!(a==b))) s:=rfl
def az2 (h:r.length≠5):dor r=none:=by
 match r,h with
 | [],_=>rfl
 | [_],_=>rfl
 | [_,_],_=>rfl
 | [_,_,_],_=>rfl
 | [_,_,_,_],_=>rfl
 | [_,_,_,_,_],h=>exact absurd rfl h
 | _::_::_::_::_::_::_,_=>rfl
def aK7 {r:List (List Nat)}(h:r.length=5):∃ x a w b t,r=[x,a,w,b,t]:=by
 match r,h with
 | [x,a,w,b,t],_=>exact⟨x,a,w,b,t,rfl⟩
section
variable {P:Pr} [HasC P "FIGURES" (.tp au3)] [HasC P "HEADS" (.tp as0)] [Has P aa2] [Has P aa6] [Has P aa5] [Has P aa8] [HasX P "read_figure" ac7] [HasX P "read_number" ad3] [HasX P "read_numbers" ac2] [HasX P "read_door" ag5] [hE:HasE P "NoText" KX]
include hE
def az8 F (h0:r≠[])(h:s[a]?=some (.J (r.map D.str))):ev F (.or (.Z .ne (.bi .len (.cons (.X 0) .nil)) (.K (.int 5))) (.Z .ne (.ix (.X 0) (.K (.int 0))) (.K (.str [100,111,111,114])))) [some (.ref a)] s=.ok (.T (!decide (r.length=5/\r.head?=some zH))) s:=by
 have hl:=bi3 h;cases r with
 | nil=>exact absurd rfl h0
 | cons x r =>
  have z:ixM (.ref a) (.int 0) s=.ok (.str x) s:=qy h rfl;have hn:=bB7 x zH s;by_cases h5:(x::r).length=5
  .have y:decide (((x::r).length:Int)=5)=true:=decide_eq_true (by lia);have e1:(!decide ((x::r).length=5/\(x::r).head?=some zH))=!(x==zH):=by
    congr 1
    by_cases hx:x=zH
    .rw[hx];simp[];rw[hx]at h5;simpa using h5
    .simp[hx]
   rw[e1]
   tbr_iter [hl,y,z,hn]
  .have y:decide (((x::r).length:Int)=5)=false:=decide_eq_false (by lia);have e1:(!decide ((x::r).length=5/\(x::r).head?=some zH))=true:=by simp only[h5,false_and,decide_false,Bool.not_false]
   rw[e1]
   tbr_iter [hl,y]
def bs1  n (hr:dor r=some x)(h:s[a]?=some (.J (r.map D.str))):(aa0 P (n+2)).call "read_door" [.ref a] s=.ok (dD x) s:=by
 have e0:(aa0 P (n+2)).call "read_door" [.ref a] s=_:=ze aa8 rfl;rw[e0,show(cg some [D.ref a]++ax aa8.vs none)=[some (.ref a)]from rfl];have h5:r.length=5:=by
  by_cases z:r.length=5
  .exact z
  .rw[az2 z]at hr;cases hr
 obtain⟨y,p,w,q,t,rfl⟩:=aK7 h5;change(if y=zH then(match fig p,fig q,fig t with|some i,some j,some k=>some (i,w,j,k)|_,_,_=>none)else none)=_ at hr;split at hr
 case isFalse=>cases hr
 rename_i hy;subst hy;cases e1:fig p with
 | none=>rw[e1]at hr;cases hr
 | some i=>cases e2:fig q with
  | none=>rw[e1,e2]at hr;cases hr
  | some j=>cases e3:fig t with
   | none=>rw[e1,e2,e3]at hr;cases hr
   | some k =>
    rw[e1,e2,e3]at hr;cases hr;have ht:=az8 (aa0 P (n+1)) (by nofun) h;have ht:ev (aa0 P (n+1)) (.or (.Z .ne (.bi .len (.cons (.X 0) .nil)) (.K (.int 5))) (.Z .ne (.ix (.X 0) (.K (.int 0))) (.K (.str [100,111,111,114])))) [some (.ref a)] s=.ok (.T false) s:=ht;have Z:ixM (.ref a) (.int 1) s=.ok (.str p) s:=qy h rfl;have i2:ixM (.ref a) (.int 2) s=.ok (.str w) s:=qy h rfl;have F:ixM (.ref a) (.int 3) s=.ok (.str q) s:=qy h rfl;have Y:ixM (.ref a) (.int 4) s=.ok (.str t) s:=qy h rfl;have J:=zU (P:=P) n e1 s;have G:=zU (P:=P) n e2 s;have f3:=zU (P:=P) n e3 s;unfold aa8;rw[zb,ex_ite,ht]
    tbr_iter [Z,i2,F,Y,J,G,f3]
    exact zx (λ _=>rfl) (by nofun)
def bV5  n (h0:r≠[])(hr:dor r=none)(h:s[a]?=some (.J (r.map D.str))):(aa0 P (n+2)).call "read_door" [.ref a] s=.B:=by
 have e0:(aa0 P (n+2)).call "read_door" [.ref a] s=_:=ze aa8 rfl;rw[e0,show(cg some [D.ref a]++ax aa8.vs none)=[some (.ref a)]from rfl];have ht:=az8 (aa0 P (n+1)) h0 h;have er:∀ U S,ex (aa0 P (n+1)) .raise U S=.B:=λ _ _=>rfl;unfold aa8;rw[zb,ex_ite,ht];by_cases hd:r.length=5/\r.head?=some zH
 .obtain⟨y,p,w,q,t,rfl⟩:=aK7 hd.1;have hy:=aB hd.2;subst hy;rw[decide_eq_true hd];have z:ixM (.ref a) (.int 1) s=.ok (.str p) s:=qy h rfl;have G:ixM (.ref a) (.int 2) s=.ok (.str w) s:=qy h rfl;have F:ixM (.ref a) (.int 3) s=.ok (.str q) s:=qy h rfl;have J:ixM (.ref a) (.int 4) s=.ok (.str t) s:=qy h rfl;change(if zH=zH then(match fig p,fig q,fig t with|some i,some j,some k=>some (i,w,j,k)|_,_,_=>none)else none)=_ at hr;rw[if_pos rfl]at hr;cases e1:fig p with
  | none=>tbr_iter [z,an2 n e1 s,R.bind_bad]
  | some i=>cases e2:fig q with
   | none=>tbr_iter [z,G,F,zU n e1 s,an2 n e2 s,R.bind_bad]
   | some j=>cases e3:fig t with
    | none=>tbr_iter [z,G,F,J,zU n e1 s,zU n e2 s,an2 n e3 s,R.bind_bad]
    | some k=>rw[e1,e2,e3]at hr;cases hr
 .rw[decide_eq_false hd]
  tbr_iter [er,R.bind_bad]
def bF8  n (h0:r≠[])(h:s[a]?=some (.J (r.map D.str))):(aa0 P (n+2)).xcall "read_door" [.ref a] s=if(dor r).isNone then some ("NoText",s)else none:=by
 rw[qA ag5 rfl];have hx:(aa0 P (n+1)).xc "NoText"=true:=by rw[aU2.1];exact hE.at_
 have ht:=az8 (aa0 P (n+1)) h0 h;show xB (aa0 P (n+1)) (.iteT _ (.rais "NoText") _) [some (.ref a)] s=_;rw[bK9 ht,aF2 hx];by_cases hd:r.length=5/\r.head?=some zH
 .obtain⟨y,p,w,q,t,rfl⟩:=aK7 hd.1;have hy:=aB hd.2;subst hy;rw[decide_eq_true hd,show dor [zH,p,w,q,t]=(match fig p,fig q,fig t with|some i,some j,some k=>some (i,w,j,k)|_,_,_=>none)from(if_pos rfl:(if zH=zH then _ else none)=_)];have F:ixM (.ref a) (.int 1) s=.ok (.str p) s:=qy h rfl;have Y:ixM (.ref a) (.int 2) s=.ok (.str w) s:=qy h rfl;have G:ixM (.ref a) (.int 3) s=.ok (.str q) s:=qy h rfl;have i4:ixM (.ref a) (.int 4) s=.ok (.str t) s:=qy h rfl;have a1:ag7 (aa0 P (n+1)) (.ex (.ix (.X 0) (.K (.int 1))) .nil) [some (.ref a)] s=.ok [.str p] s:=by tbr_iter [F]
  have a3:ag7 (aa0 P (n+1)) (.ex (.ix (.X 0) (.K (.int 3))) .nil) [some (.ref a)] s=.ok [.str q] s:=by tbr_iter [G]
  have a4:ag7 (aa0 P (n+1)) (.ex (.ix (.X 0) (.K (.int 4))) .nil) [some (.ref a)] s=.ok [.str t] s:=by tbr_iter [i4]
  have x1:xB (aa0 P (n+1)) (.xret (.tp .nil (.call "read_figure" (.ex (.ix (.X 0) (.K (.int 1))) .nil)))) [some (.ref a)] s=_:=(ba3 rfl a1).trans (ai6 n p s);rw[aH3,aH3,x1];cases e1:fig p with
  | none=>rfl
  | some i =>
   have J:=zU (P:=P) n e1 s;have g1:evs (aa0 P (n+1)) (.cons (.call "read_figure" (.ex (.ix (.X 0) (.K (.int 1))) .nil)) (.cons (.ix (.X 0) (.K (.int 2))) .nil)) [some (.ref a)] s=.ok [.int i,.str w] s:=by tbr_iter [F,Y,J]
   have x2:xB (aa0 P (n+1)) (.xret (.tp (.cons (.call "read_figure" (.ex (.ix (.X 0) (.K (.int 1))) .nil)) (.cons (.ix (.X 0) (.K (.int 2))) .nil)) (.call "read_figure" (.ex (.ix (.X 0) (.K (.int 3))) .nil)))) [some (.ref a)] s=_:=(ba3 g1 a3).trans (ai6 n q s);rw[x2];cases e2:fig q with
   | none=>rfl
   | some j =>
    have Z:=zU (P:=P) n e2 s;have g2:evs (aa0 P (n+1)) (.cons (.call "read_figure" (.ex (.ix (.X 0) (.K (.int 1))) .nil)) (.cons (.ix (.X 0) (.K (.int 2))) (.cons (.call "read_figure" (.ex (.ix (.X 0) (.K (.int 3))) .nil)) .nil))) [some (.ref a)] s=.ok [.int i,.str w,.int j] s:=by tbr_iter [F,Y,G,J,Z]
    have x3:xB (aa0 P (n+1)) (.xret (.tp (.cons (.call "read_figure" (.ex (.ix (.X 0) (.K (.int 1))) .nil)) (.cons (.ix (.X 0) (.K (.int 2))) (.cons (.call "read_figure" (.ex (.ix (.X 0) (.K (.int 3))) .nil)) .nil))) (.call "read_figure" (.ex (.ix (.X 0) (.K (.int 4))) .nil)))) [some (.ref a)] s=_:=(ba3 g2 a4).trans (ai6 n t s);rw[x3];cases e3:fig t<;>rfl
 .rw[decide_eq_false hd];have:dor r=none:=by
   by_cases z:r.length=5
   .obtain⟨y,p,w,q,t,rfl⟩:=aK7 z;exact if_neg λ hy=>hd ⟨rfl,congrArg some hy⟩
   .exact az2 z
  rw[this];rfl
end
noncomputable def RwI (S:Sto):List D->List (List (List Nat))->Prop
 | [],[]=>True
 | d::ds,r::rs=>(∃ a,d=.ref a/\S[a]?=some (.J (r.map D.str))/\r≠[])/\RwI S ds rs
 | _,_=>False
theorem RwI.len {S}:∀ {y} {rs},RwI S y rs->y.length=rs.length
 | [],[],_=>rfl
 | d::y,r::rs,⟨_,h⟩=>congrArg (·+1) (RwI.len h)
theorem RwI.take {S}:∀ k {y} {rs},RwI S y rs->RwI S (y.take k) (rs.take k)
 | 0,y,rs,_=>by rw[iX,iX];trivial
 | k+1,[],[],_=>trivial
 | k+1,d::y,r::rs,⟨a,h⟩=>⟨a,RwI.take k h⟩
theorem RwI.drop {S}:∀ k {y} {rs},RwI S y rs->RwI S (y.drop k) (rs.drop k)
 | 0,y,rs,h=>h
 | k+1,[],[],_=>trivial
 | k+1,d::y,r::rs,⟨a,h⟩=>RwI.drop k h
theorem RwI.get {S}:∀(i:Nat) {y} {rs} {r},RwI S y rs->rs[i]?=some r->∃ a,y[i]?=some (.ref a)/\S[a]?=some (.J (r.map D.str))/\r≠[]
 | _,[],[],r,_,e=>by cases e
 | 0,d::y,r'::rs,r,⟨⟨a,h1,h2,h3⟩,_⟩,e=>by cases e;exact⟨a,congrArg some h1,h2,h3⟩
 | i+1,d::y,r'::rs,r,⟨_,h⟩,e=>RwI.get i h e
theorem ak1 F {S}(ho:ok S=true):∀ y rs x ,RwI S y rs->(∀ a r x ,r∈rs->S[a]?=some (.J (r.map D.str))->r≠[]->ac3 F (.Y 0) e (.ref a) [x] S=.ok (some (f r),[some (.ref a)]) S)->ae5 ok (ac3 F (.Y 0) e) y [x] S=.ok (rs.map f) S
 | [],[],x,_,_=>by
  show(if ok S then R.ok [] S else .B)=_;rw[if_pos ho];rfl
 | d::y,r::rs,x,⟨⟨a,h1,h2,h3⟩,h⟩,he=>by
  subst h1;have z:=ak1 F ho y rs (some (.ref a)) h λ a r x hr=>he a r x (ai _ hr);show(if ok S then(ac3 F (.Y 0) e (.ref a) [x] S).bind λ p s=>(ae5 ok (ac3 F (.Y 0) e) y p.2 s).bind λ r s=>R.ok (match p.1 with|some v=>v::r|none=>r) s else .B)=_;rw[if_pos ho,he a r x (au ..) h2 h3];simp only[R.bind_ok];rw[z];rfl
def aC3 :∀ l:List Nat,aa4 c l≠[]
 | []=>by nofun
 | x::l=>by
  show(if x=c then[]::aa4 c l else match aa4 c l with|p::ps=>(x::p)::ps|[]=>[[x]])≠[];split
  .nofun
  .split<;>nofun
theorem aL7 :∀ l:List Nat,(aa4 c l).length<=l.length+1/\∀ p∈aa4 c l,p.length<=l.length
 | []=>⟨av _,λ p hp=>by rw[cT.mp hp];exact av _⟩
 | x::l=>by
  obtain⟨z,y⟩:=aL7 l;show(if x=c then[]::aa4 c l else match aa4 c l with|p::ps=>(x::p)::ps|[]=>[[x]]).length<=_/\∀ p∈(if x=c then[]::aa4 c l else match aa4 c l with|p::ps=>(x::p)::ps|[]=>[[x]]),p.length<=l.length+1;split
  .refine⟨by simp;omega,λ p hp=>?_⟩;rcases aw.mp hp with rfl|hp
   .exact cA _
   .have:=y p hp;lia
  .cases e:aa4 c l with
   | nil=>exact absurd e (aC3 l)
   | cons q ps =>
    rw[e]at z y;refine⟨by simp at z ⊢;lia,λ p hp=>?_⟩;rcases aw.mp hp with rfl|hp
    .have:=y q (au ..);simp;omega
    .have:=y p (ai _ hp);lia
def zC (w:List Nat):List (List (List Nat)):=(aa4 10 w).map (aa4 32)
def bS5 A :∀(ws:List (List Nat)) (S:Sto),S=A++ws.map (λ w=>O.J ((aa4 32 w).map D.str))->∀ T,RwI (S++T) ((bE ws.length).map λ i=>D.ref (A.length+i)) (ws.map (aa4 32)):=by
 intro ws
 induction ws generalizing A with
 | nil=>intro S _ T;trivial
 | cons w ws ih =>
  intro S y T;rw[aE,eQ,aF,ce,aF];refine⟨⟨A.length,rfl,?_,aC3 w⟩,?_⟩
  .rw[y,aF,ag,fh,<-eW,<-ag];exact za zf
  .have:=ih (A++[.J ((aa4 32 w).map D.str)]) S (by rw[y,aF,ag];rfl) T;rw[ar]at this;have e:((λ i=>D.ref (A.length+i)) ∘ Nat.succ)=λ i=>D.ref (A.length+[O.J ((aa4 32 w).map D.str)].length+i):=by
    funext i
    show D.ref (A.length+(i+1))=D.ref (A.length+1+i);rw[show A.length+(i+1)=A.length+1+i by lia]
   rw[e];exact this
def aZ6 F (hw:w.length<=100000)(U:Env) s :∃(T:Sto) (refs:List D),ev F (.mk .list (.comp (.Y 0) (.seq (.spl (.X 0) 10)) (.spl (.X 0) 32) [none])) (some (.str w)::U) s=.ok (.ref (s++T).length) (s++T++[.J refs])/\∀ Uu,RwI (s++T++Uu) refs (zC w):=by
 have y:bt5 10 (.str w) s=.ok (.ref s.length) (s++[.J ((aa4 10 w).map D.str)]):=by
  show(if w.length+2<=LIM then af4 (.J ((aa4 10 w).map D.str)) s else .B)=_;rw[if_pos (by unfold LIM;lia)];rfl
 obtain⟨a0,J⟩:=aL7 (c:=10) w;generalize G:(aa4 10 w).map D.str=T0 at y;have Z:qG (.ref s.length) (s++[.J T0])=.ok ⟨T0,[s.length]⟩ (s++[.J T0]):=by simp only[qG,zf]
 have hl:T0.length<=LIM:=by rw[<-G,ao];unfold LIM;lia
 have c1:=aR2 F (ok:=λ Y=>chk (s++[.J T0]) Y [s.length]) (aa4 10 w) none (s++[.J T0]) (λ T=>by
  unfold chk;rw[ci,dQ,dz,za zf,zf];exact decide_eq_true rfl) (λ p hp=>by have:=J p hp;unfold LIM;lia)
 rw[G]at c1;refine⟨[.J T0]++(aa4 10 w).map (λ w=>O.J ((aa4 32 w).map D.str)),_,?_,λ Uu=>bS5 (s++[.J T0]) (aa4 10 w) _ (ag ..).symm Uu⟩;have z:zJ (some (.str w)::U) [none]=[none]:=rfl;rw[<-ag]
 tbr_iter [aN4,y,zK,Z,hl,z,c1,mk]
theorem aL2 s n :∀ l m:List (List Nat),eqL (eqv s n) (l.map D.str) (m.map D.str)=some (l==m)
 | [],[]=>rfl
 | [],_::_=>rfl
 | _::_,[]=>rfl
 | a::l,b::m=>by
  have h:eqv s n (.str a) (.str b)=some (a==b):=by cases n<;>rfl
  show(match eqv s n (.str a) (.str b),eqL (eqv s n) (l.map D.str) (m.map D.str)with|some x,some y=>some (x&&y)|_,_=>none)=_;rw[h,aL2 s n l m];rfl
def be2 { m:List (List Nat)}(ha:s[a]?=some (.J (l.map D.str)))(hb:s[b]?=some (.J (m.map D.str))):zQ .ne (.ref a) (.ref b) s=.ok (.T (!(l==m))) s:=by
 have e:eqv s DEEP (.ref a) (.ref b)=some (l==m):=by
  show(match s[a]?,s[b]? with
   | some (.J l),some (.J m)=>if l.length=m.length then eqL (eqv s 29) l m else some false
   | _,_=>none)=_
  rw[ha,hb];show(if(l.map D.str).length=(m.map D.str).length then eqL (eqv s 29) (l.map D.str) (m.map D.str)else some false)=_;rw[aL2];split
  .rfl
  .rename_i h;rw[ao,ao]at h;have:(l==m)=false:=by
    cases q:l==m with
    | false=>rfl
    | true=>exact absurd (congrArg et (eq_of_beq q)) h
   rw[this]
 show(match eqv s DEEP (.ref a) (.ref b)with|some r=>R.ok (D.T (!r)) s|none=>.B)=_;rw[e]
def ar6:List (List Nat):=[am1,qu,zR,tEnd]
noncomputable def hdW (rs:List (List (List Nat))):List (List Nat):=(rs.take 4).map λ r=>r.headD []
structure MD where
 L:Nat
 R:Nat
 bg:List Nat
 en:List Nat
 ds:List Dx
def MD.d (m:MD):D:=.tp [.int m.L,.int m.R,.tp (zn m.bg),.tp (zn m.en),.tp (m.ds.map dD)]
def dors:List (List (List Nat))->Option (List Dx)
 | []=>some []
 | r::rs=>match dor r,dors rs with|some x,some l=>some (x::l)|_,_=>none
def rd0 (rs:List (List (List Nat))):Option MD:=match rs with
 | r0::r1::r2::r3::ds=>(match nmb r0,nmb r1,dors ds,fgs r2.tail,fgs r3.tail with
  | some L,some R,some l,some b,some e=>some ⟨L,R,b,e,l⟩
  | _,_,_,_,_=>none)
 | _=>none
open Classical in
def rdM (rs:List (List (List Nat))):Option MD:=if hdW rs=ar6 then(rd0 rs).bind λ m=>if aA8 m.d then some m else none else none
def bb2 (h:hdW rs=ar6):∃ r0 r1 r2 r3 y,rs=r0::r1::r2::r3::y/\r0.headD []=am1/\r1.headD []=qu/\r2.headD []=zR/\r3.headD []=tEnd:=by
 match rs,h with
 | [],h=>cases h
 | [_],h=>exact absurd (congrArg et h) (by unfold hdW ar6;simp)
 | [_,_],h=>exact absurd (congrArg et h) (by unfold hdW ar6;simp)
 | [_,_,_],h=>exact absurd (congrArg et h) (by unfold hdW ar6;simp)
 | r0::r1::r2::r3::y,h =>
  have h:[r0.headD [],r1.headD [],r2.headD [],r3.headD []]=[am1,qu,zR,tEnd]:=h;simp only[fQ,and_true]at h;exact⟨r0,r1,r2,r3,y,rfl,h.1,h.2.1,h.2.2.1,h.2.2.2⟩
def aC0 {t:List Nat}(h0:r≠[])(h:r.headD []=t):r=t::r.tail:=by
 cases r with
 | nil=>exact absurd rfl h0
 | cons x r=>rw[<-h];rfl
noncomputable abbrev aS9:E:=.mk .list (.comp (.Y 0) (.seq (.spl (.X 0) 10)) (.spl (.X 0) 32) [none])
noncomputable abbrev bQ5:E:=.slU (.X 1) (.bi .len (.cons (.gl "HEADS") .nil))
noncomputable abbrev bN0:E:=.Z .ne (.mk .list (.comp (.Y 0) (.seq (.X 2)) (.ix (.X 0) (.K (.int 0))) [none])) (.mk .list (.seq (.gl "HEADS")))
noncomputable abbrev aH (i:Int):As:=.ex (.ix (.X 2) (.K (.int i))) .nil
noncomputable abbrev bF3:I:=.seq (.slL (.X 1) (.bi .len (.cons (.gl "HEADS") .nil)))
abbrev bP6:E:=.mk .tuple (.comp (.Y 0) bF3 (.call "read_door" (.ex (.X 0) .nil)) [none])
abbrev bN5:E:=.tp (.cons (.X 3) (.cons (.X 4) (.cons (.call "read_numbers" (aH 2)) (.cons (.call "read_numbers" (aH 3)) (.cons (.X 5) .nil)))))
noncomputable abbrev bW9:E:=.not (.call "is_machine" (.ex (.X 6) .nil))
def bw8:ab2.body=.cons (.A (.Y 1) aS9) (.cons (.A (.Y 2) bQ5) (.cons (.ite bN0 (.cons .raise .nil) .nil) (.cons (.A (.Y 3) (.call "read_number" (aH 0))) (.cons (.A (.Y 4) (.call "read_number" (aH 1))) (.cons (.A (.Y 5) bP6) (.cons (.A (.Y 6) bN5) (.cons (.ite bW9 (.cons .raise .nil) .nil) (.cons (.ret (.X 6)) .nil)))))))):=rfl
abbrev ch6:XB:=.alt (.xasg (.tp (.cons (.X 3) (.cons (.X 4) .nil)) (.call "read_numbers" (aH 2)))) (.alt (.xasg (.tp (.cons (.X 3) (.cons (.X 4) (.cons (.call "read_numbers" (aH 2)) .nil))) (.call "read_numbers" (aH 3)))) (.seq (.A (.Y 6) bN5) (.iteT bW9 (.rais "NoText") .no)))
abbrev ci7:XB:=.alt (.xasg (.tcomp (.Y 0) bF3 (.call "read_door" (.ex (.X 0) .nil)) "read_door" (.ex (.X 0) .nil) [none])) (.seq (.A (.Y 5) bP6) ch6)
def aj6:Xf:=⟨1,6,.seq (.A (.Y 1) aS9) (.seq (.A (.Y 2) bQ5) (.iteT bN0 (.rais "NoText") (.alt (.call "read_number" (aH 0)) (.seq (.A (.Y 3) (.call "read_number" (aH 0))) (.alt (.call "read_number" (aH 1)) (.seq (.A (.Y 4) (.call "read_number" (aH 1))) ci7))))))⟩
section
variable {P:Pr} [HasC P "FIGURES" (.tp au3)] [HasC P "HEADS" (.tp as0)] [Has P aa2] [Has P aa6] [Has P aa5] [Has P aa8] [HasX P "read_figure" ac7] [HasX P "read_number" ad3] [HasX P "read_numbers" ac2] [HasX P "read_door" ag5] [hE:HasE P "NoText" KX]
include hE
structure Laid8 (S:Sto)(w:List Nat)(q h:Nat)(refs:List D):Prop where
 rw_:∀ Uu,RwI (S++Uu) refs (zC w)
 q_:∀ Uu,(S++Uu)[q]?=some (.J refs)
 h_:∀ Uu,(S++Uu)[h]?=some (.J (refs.take 4))
omit [HasC P "FIGURES" (.tp au3)] [Has P aa2] [Has P aa6] [Has P aa5] [Has P aa8] [HasX P "read_figure" ac7] [HasX P "read_number" ad3] [HasX P "read_numbers" ac2] [HasX P "read_door" ag5] hE in
def ch1 (n:Nat)(U:Env)(S:Sto):ev (aa0 P n) (.gl "HEADS") U S=.ok (.tp as0) S:=by
 show(match(aa0 P n).con "HEADS" with|some d=>R.ok d S|none=>.B)=_;rw[ay2 (v:=.tp as0)]
def cf8 n (hw:w.length<=100000) s x2 x3 x4 F G :∃(T:Sto) (q h:Nat) (refs:List D),Laid8 (s++T) w q h refs /\
  ex (aa0 P n) (.A (.Y 1) aS9) [some (.str w),none,x2,x3,x4,F,G] s=.ok (.next [some (.str w),some (.ref q),x2,x3,x4,F,G]) ((s++T).take (h)) /\
  ex (aa0 P n) (.A (.Y 2) bQ5) [some (.str w),some (.ref q),x2,x3,x4,F,G] ((s++T).take h)=.ok (.next [some (.str w),some (.ref q),some (.ref h),x3,x4,F,G]) ((s++T).take (h+1)) /\
  ev (aa0 P n) bN0 [some (.str w),some (.ref q),some (.ref h),x3,x4,F,G] ((s++T).take (h+1))=.ok (.T (!(hdW (zC w)==ar6))) (s++T):=by
 obtain⟨T,refs,e1,hR⟩:=aZ6 (aa0 P n) hw [none,x2,x3,x4,F,G] s;have hq:∀ Uu,(s++T++[O.J refs]++Uu)[(s++T).length]?=some (.J refs):=λ Uu=>za zf;have gh:=λ U S=>ch1 (P:=P) n U S;have J:∀ S:Sto,bi .len [.tp as0] S=.ok (.int 4) S:=λ _=>rfl;have a0:slM (.ref (s++T).length) none (some 4) (s++T++[.J refs])=.ok (.ref (s++T++[O.J refs]).length) (s++T++[.J refs]++[.J (refs.take 4)]):=by
  unfold slM;have hc:=bY6 (l:=refs) (k:=4);rw[show((4:Nat):Int)=4 from rfl,<-eX]at hc;have:=hq [];rw[az]at this;simp only[this,zT,hc]
 have h1:∀ Uu,(s++T++[O.J refs]++[O.J (refs.take 4)]++Uu)[(s++T++[O.J refs]).length]?=some (.J (refs.take 4)):=λ Uu=>za zf;have sq:qG (.ref (s++T++[O.J refs]).length) (s++T++[.J refs]++[.J (refs.take 4)])=.ok ⟨refs.take 4,[(s++T++[O.J refs]).length]⟩ (s++T++[.J refs]++[.J (refs.take 4)]):=by simp only[qG,zf]
 have a5:RwI (s++T++[.J refs]++[.J (refs.take 4)]) refs (zC w):=by rw[ag];exact hR _
 have a2:(refs.take 4).length<=LIM:=by rw[aQ];unfold LIM;lia
 have c2:=ak1 (aa0 P n) (ok:=λ a4=>chk (s++T++[.J refs]++[.J (refs.take 4)]) a4 [(s++T++[O.J refs]).length]) (S:=s++T++[.J refs]++[.J (refs.take 4)]) (by simp[chk]) (e:=.ix (.X 0) (.K (.int 0))) (f:=λ r=>.str (r.headD [])) (refs.take 4) ((zC w).take 4) none (a5.take 4) (λ a r x hr ha h0=>by
  cases r with
  | nil=>exact absurd rfl h0
  | cons y r =>
   have hi:ixM (.ref a) (.int 0) (s++T++[.J refs]++[.J (refs.take 4)])=.ok (.str y) (s++T++[.J refs]++[.J (refs.take 4)]):=qy (j:=0) ha rfl;unfold ac3
   tbr_iter [hi]
   rfl)
 have hH:((zC w).take 4).map (λ r=>D.str (r.headD []))=(hdW (zC w)).map D.str:=by unfold hdW;rw[ce];rfl
 rw[hH]at c2;have Y:zJ [some (.str w),some (.ref (s++T).length),some (.ref (s++T++[O.J refs]).length),x3,x4,F,G] [none]=[none]:=rfl;have a1:∀ S:Sto,bo9 (.tp as0) S=.ok as0 S:=λ _=>rfl;have Z:=be2 (s:=s++T++[.J refs]++[.J (refs.take 4)]++[.J ((hdW (zC w)).map D.str)]++[.J (ar6.map D.str)]) (a:=(s++T++[O.J refs]++[O.J (refs.take 4)]).length) (b:=(s++T++[O.J refs]++[O.J (refs.take 4)]++[O.J ((hdW (zC w)).map D.str)]).length) (za zf) zf;have a3:ar6.map D.str=as0:=rfl;rw[a3]at Z;refine⟨T++[.J refs]++[.J (refs.take 4)]++[.J ((hdW (zC w)).map D.str)]++[.J as0],(s++T).length,(s++T++[O.J refs]).length,refs,⟨λ Uu=>?_,λ Uu=>?_,λ Uu=>?_⟩,?_,?_,?_⟩
 .simp only[<-ag];rw[ag (s++T),ag (s++T),ag (s++T),ag (s++T)];exact hR _
 .simp only[<-ag];rw[ag (s++T++[O.J refs]),ag (s++T++[O.J refs]),ag (s++T++[O.J refs])];exact hq _
 .simp only[<-ag];rw[ag (s++T++[O.J refs]++[O.J (refs.take 4)]),ag (s++T++[O.J refs]++[O.J (refs.take 4)])];exact h1 _
 .have ht:(s++(T++[O.J refs]++[O.J (refs.take 4)]++[O.J ((hdW (zC w)).map D.str)]++[O.J as0])).take (s++T++[O.J refs]).length=s++T++[O.J refs]:=by
   simp only[<-ag];rw[ag (s++T++[O.J refs]),ag (s++T++[O.J refs]),fR];rfl
  rw[ht]
  tbr_iter [e1]
 .have ht:(s++(T++[O.J refs]++[O.J (refs.take 4)]++[O.J ((hdW (zC w)).map D.str)]++[O.J as0])).take (s++T++[O.J refs]).length=s++T++[O.J refs]:=by
   simp only[<-ag];rw[ag (s++T++[O.J refs]),ag (s++T++[O.J refs]),fR];rfl
  have z:(s++(T++[O.J refs]++[O.J (refs.take 4)]++[O.J ((hdW (zC w)).map D.str)]++[O.J as0])).take ((s++T++[O.J refs]).length+1)=s++T++[O.J refs]++[O.J (refs.take 4)]:=by
   simp only[<-ag];rw[ag (s++T++[O.J refs]++[O.J (refs.take 4)]),fR (by simp;lia)]
  rw[ht,z]
  tbr_iter [zO,gh,J,a0]
 .have z:(s++(T++[O.J refs]++[O.J (refs.take 4)]++[O.J ((hdW (zC w)).map D.str)]++[O.J as0])).take ((s++T++[O.J refs]).length+1)=s++T++[O.J refs]++[O.J (refs.take 4)]:=by
   simp only[<-ag];rw[ag (s++T++[O.J refs]++[O.J (refs.take 4)]),fR (by simp;omega)]
  rw[z]
  tbr_iter [zK,sq,a2,Y,c2,mk,gh,a1,Z]
  simp only[<-ag]
end
def aQ4 w :(zC w).length<=w.length+1/\∀ r∈zC w,r.length<=w.length+1:=by
 obtain⟨z,y⟩:=aL7 w;refine⟨by unfold zC;rwa [ao],λ r hr=>?_⟩;obtain⟨p,hp,rfl⟩:=aN.mp hr;have:=y p hp;have:=(aL7 (c:=32) p).1;lia
def aW3 (h:fgs ws=some l):l.length=ws.length:=by
 rw[(aI1 h).1,ao]
theorem aM2:∀ {rs} {l},dors rs=some l->l.length=rs.length
 | [],l,h=>by cases h;rfl
 | r::rs,l,h=>by
  change(match dor r,dors rs with|some x,some l=>some (x::l)|_,_=>none)=_ at h;cases e1:dor r with
  | none=>rw[e1]at h;cases h
  | some x=>cases e2:dors rs with
   | none=>rw[e1,e2]at h;cases h
   | some l'=>rw[e1,e2]at h;cases h;exact congrArg (·+1) (aM2 e2)
def dF (r:List (List Nat)):D:=match dor r with|some x=>dD x|none=>.N
theorem av8:∀ {rs} {l},dors rs=some l->rs.map dF=l.map dD/\∀ r∈rs,∃ x,dor r=some x
 | [],l,h=>by cases h;exact⟨rfl,λ r hr=>by cases hr⟩
 | r::rs,l,h=>by
  change(match dor r,dors rs with|some x,some l=>some (x::l)|_,_=>none)=_ at h;cases e1:dor r with
  | none=>rw[e1]at h;cases h
  | some x=>cases e2:dors rs with
   | none=>rw[e1,e2]at h;cases h
   | some l' =>
    rw[e1,e2]at h;cases h;obtain⟨G,F⟩:=av8 e2;exact⟨by rw[aF,aF,G];unfold dF;rw[e1],λ y hy=>(aw.mp hy).elim (λ z=>⟨x,by rw[z];exact e1⟩) (F y)⟩
def bO6 (m:MD)(h5:5<=B)(hb:m.bg.length<=B)(he:m.en.length<=B)(hd:m.ds.length<=B) s :fit s B 3 m.d:=by
 have fn:∀ l:List Nat,l.length<=B->fit s B 2 (.tp (zn l)):=λ l h=>⟨by unfold zn;rwa [ao],λ x hx=>by
  obtain⟨k,_,rfl⟩:=aN.mp hx;exact an0 trivial (by nofun)⟩
 refine⟨h5,λ x hx=>?_⟩;simp only[aw,aR,or_false]at hx;rcases hx with rfl|rfl|rfl|rfl|rfl
 .exact an0 trivial (by nofun)
 .exact an0 trivial (by nofun)
 .exact fn _ hb
 .exact fn _ he
 .refine⟨by rwa [ao],λ x hx=>?_⟩;obtain⟨k,_,rfl⟩:=aN.mp hx;refine bm6 (aq (by show 4<=5;decide) h5) λ y hy=>?_;simp only[aw,aR,or_false]at hy;rcases hy with rfl|rfl|rfl|rfl<;>exact⟨trivial,by nofun⟩
def aP4 (m:MD) n :m.d.bnd n=true:=by
 have b1:D.bndL n (m.ds.map dD)=true:=zS (λ d hd k=>by obtain⟨x,_,rfl⟩:=aN.mp hd;rfl) n;have y:∀ l:List Nat,D.bndL n (zn l)=true:=λ l=>zS am4 n;unfold MD.d;simp only[D.bnd,D.bndL,b1,y,Bool.and_self]
section
variable {P:Pr} [HasC P "FIGURES" (.tp au3)] [HasC P "HEADS" (.tp as0)] [Has P aa2] [Has P aa6] [Has P aa5] [Has P aa8] [HasX P "read_figure" ac7] [HasX P "read_number" ad3] [HasX P "read_numbers" ac2] [HasX P "read_door" ag5] [hE:HasE P "NoText" KX]
include hE
theorem aN7 n {S}(ho:ok S=true):∀ y rs x ,RwI S y rs->ah2 ok (λ d U s=>match qg U (.Y 0) d with
  | some U=>(ev (aa0 P (n+2)) (.call "read_door" (.ex (.X 0) .nil)) U s).bind λ _ s=>.ok U s
  | none=>.B) (λ d U s=>match qg U (.Y 0) d with
  | some U=>match ag7 (aa0 P (n+2)) (.ex (.X 0) .nil) U s with|.ok l s1=>(aa0 P (n+2)).xcall "read_door" l s1|_=>none
  | none=>none) y [x] S=if(dors rs).isNone then some ("NoText",S)else none
 | [],[],x,_=>rfl
 | d::y,r::rs,x,⟨⟨a,h1,h2,h3⟩,h⟩=>by
  subst h1;have F:=aN7 n ho y rs (some (.ref a)) h;unfold ah2;rw[if_pos ho];have hb:qg [x] (.Y 0) (.ref a)=some [some (.ref a)]:=rfl;have hf:dors (r::rs)=match dor r,dors rs with|some x,some l=>some (x::l)|_,_=>none:=rfl
  simp only[hb];cases e:dor r with
  | some k =>
   have e1:=bs1 (P:=P) n e h2;have e2:(ev (aa0 P (n+2)) (.call "read_door" (.ex (.X 0) .nil)) [some (.ref a)] S).bind (λ _ s=>R.ok [some (D.ref a)] s)=.ok [some (.ref a)] S:=by tbr_iter [e1]
   rw[e2];show ah2 ok _ _ y [some (.ref a)] S=_;rw[F,hf,e];cases dors rs<;>rfl
  | none =>
   have e1:=bV5 (P:=P) n h3 e h2;have e2:(ev (aa0 P (n+2)) (.call "read_door" (.ex (.X 0) .nil)) [some (.ref a)] S).bind (λ _ s=>R.ok [some (D.ref a)] s)=.B:=by tbr_iter [e1,R.bind_bad]
   rw[e2];have e3:ag7 (aa0 P (n+2)) (.ex (.X 0) .nil) [some (.ref a)] S=.ok [.ref a] S:=by tbr_iter []
   have z:=bF8 (P:=P) n h3 h2;rw[hf,e];rw[e3];show(aa0 P (n+2)).xcall "read_door" [.ref a] S=_;rw[z,e];cases dors rs<;>rfl
end
def aH1 (h:nmb r0=none\/nmb r1=none\/dors y=none\/fgs r2.tail=none\/fgs r3.tail=none):rd0 (r0::r1::r2::r3::y)=none:=by
 show(match nmb r0,nmb r1,dors y,fgs r2.tail,fgs r3.tail with|some L,some R,some l,some b,some e=>some (MD.mk L R b e l)|_,_,_,_,_=>none)=_;split
 .rename_i e0 e1 e2 e3 z;rw[e0,e1,e2,e3,z]at h;rcases h with h|h|h|h|h<;>cases h
 .rfl
def RdR (s:Sto)(o:Option MD)(c:R D)(x:Option (String×Sto)):Prop:=match o with
 | some m=>c=.ok m.d s/\x=none
 | none=>∃ T,x=some ("NoText",s++T)
section
variable {P:Pr} [HasC P "FIGURES" (.tp au3)] [HasC P "HEADS" (.tp as0)] [Has P aa2] [Has P aa6] [Has P aa5] [Has P aa8] [Has P ab2] [HasX P "read_figure" ac7] [HasX P "read_number" ad3] [HasX P "read_numbers" ac2] [HasX P "read_door" ag5] [HasX P "read_machine" aj6] [hE:HasE P "NoText" KX]
 [Has P ab0] [Has P ab1] [Has P ab9] [Has P ab5] [Has P ac1] [Has P ab4] [Has P aa3] [Has P ab7] [HasC P "LETTERS" (.tp aK3)] [HasC P "MOST_TOLL" (.int 3)] [HasC P "MOST_DOORS" (.int 75)] [HasC P "MOST_ROOMS" (.int 5)]
def cf7  n (hw:w.length<=99000) s :RdR s (rdM (zC w)) ((aa0 P (n+6)).call "read_machine" [.str w] s) ((aa0 P (n+6)).xcall "read_machine" [.str w] s):=by
 have e0:(aa0 P (n+6)).call "read_machine" [.str w] s=_:=ze ab2 rfl;rw[e0,bw8,qA aj6 rfl,show(cg some [D.str w]++ax ab2.vs none)=[some (.str w),none,none,none,none,none,none]from rfl,show(cg some [D.str w]++ax aj6.vs none)=[some (.str w),none,none,none,none,none,none]from rfl];have hx:(aa0 P (n+5)).xc "NoText"=true:=by rw[aU2.1];exact hE.at_
 obtain⟨T,q,h,refs,hL,e1,e2,e3⟩:=cf8 (P:=P) (n+5) (w:=w) (by lia) s none none none none none;show RdR s (rdM (zC w)) _ (xB (aa0 P (n+5)) (.seq (.A (.Y 1) aS9) (.seq (.A (.Y 2) bQ5) (.iteT bN0 (.rais "NoText") (.alt (.call "read_number" (aH 0)) (.seq (.A (.Y 3) (.call "read_number" (aH 0))) (.alt (.call "read_number" (aH 1)) (.seq (.A (.Y 4) (.call "read_number" (aH 1))) ci7))))))) _ s);rw[aU1 e1,aU1 e2,bK9 e3,aF2 hx];rw[zb,e1,R.bind_ok];show RdR s _ (R.bind (exs (aa0 P (n+5)) (.cons (.A (.Y 2) bQ5) _) _ _) _) _;rw[zb,e2,R.bind_ok];show RdR s _ (R.bind (exs (aa0 P (n+5)) (.cons (.ite bN0 _ _) _) _ _) _) _;rw[zb,ex_ite,e3];generalize J:s++T=S at hL e1 e2 e3;by_cases hd:hdW (zC w)=ar6
 case neg =>
  have:(hdW (zC w)==ar6)=false:=by
   cases z:hdW (zC w)==ar6 with
   | false=>rfl
   | true=>exact absurd (eq_of_beq z) hd
  rw[this,show rdM (zC w)=none from if_neg hd];exact⟨T,by rw[J];rfl⟩
 obtain⟨r0,r1,r2,r3,G,a7,t0,t1,t2,t3⟩:=bb2 hd;have c6:rdM (zC w)=(rd0 (zC w)).bind λ m=>(open Classical in if aA8 m.d then some m else none):=if_pos hd;rw[show(hdW (zC w)==ar6)=true from by rw[hd];exact beq_self_eq_true _,c6];obtain⟨l1,l2⟩:=aQ4 w;have Z:=by have:=hL.rw_ [];rwa [az]at this
 rw[a7]at Z l1 l2 ⊢;obtain⟨a0,g0,k0,z0⟩:=Z.get 0 rfl;obtain⟨a1,g1,k1,z1⟩:=Z.get 1 rfl;obtain⟨a2,g2,k2,z2⟩:=Z.get 2 rfl;obtain⟨a3,g3,k3,z3⟩:=Z.get 3 rfl;have tk:∀ i:Nat,i<4->(refs.take 4)[i]?=refs[i]?:=λ i hi=>by rw[jL,if_pos hi]
 have ix:∀(i:Nat) (a:Nat),i<4->refs[i]?=some (.ref a)->∀ Uu,ixM (.ref h) (.int (i:Int)) (S++Uu)=.ok (.ref a) (S++Uu):=λ i a hi e Uu=>ai4 (hL.h_ Uu) (by rw[tk i hi];exact e);have i0:=λ Uu=>ix 0 a0 (by decide) g0 Uu;have i1:=λ Uu=>ix 1 a1 (by decide) g1 Uu;have i2:=λ Uu=>ix 2 a2 (by decide) g2 Uu;have i3:=λ Uu=>ix 3 a3 (by decide) g3 Uu;have a9:ixM (.ref h) (.int 0) S=.ok (.ref a0) S:=by have:=i0 [];rwa [az]at this
 have b4:ixM (.ref h) (.int 1) S=.ok (.ref a1) S:=by have:=i1 [];rwa [az]at this
 have c0:ag7 (aa0 P (n+5)) (aH 0) [some (.str w),some (.ref q),some (.ref h),none,none,none,none] S=.ok [.ref a0] S:=by tbr_iter [a9]
 rw[aH3,az0 c0,aO1 (n+3) k0];cases q0:nmb r0 with
 | none=>rw[aH1 (.inl q0)];exact⟨T,by rw[J];rfl⟩
 | some Lv =>
 have f0:=aR3 (P:=P) (n+3) q0 k0;have e4:ex (aa0 P (n+5)) (.A (.Y 3) (.call "read_number" (aH 0))) [some (.str w),some (.ref q),some (.ref h),none,none,none,none] S=.ok (.next [some (.str w),some (.ref q),some (.ref h),some (.int Lv),none,none,none]) S:=by tbr_iter [a9,f0]
 show RdR s _ (R.bind (exs (aa0 P (n+5)) (.cons (.A (.Y 3) (.call "read_number" (aH 0))) _) _ S) _) (xB (aa0 P (n+5)) (.seq (.A (.Y 3) (.call "read_number" (aH 0))) _) _ S);rw[aU1 e4,zb,e4,R.bind_ok];have c1:ag7 (aa0 P (n+5)) (aH 1) [some (.str w),some (.ref q),some (.ref h),some (.int Lv),none,none,none] S=.ok [.ref a1] S:=by tbr_iter [b4]
 rw[aH3,az0 c1,aO1 (n+3) k1];cases q1:nmb r1 with
 | none=>rw[aH1 (.inr (.inl q1))];exact⟨T,by rw[J];rfl⟩
 | some Rv =>
 have f1:=aR3 (P:=P) (n+3) q1 k1;have e5:ex (aa0 P (n+5)) (.A (.Y 4) (.call "read_number" (aH 1))) [some (.str w),some (.ref q),some (.ref h),some (.int Lv),none,none,none] S=.ok (.next [some (.str w),some (.ref q),some (.ref h),some (.int Lv),some (.int Rv),none,none]) S:=by tbr_iter [b4,f1]
 show RdR s _ (R.bind (exs (aa0 P (n+5)) (.cons (.A (.Y 4) (.call "read_number" (aH 1))) _) _ S) _) (xB (aa0 P (n+5)) (.seq (.A (.Y 4) (.call "read_number" (aH 1))) _) _ S);rw[aU1 e5,zb,e5,R.bind_ok];have d2:refs.length=G.length+4:=Z.len;have gh:=λ U S=>ch1 (P:=P) (n+5) U S;have b0:∀ S:Sto,bi .len [.tp as0] S=.ok (.int 4) S:=λ _=>rfl;have b9:=by have:=hL.q_ [];rwa [az]at this
 have a8:slM (.ref q) (some 4) none S=.ok (.ref S.length) (S++[.J (refs.drop 4)]):=by
  have hc:=ce7 (l:=refs) (k:=4);rw[show((4:Nat):Int)=4 from rfl,show min 4 refs.length=4 by omega,bU (by rw[be];exact av _)]at hc;unfold slM;simp only[b9,zT,hc]
 have RD:RwI (S++[.J (refs.drop 4)]) (refs.drop 4) G:=(RwI.drop 4 (hL.rw_ [.J (refs.drop 4)] |> (a7▸·)))
 generalize F:S++[O.J (refs.drop 4)]=S5 at a8 RD;have d1:S.length<S5.length:=by rw[<-F];simp
 have d0:S5[S.length]?=some (.J (refs.drop 4)):=by rw[<-F];exact zf
 have sq:qG (.ref S.length) S5=.ok ⟨refs.drop 4,[S.length]⟩ S5:=by simp only[qG,d0]
 have a6:(refs.drop 4).length<=LIM:=by rw[be];have l1:G.length+4<=w.length+1:=l1;unfold LIM;lia
 have eI:evI (aa0 P (n+5)) bF3 [some (.str w),some (.ref q),some (.ref h),some (.int Lv),some (.int Rv),none,none] S=.ok ⟨refs.drop 4,[S.length]⟩ S5:=by tbr_iter [ev_slL',gh,b0,a8,sq]
 have a4:chk S5 S5 [S.length]=true:=by simp[chk]
 have x5:xB (aa0 P (n+5)) (.xasg (.tcomp (.Y 0) bF3 (.call "read_door" (.ex (.X 0) .nil)) "read_door" (.ex (.X 0) .nil) [none])) [some (.str w),some (.ref q),some (.ref h),some (.int Lv),some (.int Rv),none,none] S=if(dors G).isNone then some ("NoText",S5)else none:=by
  show xE (aa0 P (n+5)) (.tcomp (.Y 0) bF3 (.call "read_door" (.ex (.X 0) .nil)) "read_door" (.ex (.X 0) .nil) [none]) _ S=_;unfold xE;rw[eI];show(if(refs.drop 4).length<=LIM then _ else none)=_;rw[if_pos a6];exact aN7 (P:=P) (n+3) (ok:=λ Y=>chk S5 Y [S.length]) a4 (refs.drop 4) G none RD
 show RdR s _ _ (xB (aa0 P (n+5)) (.alt _ _) _ S);rw[aH3,x5];cases q5:dors G with
 | none=>rw[aH1 (.inr (.inr (.inl q5)))];exact⟨T++[.J (refs.drop 4)],by rw[<-ag,J,F];rfl⟩
 | some dl =>
 obtain⟨dm,a5⟩:=av8 q5;have cd:=ak1 (aa0 P (n+5)) (ok:=λ Y=>chk S5 Y [S.length]) a4 (e:=.call "read_door" (.ex (.X 0) .nil)) (f:=dF) (refs.drop 4) G none RD (λ a r x hr ha h0=>by
  obtain⟨y,hy⟩:=a5 r hr;have:=bs1 (P:=P) (n+3) hy ha;have hF:dF r=dD y:=by unfold dF;rw[hy]
  rw[hF];unfold ac3
  tbr_iter [this])
 rw[dm]at cd;have b6:zJ [some (.str w),some (.ref q),some (.ref h),some (.int Lv),some (.int Rv),none,none] [none]=[none]:=rfl;have e6:ex (aa0 P (n+5)) (.A (.Y 5) bP6) [some (.str w),some (.ref q),some (.ref h),some (.int Lv),some (.int Rv),none,none] S=.ok (.next [some (.str w),some (.ref q),some (.ref h),some (.int Lv),some (.int Rv),some (.tp (dl.map dD)),none]) S5:=by
  rw[ex_asg];show(R.bind (ev (aa0 P (n+5)) (.mk .tuple (.comp (.Y 0) bF3 (.call "read_door" (.ex (.X 0) .nil)) [none])) _ S) _)=_;rw[ev_mk,zK,eI,R.bind_ok];rw[if_pos a6,b6,cd];rfl
 show RdR s _ (R.bind (exs (aa0 P (n+5)) (.cons (.A (.Y 5) bP6) _) _ S) _) (xB (aa0 P (n+5)) (.seq (.A (.Y 5) bP6) ch6) _ S);rw[aU1 e6,zb,e6,R.bind_ok];have b1:S5[a2]?=some (.J (.str zR::r2.tail.map D.str)):=by rw[<-F];have:=za (t:=[.J (refs.drop 4)]) k2;rw[aC0 z2 t2]at this;exact this
 have b5:S5[a3]?=some (.J (.str tEnd::r3.tail.map D.str)):=by rw[<-F];have:=za (t:=[.J (refs.drop 4)]) k3;rw[aC0 z3 t3]at this;exact this
 have b2:r2.tail.length<=100000:=by have:=l2 r2 (by simp);rw[bV];lia
 have b3:r3.tail.length<=100000:=by have:=l2 r3 (by simp);rw[bV];lia
 have j2:ixM (.ref h) (.int 2) S5=.ok (.ref a2) S5:=by rw[<-F];exact i2 _
 have j3:ixM (.ref h) (.int 3) S5=.ok (.ref a3) S5:=by rw[<-F];exact i3 _
 generalize hU:([some (.str w),some (.ref q),some (.ref h),some (.int Lv),some (.int Rv),some (.tp (dl.map dD)),none]:Env)=U;have c2:ag7 (aa0 P (n+5)) (aH 2) U S5=.ok [.ref a2] S5:=by rw[<-hU];tbr_iter [j2]
 have c3:ag7 (aa0 P (n+5)) (aH 3) U S5=.ok [.ref a3] S5:=by rw[<-hU];tbr_iter [j3]
 have v2:evs (aa0 P (n+5)) (.cons (.X 3) (.cons (.X 4) .nil)) U S5=.ok [.int Lv,.int Rv] S5:=by rw[<-hU];tbr_iter []
 have x6:xB (aa0 P (n+5)) (.xasg (.tp (.cons (.X 3) (.cons (.X 4) .nil)) (.call "read_numbers" (aH 2)))) U S5=_:=(ba3 v2 c2).trans (aD3 (P:=P) (n+3) b2 b1);show RdR s _ _ (xB (aa0 P (n+5)) (.alt _ (.alt _ _)) _ S5);rw[aH3,x6];cases q6:fgs r2.tail with
 | none=>rw[aH1 (.inr (.inr (.inr (.inl q6))))];exact⟨T++[.J (refs.drop 4)]++[.J (r2.tail.map D.str)],by rw[<-ag,<-ag,J,F];rfl⟩
 | some bg =>
 have f6:=aD5 (P:=P) (n+3) q6 b2 b1;have v3:evs (aa0 P (n+5)) (.cons (.X 3) (.cons (.X 4) (.cons (.call "read_numbers" (aH 2)) .nil))) U S5=.ok [.int Lv,.int Rv,.tp (zn bg)] S5:=by rw[<-hU];tbr_iter [j2,f6]
 have x7:xB (aa0 P (n+5)) (.xasg (.tp (.cons (.X 3) (.cons (.X 4) (.cons (.call "read_numbers" (aH 2)) .nil))) (.call "read_numbers" (aH 3)))) U S5=_:=(ba3 v3 c3).trans (aD3 (P:=P) (n+3) b3 b5);show RdR s _ _ (xB (aa0 P (n+5)) (.alt _ _) _ S5);rw[aH3,x7];cases q7:fgs r3.tail with
 | none=>rw[aH1 (.inr (.inr (.inr (.inr q7))))];exact⟨T++[.J (refs.drop 4)]++[.J (r3.tail.map D.str)],by rw[<-ag,<-ag,J,F];rfl⟩
 | some en =>
 have f7:=aD5 (P:=P) (n+3) q7 b3 b5
 let m:MD:=⟨Lv,Rv,bg,en,dl⟩
 have c4:rd0 (r0::r1::r2::r3::G)=some m:=by
  show(match nmb r0,nmb r1,dors G,fgs r2.tail,fgs r3.tail with|some L,some R,some l,some b,some e=>some (MD.mk L R b e l)|_,_,_,_,_=>none)=_;rw[q0,q1,q5,q6,q7]
 have e8:ex (aa0 P (n+5)) (.A (.Y 6) bN5) U S5=.ok (.next [some (.str w),some (.ref q),some (.ref h),some (.int Lv),some (.int Rv),some (.tp (dl.map dD)),some m.d]) S5:=by
  rw[<-hU]
  tbr_iter [j2,j3,f6,f7]
  rfl
 obtain⟨b,eb,hb⟩:=aU5 (P:=P) n (s:=S5) (B:=100000) (by lia) (bO6 m (by decide) (by show bg.length<=_;rw[aW3 q6];exact b2) (by show en.length<=_;rw[aW3 q7];exact b3) (by show dl.length<=_;rw[aM2 q5];have l1:G.length+4<=w.length+1:=l1;lia) S5);have e9:ev (aa0 P (n+5)) bW9 [some (.str w),some (.ref q),some (.ref h),some (.int Lv),some (.int Rv),some (.tp (dl.map dD)),some m.d] S5=.ok (.T (!b)) S5:=by tbr_iter [eb]
 show RdR s _ (R.bind (exs (aa0 P (n+5)) (.cons (.A (.Y 6) bN5) _) U S5) _) (xB (aa0 P (n+5)) (.seq (.A (.Y 6) bN5) _) U S5);rw[aU1 e8,zb,e8,R.bind_ok,bK9 e9,aF2 hx,c4];show RdR s (open Classical in if aA8 m.d then some m else none) (R.bind (exs (aa0 P (n+5)) (.cons (.ite bW9 _ _) _) _ S5) _) _;rw[zb,ex_ite,e9];cases b with
 | false =>
  rw[if_neg (λ z=>by cases hb.mpr z)];exact⟨T++[.J (refs.drop 4)],by rw[<-ag,J,F];rfl⟩
 | true =>
  rw[if_pos (hb.mp rfl)];refine⟨?_,rfl⟩
  tbr_iter []
  rw[<-F,<-J,ag];exact qi (aP4 m) (by nofun)
end
noncomputable def ris (a k:Int):List Nat->Bool
 | []=>true
 | i::l=>(decide (a+1<=(i))&&decide ((i)<=k - 1))&&ris i k l
theorem bb5 k :∀ l a ,ris a k l=true↔(∀ i∈l,(i)<=k - 1)/\(∀ j x y ,l[j]?=some x->l[j+1]?=some y->x<y)/\∀ x:Nat,l[0]?=some x->a<(x)
 | [],a=>⟨λ _=>⟨λ i G=>(by cases G),λ j x y h=>(by cases h),λ x h=>(by cases h)⟩,λ _=>rfl⟩
 | i::l,a=>by
  have J:=bb5 k l (i);show((decide (a+1<=(i))&&decide ((i)<=k - 1))&&ris i k l)=true↔_;rw[am,am,decide_eq_true_eq,decide_eq_true_eq,J];constructor
  .rintro⟨⟨F,z⟩,h3,h4,h5⟩
   refine⟨λ x hx=>?_,λ j x y e1 e2=>?_,λ x e=>(by cases e;lia)⟩
   .rcases aw.mp hx with rfl|hx
    .exact z
    .exact h3 x hx
   .cases j with
    | zero =>
     cases e1;have:=h5 y e2;lia
    | succ j=>exact h4 j x y e1 e2
  .rintro⟨F,z,h3⟩
   refine⟨⟨?_,F i (au ..)⟩,λ x hx=>F x (ai _ hx),λ j x y e1 e2=>z (j+1) x y e1 e2,λ x e=>?_⟩
   .have:=h3 i rfl;lia
   .have:=z 0 i x rfl e;lia
def bK2 :ris (-1) k l=true↔bW8 k (.tp (zn l)):=by
 rw[bb5];constructor
 .rintro⟨G,z,_⟩
  refine⟨_,rfl,λ x hx=>?_,λ j a b e1 e2=>?_⟩
  .obtain⟨i,F,rfl⟩:=aN.mp hx;exact⟨i,rfl,by lia,G i F⟩
  .unfold zn at e1 e2;rw[aY]at e1 e2;cases q1:l[j]? with
   | none=>rw[q1]at e1;cases e1
   | some x=>cases q2:l[j+1]? with
    | none=>rw[q2]at e2;cases e2
    | some y =>
     rw[q1]at e1;rw[q2]at e2;cases e1;cases e2;have:=z j x y q1 q2;omega
 .rintro⟨J,e,G,z⟩
  cases e;refine⟨λ i F=>?_,λ j x y e1 e2=>?_,λ x _=>by lia⟩
  .obtain⟨Y,e,_,h⟩:=G (.int (i)) (cJ F);cases e;exact h
  .have:=z j x y (by unfold zn;rw[aY,e1];rfl) (by unfold zn;rw[aY,e2];rfl);lia
noncomputable abbrev aH5:Ss:=.cons (.ite (.not (.call "_law_whole" (.ex (.X 3) (.ex (.G .add (.X 2) (.K (.int 1))) (.ex (.G .sub (.X 1) (.K (.int 1))) .nil))))) (.cons (.ret (.K (.T false))) .nil) .nil) (.cons (.A (.Y 2) (.X 3)) .nil)
section
variable {P:Pr} [Has P ad9] [Has P ac0] [Has P ab8] [Has P ab3]
theorem aP0 n s :∀ l a x ,∃ U',ax9 (λ S=>chk s S []) (turn (aa0 P (n+1)) (.Y 3) aH5) (zn l) [some t,some (.int k),some (.int a),x] s=if ris a k l then .ok (.next U') s else .ok (.ret (.T false)) s
 | [],a,x=>⟨_,rfl⟩
 | i::l,a,x=>by
  obtain⟨U',y⟩:=aP0 n s l (i) (some (.int i));refine⟨U',?_⟩;have hw:=zW (P:=P) n (i) (a+1) (k - 1) s;show(if chk s s []then(turn (aa0 P (n+1)) (.Y 3) aH5 (.int (i)) [some t,some (.int k),some (.int a),x] s).bind (λ c s=>match c with
   | .next U=>ax9 (λ S=>chk s S []) (turn (aa0 P (n+1)) (.Y 3) aH5) (zn l) U s
   | .cont U=>ax9 (λ S=>chk s S []) (turn (aa0 P (n+1)) (.Y 3) aH5) (zn l) U s
   | .brk U=>.ok (.next U) s
   | .ret d=>.ok (.ret d) s)else .B)=(if((decide (a+1<=(i))&&decide ((i)<=k - 1))&&ris i k l)=true then _ else _)
  rw[show chk s s []=true from rfl,if_pos rfl];cases hb:(decide (a+1<=(i))&&decide ((i)<=k - 1))with
  | true =>
   rw[hb]at hw;have e:turn (aa0 P (n+1)) (.Y 3) aH5 (.int (i)) [some t,some (.int k),some (.int a),x] s=.ok (.next [some t,some (.int k),some (.int i),some (.int i)]) s:=by
    unfold turn
    tbr_iter [hw]
   rw[e,cj];exact y
  | false =>
   rw[hb]at hw;have e:turn (aa0 P (n+1)) (.Y 3) aH5 (.int (i)) [some t,some (.int k),some (.int a),x] s=.ok (.ret (.T false)) s:=by
    unfold turn
    tbr_iter [hw]
   rw[e,li];rfl
def bp8  n  l  k  s :(aa0 P (n+2)).call "_law_are_rooms" [.tp (zn l),.int k] s=.ok (.T (ris (-1) k l)) s:=by
 have e0:(aa0 P (n+2)).call "_law_are_rooms" [.tp (zn l),.int k] s=_:=ze ac0 rfl;rw[e0,show(cg some [D.tp (zn l),.int k]++ax ac0.vs none)=[some (.tp (zn l)),some (.int k),none,none]from rfl];have F:bi .isTup [.tp (zn l)] s=.ok (.T true) s:=rfl;have y:∀ S:Sto,ev (aa0 P (n+1)) (.neg (.K (.int 1))) [some (.tp (zn l)),some (.int k),none,none] S=.ok (.int (-1)) S:=λ _=>rfl;have z:qG (.tp (zn l)) s=.ok ⟨zn l,[]⟩ s:=rfl;obtain⟨U',hl⟩:=aP0 (P:=P) n s l (-1) none;unfold ac0
 tbr_iter [F,y,z]
 rw[hl];cases ris (-1) k l with
 | true=>tbr_iter [];exact zx (λ _=>rfl) (by nofun)
 | false=>exact zx (λ _=>rfl) (by nofun)
def cm2 {L}(y:1<=L)(h3:L<=3) c s :inM (.str [c]) (.str ([97,98,99].take L)) s=.ok (decide (97<=c/\c<97+L)) s:=by
 show R.ok (decide (c∈[97,98,99].take L)) s=_
 congr 1
 rcases(show L=1\/L=2\/L=3 by lia)with rfl|rfl|rfl<;>(apply decide_eq_decide.mpr;simp;lia)
noncomputable def bh0 (L:Nat)(R:Int)(x:Dx):Bool:=match x.2.1 with
 | [c]=>(decide ((x.1)<=R - 1)&&decide ((x.2.2.1)<=R - 1))&&(decide (97<=c/\c<97+L)&&decide ((x.2.2.2:Int)<=3))
 | _=>false
def bs3 {L}{R}:bh0 L R x=true↔aY1 L R (dD x):=by
 obtain⟨i,w,j,t⟩:=x;constructor
 .intro h;unfold bh0 at h;dsimp only at h;split at h
  .rename_i c;simp only[am,decide_eq_true_eq]at h;exact⟨_,_,_,_,rfl,⟨i,rfl,by lia,h.1.1⟩,⟨c,rfl,h.2.1.1,h.2.1.2⟩,⟨j,rfl,by lia,h.1.2⟩,⟨t,rfl,by lia,h.2.2⟩⟩
  .cases h
 .rintro⟨a,b,c,d,e,⟨Y,e1,_,F⟩,⟨G,e2,y⟩,⟨J,e3,_,h3⟩,⟨t',z,_,h4⟩⟩
  subst e1 e2 e3 z;cases e;unfold bh0;simp only[am,decide_eq_true_eq];exact⟨⟨F,h3⟩,y,h4⟩
def bZ6  n {L:Nat}(h1:1<=L)(h3:L<=3) y  x  s :(aa0 P (n+2)).call "_law_is_door" [dD x,.int L,.int y] s=.ok (.T (bh0 L y x)) s:=by
 obtain⟨i,w,j,t⟩:=x;have e0:(aa0 P (n+2)).call "_law_is_door" [dD (i,w,j,t),.int L,.int y] s=_:=ze ab8 rfl;have a1:dD (i,w,j,t)=.tp [.int i,.str w,.int j,.int t]:=rfl;rw[e0,a1,show(cg some [D.tp [.int i,.str w,.int j,.int t],.int L,.int y]++ax ab8.vs none)=[some (.tp [.int i,.str w,.int j,.int t]),some (.int L),some (.int y)]from rfl];have iT:bi .isTup [.tp [.int i,.str w,.int j,.int t]] s=.ok (.T true) s:=rfl;have J:bi .len [.tp [.int i,.str w,.int j,.int t]] s=.ok (.int 4) s:=rfl;have i0:ixM (.tp [.int i,.str w,.int j,.int t]) (.int 0) s=.ok (.int i) s:=rfl;have i1:ixM (.tp [.int i,.str w,.int j,.int t]) (.int 1) s=.ok (.str w) s:=rfl;have i2:ixM (.tp [.int i,.str w,.int j,.int t]) (.int 2) s=.ok (.int j) s:=rfl;have i3:ixM (.tp [.int i,.str w,.int j,.int t]) (.int 3) s=.ok (.int t) s:=rfl;have Y:bi .isStr [.str w] s=.ok (.T true) s:=rfl;have Z:bi .len [.str w] s=.ok (.int w.length) s:=rfl;have d4:decide ((4:Int)=4)=true:=rfl;have w0:=zW (P:=P) n (i) 0 (y - 1) s;have F:=zW (P:=P) n (j) 0 (y - 1) s;have w3:=zW (P:=P) n (t) 0 3 s;rw[decide_eq_true (by lia),cj]at w0;rw[decide_eq_true (by omega),cj]at F;rw[decide_eq_true (by omega),cj]at w3;have fin:∀ b:Bool,zw s (.T b) s=.ok (.T b) s:=λ b=>zx (λ _=>rfl) (by nofun);by_cases h:w.length=1
 .obtain⟨c,rfl⟩:∃ c,w=[c]:=by
   match w,h with
   | [c],_=>exact⟨c,rfl⟩
  have d1:decide ((([c]:List Nat).length:Int)=1)=true:=rfl;have G:=bM5 h3 s;have a0:=cm2 h1 h3 c s;have z:zQ .isin (.str [c]) (.str ([97,98,99].take L)) s=.ok (.T (decide (97<=c/\c<97+L))) s:=by
   show(inM (.str [c]) (.str ([97,98,99].take L)) s).bind (λ r s=>R.ok (D.T r) s)=_;rw[a0];rfl
  show _=R.ok (D.T ((decide ((i:Int)<=y - 1)&&decide ((j:Int)<=y - 1))&&(decide (97<=c/\c<97+L)&&decide ((t:Int)<=3)))) s;unfold ab8;cases q0:decide ((i)<=y - 1)with
  | false =>
   rw[q0]at w0
   tbr_iter [iT,J,d4,i1,Y,Z,d1,i0,w0]
   exact fin _
  | true =>
   rw[q0]at w0;cases q2:decide ((j)<=y - 1)with
   | false =>
    rw[q2]at F
    tbr_iter [iT,J,d4,i1,Y,Z,d1,i0,w0,i2,F]
    exact fin _
   | true =>
    rw[q2]at F;cases q4:decide (97<=c/\c<97+L)with
    | false =>
     rw[q4]at z
     tbr_iter [iT,J,d4,i1,Y,Z,d1,i0,w0,i2,F,zO,G,z]
     exact fin _
    | true =>
     rw[q4]at z
     tbr_iter [iT,J,d4,i1,Y,Z,d1,i0,w0,i2,F,zO,G,z,i3,w3]
     exact fin _
 .have d1:decide ((w.length:Int)=1)=false:=decide_eq_false (by lia);have hf:bh0 L y (i,w,j,t)=false:=by
   match w,h with
   | [],_=>rfl
   | [_],h=>exact absurd rfl h
   | _::_::_,_=>rfl
  rw[hf];unfold ab8
  tbr_iter [iT,J,d4,i1,Y,Z,d1]
  exact fin _
end
def mB (m:MD):Bool:=(decide ((1:Int)<=(m.R:Int))&&decide ((m.R:Int)<=5))&&(!decide ((75:Int)<(m.ds.length:Int))&&(ris (-1) m.R m.bg&&(ris (-1) m.R m.en&&m.ds.all (bh0 m.L m.R))))
def ck6 (Y:1<=m.L)(h3:m.L<=3):mB m=true↔aA8 m.d:=by
 have z:m.ds.all (bh0 m.L m.R)=true↔∀ x∈m.ds.map dD,aY1 m.L m.R x:=by
  rw[aD];constructor
  .intro h x hx;obtain⟨y,hy,rfl⟩:=aN.mp hx;exact bs3.mp (h y hy)
  .intro h x hx;exact bs3.mpr (h _ (cJ hx))
 unfold mB;rw[am,am,am,am,am,decide_eq_true_eq,decide_eq_true_eq,eP,decide_eq_false_iff_not,bK2,bK2,z];constructor
 .rintro⟨F,J,hb,he,hd⟩
  exact⟨m.L,m.R,_,_,_,rfl,⟨Y,h3⟩,F,hb,he,_,rfl,by rw[ao];lia,hd⟩
 .rintro⟨L,Z,b,e,ds,q,hL,F,hb,he,l,hl,hn,hd⟩
  simp only[MD.d,D.tp.injEq,fQ,D.int.injEq,and_true]at q;obtain⟨G,rfl,rfl,rfl,rfl⟩:=q;cases hl;have G:L=m.L:=by lia
  subst G;rw[ao]at hn;exact⟨F,by lia,hb,he,hd⟩
theorem cc7:∀ l:List Bool,ah4 (l.map D.T)=some l
 | []=>rfl
 | b::l=>by
  show(ah4 (l.map D.T)).map (b::·)=_;rw[cc7 l];rfl
section
variable {P:Pr} [Has P ad9] [Has P ac0] [Has P ab8] [Has P ab3]
theorem ao0  n {L:Nat}(G:1<=L)(h3:L<=3)(J:∀ S,ixM y (.int 1) S=.ok (.int F) S) s :∀(z:List Dx)  x ,ae5 (λ S=>chk s S []) (ac3 (aa0 P (n+2)) (.Y 0) (.call "_law_is_door" (.ex (.X 0) (.ex (.X 1) (.ex (.ix (.X 2) (.K (.int 1))) .nil))))) (z.map dD) [x,some (.int L),some y] s=.ok ((z.map (bh0 L F)).map D.T) s
 | [],x=>rfl
 | d::z,x=>by
  have Y:=ao0 n G h3 J s z (some (dD d));have e1:=bZ6 (P:=P) n G h3 F d s;have hr:=J s;have hg:ac3 (aa0 P (n+2)) (.Y 0) (.call "_law_is_door" (.ex (.X 0) (.ex (.X 1) (.ex (.ix (.X 2) (.K (.int 1))) .nil)))) (dD d) [x,some (.int L),some y] s=.ok (some (.T (bh0 L F d)),[some (dD d),some (.int L),some y]) s:=by
   unfold ac3
   tbr_iter [hr,e1]
  show(if chk s s []then(ac3 (aa0 P (n+2)) (.Y 0) (.call "_law_is_door" (.ex (.X 0) (.ex (.X 1) (.ex (.ix (.X 2) (.K (.int 1))) .nil)))) (dD d) [x,some (.int L),some y] s).bind (λ p s'=>(ae5 (λ S=>chk s S []) (ac3 (aa0 P (n+2)) (.Y 0) (.call "_law_is_door" (.ex (.X 0) (.ex (.X 1) (.ex (.ix (.X 2) (.K (.int 1))) .nil))))) (z.map dD) p.2 s').bind λ r s=>R.ok (match p.1 with|some v=>v::r|none=>r) s)else .B)=_;rw[show chk s s []=true from rfl,if_pos rfl,hg];simp only[R.bind_ok];rw[Y];rfl
def ce0  n (h1:1<=m.L)(h3:m.L<=3) s :(aa0 P (n+3)).call "_law_is_machine" [m.d,.int m.L] s=.ok (.T (mB m)) s:=by
 have e0:(aa0 P (n+3)).call "_law_is_machine" [m.d,.int m.L] s=_:=ze ab3 rfl;rw[e0,show(cg some [m.d,.int m.L]++ax ab3.vs none)=[some m.d,some (.int m.L)]from rfl];have iT:bi .isTup [m.d] s=.ok (.T true) s:=rfl;have J:bi .len [m.d] s=.ok (.int 5) s:=rfl;have G:decide ((5)=5)=true:=rfl;have Y:ixM m.d (.int 0) s=.ok (.int m.L) s:=rfl;have F:∀ S,ixM m.d (.int 1) S=.ok (.int m.R) S:=λ _=>rfl;have i2:ixM m.d (.int 2) s=.ok (.tp (zn m.bg)) s:=rfl;have i3:ixM m.d (.int 3) s=.ok (.tp (zn m.en)) s:=rfl;have i4:ixM m.d (.int 4) s=.ok (.tp (m.ds.map dD)) s:=rfl;have y:bi .isTup [.tp (m.ds.map dD)] s=.ok (.T true) s:=rfl;have z:bi .len [.tp (m.ds.map dD)] s=.ok (.int m.ds.length) s:=by rw[bB3,ao]
 have w0:=zW (P:=P) (n+1) (m.L) m.L m.L s;rw[decide_eq_true (iI _),cj]at w0;have w1:=zW (P:=P) (n+1) (m.R) 1 5 s;have r2:=bp8 (P:=P) n m.bg m.R s;have r3:=bp8 (P:=P) n m.en m.R s;have fin:∀ b:Bool,zw s (.T b) s=.ok (.T b) s:=λ b=>zx (λ _=>rfl) (by nofun);have sD:qG (.tp (m.ds.map dD)) s=.ok ⟨m.ds.map dD,[]⟩ s:=rfl;unfold mB ab3;cases qR:(decide ((1)<=(m.R:Int))&&decide ((m.R:Int)<=5))with
 | false =>
  rw[qR]at w1
  tbr_iter [iT,J,G,Y,w0,F,w1]
  exact fin _
 | true =>
  rw[qR]at w1;cases q75:decide ((75)<(m.ds.length:Int))with
  | true =>
   tbr_iter [iT,J,G,Y,w0,F,w1,i4,y,z,q75]
   exact fin _
  | false =>
   have a0:(m.ds.map dD).length<=LIM:=by have:=of_decide_eq_false q75;rw[ao];unfold LIM;lia
   have cd:=ao0 (P:=P) n h1 h3 F s m.ds none;have Z:zJ [some m.d,some (.int m.L)] [none,some 1,some 0]=[none,some (.int m.L),some m.d]:=rfl;have a1:∀ l:List Bool,mk .all (l.map D.T) s=.ok (.T (l.all id)) s:=λ l=>by
    show(match ah4 (l.map D.T)with|some l=>R.ok (D.T (l.all id)) s|none=>.B)=_;rw[cc7]
   have ha:=a1 (m.ds.map (bh0 m.L m.R));rw[fY]at ha;cases q2:ris (-1) m.R m.bg with
   | false =>
    rw[q2]at r2
    tbr_iter [iT,J,G,Y,w0,F,w1,i4,y,z,q75,i2,r2]
    exact fin _
   | true =>
    rw[q2]at r2;cases q3:ris (-1) m.R m.en with
    | false =>
     rw[q3]at r3
     tbr_iter [iT,J,G,Y,w0,F,w1,i4,y,z,q75,i2,r2,i3,r3]
     exact fin _
    | true =>
     rw[q3]at r3
     tbr_iter [iT,J,G,Y,w0,F,w1,i4,y,z,q75,i2,r2,i3,r3,zK,sD,a0,Z,cd,ha]
     exact fin _
end
theorem az5:∀ {ws},fgs ws=none↔∃ w∈ws,fig w=none
 | []=>⟨λ h=>(by cases h),λ⟨w,hw,_⟩=>(by cases hw)⟩
 | w::ws=>by
  have y:=az5 (ws:=ws);have hf:fgs (w::ws)=match fig w,fgs ws with|some k,some l=>some (k::l)|_,_=>none:=rfl
  rw[hf];constructor
  .intro h;cases e1:fig w with
   | none=>exact⟨w,au ..,e1⟩
   | some k=>cases e2:fgs ws with
    | none =>
     obtain⟨x,hx,hn⟩:=y.mp e2;exact⟨x,ai _ hx,hn⟩
    | some l=>rw[e1,e2]at h;cases h
  .rintro⟨x,hx,hn⟩
   rcases aw.mp hx with rfl|hx
   .rw[hn]
   .rw[y.mpr ⟨x,hx,hn⟩];cases fig w<;>rfl
def isD (r:List (List Nat)):Bool:=(r.headD []==zH)&&decide (r.length=5)
noncomputable def sg3 (r:List (List Nat)):List (List Nat):=[r.getD 1 [],r.getD 3 [],r.getD 4 []]
def aY9 (h:isD r=true):∃ a w b t,r=[zH,a,w,b,t]:=by
 unfold isD at h;rw[am,decide_eq_true_eq]at h;obtain⟨x,a,w,b,t,rfl⟩:=aK7 h.2;have:x=zH:=eq_of_beq h.1;exact⟨a,w,b,t,by rw[this]⟩
def bP7 (h0:r≠[])(h:isD r=false):dor r=none:=by
 by_cases z:r.length=5
 .obtain⟨x,a,w,b,t,rfl⟩:=aK7 z;refine if_neg λ e=>?_;subst e;cases h
 .exact az2 z
def aN5 (h:isD r=true):dor r=none↔∃ w∈sg3 r,fig w=none:=by
 obtain⟨a,w,b,t,rfl⟩:=aY9 h;have e:dor [zH,a,w,b,t]=(match fig a,fig b,fig t with|some i,some j,some k=>some (i,w,j,k)|_,_,_=>none):=(if_pos rfl:(if zH=zH then _ else none)=_)
 have es:sg3 [zH,a,w,b,t]=[a,b,t]:=rfl;rw[e,es];constructor
 .intro h;cases e1:fig a with
  | none=>exact⟨a,by simp,e1⟩
  | some i=>cases e2:fig b with
   | none=>exact⟨b,by simp,e2⟩
   | some j=>cases e3:fig t with
    | none=>exact⟨t,by simp,e3⟩
    | some k=>rw[e1,e2,e3]at h;cases h
 .rintro⟨x,hx,hn⟩
  simp only[aw,aR,or_false]at hx;rcases hx with rfl|rfl|rfl
  .rw[hn]
  .rw[hn];cases fig a<;>rfl
  .rw[hn];cases fig a<;>cases fig b<;>rfl
theorem aq3:∀ {rs},dors rs=none↔∃ r∈rs,dor r=none
 | []=>⟨λ h=>(by cases h),λ⟨w,hw,_⟩=>(by cases hw)⟩
 | r::rs=>by
  have y:=aq3 (rs:=rs);have hf:dors (r::rs)=match dor r,dors rs with|some x,some l=>some (x::l)|_,_=>none:=rfl
  rw[hf];constructor
  .intro h;cases e1:dor r with
   | none=>exact⟨r,au ..,e1⟩
   | some k=>cases e2:dors rs with
    | none =>
     obtain⟨x,hx,hn⟩:=y.mp e2;exact⟨x,ai _ hx,hn⟩
    | some l=>rw[e1,e2]at h;cases h
  .rintro⟨x,hx,hn⟩
   rcases aw.mp hx with rfl|hx
   .rw[hn]
   .rw[y.mpr ⟨x,hx,hn⟩];cases dor r<;>rfl
def sgs (r0 r1 r2 r3:List (List Nat))(ds:List (List (List Nat))):List (List Nat):=[r0.getD 1 [],r1.getD 1 []]++r2.tail++r3.tail++(ds.map sg3).flatten
def bk1 (h0:r0.length=2)(F:r1.length=2)(hd:z.all isD=true):(∃ w∈sgs r0 r1 r2 r3 z,fig w=none)↔nmb r0=none\/nmb r1=none\/dors z=none\/fgs r2.tail=none\/fgs r3.tail=none:=by
 have two:∀ {r},r.length=2->nmb r=fig (r.getD 1 []):=λ {r} h=>by
  match r,h with
  | [_,_],_=>rfl
 rw[two h0,two F,az5,az5,aq3];unfold sgs;constructor
 .rintro⟨w,hw,hn⟩
  simp only[cH,aw,aR,or_false]at hw;rcases hw with((((rfl|rfl)|hw)|hw)|hw)
  .exact .inl hn
  .exact .inr (.inl hn)
  .exact .inr (.inr (.inr (.inl ⟨w,hw,hn⟩)))
  .exact .inr (.inr (.inr (.inr ⟨w,hw,hn⟩)))
  .obtain⟨l,hl,y⟩:=kJ.mp hw;obtain⟨r,hr,rfl⟩:=aN.mp hl;exact .inr (.inr (.inl ⟨r,hr,(aN5 (aD.mp hd r hr)).mpr ⟨w,y,hn⟩⟩))
 .rintro(h|h|⟨r,hr,hn⟩|⟨w,hw,hn⟩|⟨w,hw,hn⟩)
  .exact⟨_,by simp,h⟩
  .exact⟨_,by simp,h⟩
  .obtain⟨w,hw,hn⟩:=(aN5 (aD.mp hd r hr)).mp hn;exact⟨w,aO _ (kJ.mpr ⟨_,cJ hr,hw⟩),hn⟩
  .exact⟨w,by simp[hw],hn⟩
  .exact⟨w,by simp[hw],hn⟩
abbrev c2L:E:=.or (.Z .lt (.bi .len (.cons (.X 1) .nil)) (.K (.int 4))) (.Z .ne (.mk .list (.comp (.Y 0) (.seq (.slU (.X 1) (.K (.int 4)))) (.ix (.X 0) (.K (.int 0))) [none])) (.J (.cons (.K (.str am1)) (.cons (.K (.str qu)) (.cons (.K (.str zR)) (.cons (.K (.str tEnd)) .nil))))))
abbrev c3L:E:=.or (.Z .ne (.bi .len (.cons (.ix (.X 1) (.K (.int 0))) .nil)) (.K (.int 2))) (.or (.Z .ne (.bi .len (.cons (.ix (.X 1) (.K (.int 1))) .nil)) (.K (.int 2))) (.not (.mk .all (.comp (.Y 0) (.seq (.slL (.X 1) (.K (.int 4)))) (.and (.Z .eq (.ix (.X 0) (.K (.int 0))) (.K (.str zH))) (.Z .eq (.bi .len (.cons (.X 0) .nil)) (.K (.int 5)))) [none]))))
noncomputable abbrev e4L:E:=.G .add (.G .add (.J (.cons (.ix (.ix (.X 1) (.K (.int 0))) (.K (.int 1))) (.cons (.ix (.ix (.X 1) (.K (.int 1))) (.K (.int 1))) .nil))) (.slL (.ix (.X 1) (.K (.int 2))) (.K (.int 1)))) (.slL (.ix (.X 1) (.K (.int 3))) (.K (.int 1)))
noncomputable abbrev b5L:Ss:=.cons (.A (.Y 2) (.G .add (.X 2) (.J (.cons (.ix (.X 3) (.K (.int 1))) (.cons (.ix (.X 3) (.K (.int 3))) (.cons (.ix (.X 3) (.K (.int 4))) .nil)))))) .nil
abbrev s5L:S:=.fo (.Y 3) (.seq (.slL (.X 1) (.K (.int 4)))) b5L
noncomputable abbrev x6L:E:=.Z .isin (.X 0) (.mk .list (.seq (.K (.str [48,49,50,51,52,53,54,55,56,57]))))
abbrev c6L:E:=.not (.mk .all (.comp (.Y 0) (.seq (.X 2)) x6L [none]))
noncomputable abbrev x7L:E:=.tp (.cons (.bi .int (.cons (.ix (.X 0) (.K (.int 1))) .nil)) (.cons (.ix (.X 0) (.K (.int 2))) (.cons (.bi .int (.cons (.ix (.X 0) (.K (.int 3))) .nil)) (.cons (.bi .int (.cons (.ix (.X 0) (.K (.int 4))) .nil)) .nil))))
abbrev e7L:E:=.mk .tuple (.comp (.Y 0) (.seq (.slL (.X 1) (.K (.int 4)))) x7L [none])
noncomputable abbrev eNL (i:Int):E:=.mk .tuple (.comp (.Y 0) (.seq (.slL (.ix (.X 1) (.K (.int i))) (.K (.int 1)))) (.bi .int (.cons (.X 0) .nil)) [none])
abbrev e9L:E:=.tp (.cons (.bi .int (.cons (.ix (.ix (.X 1) (.K (.int 0))) (.K (.int 1))) .nil)) (.cons (.bi .int (.cons (.ix (.ix (.X 1) (.K (.int 1))) (.K (.int 1))) .nil)) (.cons (.X 5) (.cons (eNL 3) (.cons (.X 4) .nil)))))
noncomputable abbrev ci2:E:=.or (.not (.chain .le .le (.K (.int 1)) (.ix (.X 6) (.K (.int 0))) (.K (.int 3)))) (.not (.call "_law_is_machine" (.ex (.X 6) (.ex (.ix (.X 6) (.K (.int 0))) .nil))))
def bz9:af9.body=.cons (.A (.Y 1) aS9) (.cons (.ite c2L (.cons (.ret (.K .N)) .nil) .nil) (.cons (.ite c3L (.cons (.ret (.K .N)) .nil) .nil) (.cons (.A (.Y 2) e4L) (.cons s5L (.cons (.ite c6L (.cons (.ret (.K .N)) .nil) .nil) (.cons (.A (.Y 4) e7L) (.cons (.A (.Y 5) (eNL 2)) (.cons (.A (.Y 6) e9L) (.cons (.ite ci2 (.cons (.ret (.K .N)) .nil) .nil) (.cons (.ret (.X 6)) .nil)))))))))):=rfl
structure L8 (S:Sto)(q:Nat)(refs:List D)(rs:List (List (List Nat))):Prop where
 rw_:∀ Uu,RwI (S++Uu) refs rs
 q_:∀ Uu,(S++Uu)[q]?=some (.J refs)
def L8.app {S}{refs}(h:L8 S q refs rs) V :L8 (S++V) q refs rs:=⟨λ Uu=>by rw[ag];exact h.rw_ _,λ Uu=>by rw[ag];exact h.q_ _⟩
def L8.r {S}{refs}(h:L8 S q refs rs):RwI S refs rs:=by have:=h.rw_ [];rwa [az]at this
def L8.q {S}{q}{refs}(h:L8 S q refs rs):S[q]?=some (.J refs):=by have:=h.q_ [];rwa [az]at this
def L8.ix {S}{q}{refs}(h:L8 S q refs rs){i:Nat}{r}(hr:rs[i]?=some r):∃ a,ixM (.ref q) (.int (i)) S=.ok (.ref a) S/\S[a]?=some (.J (r.map D.str))/\r≠[]:=by
 obtain⟨a,g,k,z⟩:=h.r.get i hr;exact⟨a,ai4 h.q g,k,z⟩
def L8.sl4 {S}{q}{refs}(h:L8 S q refs rs)(h4:4<=rs.length):slM (.ref q) (some 4) none S=.ok (.ref S.length) (S++[.J (refs.drop 4)]):=by
 have z:=h.r.len;have y:=h.q;have hc:=ce7 (l:=refs) (k:=4);rw[show((4:Nat):Int)=4 from rfl,show min 4 refs.length=4 by lia,bU (by rw[be];exact av _)]at hc;unfold slM;simp only[y,zT,hc]
def ce2 F {S}{refs}(h:L8 S q refs rs) x0 (U:Env):∃ Uu,ev F c2L (x0::some (.ref q)::U) S=.ok (.T (!(hdW rs==ar6))) (S++Uu):=by
 have hl:=aI3 h.q;have a2:=h.r.len;by_cases h4:rs.length<4
 .have d4:decide ((refs.length:Int)<4)=true:=decide_eq_true (by lia);have:(hdW rs==ar6)=false:=by
   cases z:hdW rs==ar6 with
   | false=>rfl
   | true =>
    have:=congrArg et (eq_of_beq z);have e2:(hdW rs).length=min 4 rs.length:=by unfold hdW;rw[ao,aQ]
    rw[e2]at this;have e3:ar6.length=4:=rfl;lia
  rw[this];refine⟨[],?_⟩;rw[az]
  tbr_iter [hl,d4]
 .have d4:decide ((refs.length:Int)<4)=false:=decide_eq_false (by lia);have Y:slM (.ref q) none (some 4) S=.ok (.ref S.length) (S++[.J (refs.take 4)]):=by
   unfold slM;have hc:=bY6 (l:=refs) (k:=4);rw[show((4:Nat):Int)=4 from rfl,<-eX]at hc;have:=h.q;simp only[this,zT,hc]
  have sq:qG (.ref S.length) (S++[.J (refs.take 4)])=.ok ⟨refs.take 4,[S.length]⟩ (S++[.J (refs.take 4)]):=by simp only[qG,zf]
  have Z:(refs.take 4).length<=LIM:=by rw[aQ];unfold LIM;lia
  have c2:=ak1 F (ok:=λ a1=>chk (S++[.J (refs.take 4)]) a1 [S.length]) (S:=S++[.J (refs.take 4)]) (by simp[chk]) (e:=.ix (.X 0) (.K (.int 0))) (f:=λ r=>.str (r.headD [])) (refs.take 4) (rs.take 4) none ((h.rw_ _).take 4) (λ a r x hr ha h0=>by
   cases r with
   | nil=>exact absurd rfl h0
   | cons y r =>
    have hi:ixM (.ref a) (.int 0) (S++[.J (refs.take 4)])=.ok (.str y) (S++[.J (refs.take 4)]):=qy (j:=0) ha rfl;unfold ac3
    tbr_iter [hi]
    rfl)
  have hH:(rs.take 4).map (λ r=>D.str (r.headD []))=(hdW rs).map D.str:=by unfold hdW;rw[ce];rfl
  rw[hH]at c2;have G:zJ (x0::some (.ref q)::U) [none]=[none]:=rfl;have J:=be2 (s:=S++[.J (refs.take 4)]++[.J ((hdW rs).map D.str)]++[.J (ar6.map D.str)]) (a:=(S++[O.J (refs.take 4)]).length) (b:=(S++[O.J (refs.take 4)]++[O.J ((hdW rs).map D.str)]).length) (za zf) zf;have a0:ar6.map D.str=[.str am1,.str qu,.str zR,.str tEnd]:=rfl;rw[a0]at J;refine⟨[.J (refs.take 4)]++[.J ((hdW rs).map D.str)]++[.J [.str am1,.str qu,.str zR,.str tEnd]],?_⟩;simp only[<-ag]
  tbr_iter [hl,d4,zK,zO,Y,sq,Z,G,c2,mk,J]
def bw0 a b s :zQ .eq (.str a) (.str b) s=.ok (.T (a==b)) s:=rfl
def ci4 (l:List Bool) s :mk .all (l.map D.T) s=.ok (.T (l.all id)) s:=by
 show(match ah4 (l.map D.T)with|some l=>R.ok (D.T (l.all id)) s|none=>.B)=_;rw[cc7]
def ca0 F {S}{refs}(h:L8 S q refs (r0::r1::r2::r3::z))(hl:z.length<=100000) x0 (U:Env):∃ Uu,ev F c3L (x0::some (.ref q)::U) S=.ok (.T (!(decide (r0.length=2)&&(decide (r1.length=2)&&z.all isD)))) (S++Uu):=by
 obtain⟨a0,G,k0,_⟩:=h.ix (i:=0) rfl;obtain⟨a1,Z,k1,_⟩:=h.ix (i:=1) rfl;have G:ixM (.ref q) (.int 0) S=.ok (.ref a0) S:=G;have Z:ixM (.ref q) (.int 1) S=.ok (.ref a1) S:=Z;have l0:=bi3 k0;have l1:=bi3 k1;by_cases h0:r0.length=2
 .have Y:decide ((r0.length:Int)=2)=true:=decide_eq_true (by lia);by_cases h1:r1.length=2
  .have d1:decide ((r1.length:Int)=2)=true:=decide_eq_true (by lia);have a2:=h.sl4 (by simp);have sq:qG (.ref S.length) (S++[.J (refs.drop 4)])=.ok ⟨refs.drop 4,[S.length]⟩ (S++[.J (refs.drop 4)]):=by simp only[qG,zf]
   have a3:=h.r.len;have a4:(refs.drop 4).length<=LIM:=by rw[be,a3];simp only[aE];unfold LIM;lia
   have J:zJ (x0::some (.ref q)::U) [none]=[none]:=rfl;have cd:=ak1 F (ok:=λ a5=>chk (S++[.J (refs.drop 4)]) a5 [S.length]) (S:=S++[.J (refs.drop 4)]) (by simp[chk]) (e:=.and (.Z .eq (.ix (.X 0) (.K (.int 0))) (.K (.str zH))) (.Z .eq (.bi .len (.cons (.X 0) .nil)) (.K (.int 5)))) (f:=λ r=>.T (isD r)) (refs.drop 4) z none ((h.rw_ _).drop 4) (λ a r x hr ha h0=>by
    cases r with
    | nil=>exact absurd rfl h0
    | cons y r =>
     have hi:ixM (.ref a) (.int 0) (S++[.J (refs.drop 4)])=.ok (.str y) (S++[.J (refs.drop 4)]):=qy (j:=0) ha rfl;have he:=bw0 y zH (S++[.J (refs.drop 4)]);have hl:=bi3 ha;have e5:decide (((y::r).length:Int)=5)=decide ((y::r).length=5):=by apply decide_eq_decide.mpr;lia
     show _=R.ok (some (D.T ((y==zH)&&decide ((y::r).length=5))),_) _;rw[<-e5];unfold ac3;cases q:y==zH with
     | false=>rw[q]at he;tbr_iter [hi,he];rfl
     | true=>rw[q]at he;tbr_iter [hi,he,hl];rfl)
   have ha:=ci4 (z.map isD) (S++[.J (refs.drop 4)]);rw[ce,fY]at ha;have ha:mk .all (z.map λ r=>.T (isD r)) (S++[.J (refs.drop 4)])=.ok (.T (z.all isD)) (S++[.J (refs.drop 4)]):=ha;refine⟨[.J (refs.drop 4)],?_⟩;rw[decide_eq_true h0,decide_eq_true h1]
   tbr_iter [G,l0,Y,Z,l1,d1,zK,ev_slL',a2,sq,a4,J,cd,ha]
   cases z.all isD<;>rfl
  .have d1:decide ((r1.length:Int)=2)=false:=decide_eq_false (by lia);refine⟨[],?_⟩;rw[decide_eq_false h1,az,decide_eq_true h0]
   tbr_iter [G,l0,Y,Z,l1,d1]
   rfl
 .have Y:decide ((r0.length:Int)=2)=false:=decide_eq_false (by lia);refine⟨[],?_⟩;rw[decide_eq_false h0,az]
  tbr_iter [G,l0,Y]
  rfl
def cc5 {r:List (List Nat)}(h:s[a]?=some (.J (r.map D.str))):slM (.ref a) (some 1) none s=.ok (.ref s.length) (s++[.J (r.tail.map D.str)]):=by
 unfold slM;simp only[h,zT,bX9,List.drop_one,List.map_tail]
def cd2 F {S:Sto}{refs:List D}(h:L8 S q refs (r0::r1::r2::r3::ds))(h0:r0.length=2)(h1:r1.length=2)(h2:r2.length<=100000)(h3:r3.length<=100000)(x0:Option D)(U:Env) :
  ∃(Uu:Sto) (p:Nat),ev F e4L (x0::some (.ref q)::U) S=.ok (.ref p) (S++Uu)/\(S++Uu)[p]?=some (.J (([r0.getD 1 [],r1.getD 1 []]++r2.tail++r3.tail).map D.str)):=by
 obtain⟨a0,Y,k0,_⟩:=h.ix (i:=0) rfl;obtain⟨a1,J,k1,_⟩:=h.ix (i:=1) rfl;have Y:ixM (.ref q) (.int 0) S=.ok (.ref a0) S:=Y;have J:ixM (.ref q) (.int 1) S=.ok (.ref a1) S:=J
 match r0,h0,r1,h1 with
 | [y0,w0],_,[y1,w1],_ =>
 have j0:ixM (.ref a0) (.int 1) S=.ok (.str w0) S:=qy (j:=1) k0 rfl;have j1:ixM (.ref a1) (.int 1) S=.ok (.str w1) S:=qy (j:=1) k1 rfl;have hA:=h.app [.J [.str w0,.str w1]];obtain⟨a2,y,k2,_⟩:=hA.ix (i:=2) rfl;have y:ixM (.ref q) (.int 2) (S++[.J [.str w0,.str w1]])=.ok (.ref a2) (S++[.J [.str w0,.str w1]]):=y;have s2:=cc5 k2;have Z:=bY0 (s:=S++[.J [.str w0,.str w1]]++[.J (r2.tail.map D.str)]) (a:=S.length) (b:=(S++[O.J [.str w0,.str w1]]).length) (l:=[.str w0,.str w1]) (m:=r2.tail.map D.str) (za zf) zf (by rw[ao,bV];unfold LIM;simp;omega);have hB:=hA.app ([.J (r2.tail.map D.str)]++[.J ([.str w0,.str w1]++r2.tail.map D.str)]);rw[<-ag]at hB;obtain⟨a3,G,k3,_⟩:=hB.ix (i:=3) rfl;have G:ixM (.ref q) (.int 3) (S++[.J [.str w0,.str w1]]++[.J (r2.tail.map D.str)]++[.J ([.str w0,.str w1]++r2.tail.map D.str)])=.ok (.ref a3) (S++[.J [.str w0,.str w1]]++[.J (r2.tail.map D.str)]++[.J ([.str w0,.str w1]++r2.tail.map D.str)]):=G;have s3:=cc5 k3;have z:=bY0 (s:=S++[.J [.str w0,.str w1]]++[.J (r2.tail.map D.str)]++[.J ([.str w0,.str w1]++r2.tail.map D.str)]++[.J (r3.tail.map D.str)]) (a:=(S++[O.J [.str w0,.str w1]]++[O.J (r2.tail.map D.str)]).length) (b:=(S++[O.J [.str w0,.str w1]]++[O.J (r2.tail.map D.str)]++[O.J ([.str w0,.str w1]++r2.tail.map D.str)]).length) (l:=[.str w0,.str w1]++r2.tail.map D.str) (m:=r3.tail.map D.str) (za zf) zf (by rw[ar,ao,ao,bV,bV];unfold LIM;simp;omega);refine⟨[.J [.str w0,.str w1]]++[.J (r2.tail.map D.str)]++[.J ([.str w0,.str w1]++r2.tail.map D.str)]++[.J (r3.tail.map D.str)]++[.J ([.str w0,.str w1]++r2.tail.map D.str++r3.tail.map D.str)],(S++[O.J [.str w0,.str w1]]++[O.J (r2.tail.map D.str)]++[O.J ([.str w0,.str w1]++r2.tail.map D.str)]++[O.J (r3.tail.map D.str)]).length,?_,?_⟩
 .simp only[<-ag]
  tbr_iter [Y,j0,J,j1,y,ev_slL',s2,Z,G,s3,z]
 .simp only[<-ag];rw[zf,cb,cb];rfl
theorem bd5 F (hk:S0[k]?=some (.J lk)) x0 x1 x4 y z :∀ dd G V p sg x3 ,(∀ Uu,RwI (S0++V++Uu) dd G)->(∀ r∈G,isD r=true)->(S0++V)[p]?=some (.J (sg.map D.str))->sg.length+3*G.length<=900000 ->
  ∃(Uu:Sto) (Z:Nat) (y3:Option D),ax9 (λ s=>chk S0 s [k]) (turn F (.Y 3) b5L) dd [x0,x1,some (.ref p),x3,x4,y,z] (S0++V)=.ok (.next [x0,x1,some (.ref Z),y3,x4,y,z]) (S0++V++Uu)/\(S0++V++Uu)[Z]?=some (.J ((sg++(G.map sg3).flatten).map D.str))
 | [],[],V,p,sg,x3,hR,hD,hp,hz=>by
  have ok:chk S0 (S0++V) [k]=true:=by
   unfold chk;rw[ci,dQ,dz,za hk,hk];exact decide_eq_true rfl
  refine⟨[],p,x3,?_,?_⟩
  .show(if chk S0 (S0++V) [k]then R.ok (Ct.next _) _ else .B)=_;rw[if_pos ok,az]
  .rw[az,hp,eM,kG,az]
 | [],_::_,_,_,_,_,hR,_,_,_=>(hR []).elim
 | _::_,[],_,_,_,_,hR,_,_,_=>(hR []).elim
 | d::dd,r::G,V,p,sg,x3,hR,hD,hp,hz=>by
  have ok:chk S0 (S0++V) [k]=true:=by
   unfold chk;rw[ci,dQ,dz,za hk,hk];exact decide_eq_true rfl
  have Y:=hR [];rw[az]at Y;obtain⟨⟨a,rfl,ha,_⟩,_⟩:=Y;obtain⟨p1,w,p3,p4,rfl⟩:=aY9 (hD r (au ..));have i1:ixM (.ref a) (.int 1) (S0++V)=.ok (.str p1) (S0++V):=qy ha rfl;have i3:ixM (.ref a) (.int 3) (S0++V)=.ok (.str p3) (S0++V):=qy (j:=3) ha rfl;have i4:ixM (.ref a) (.int 4) (S0++V)=.ok (.str p4) (S0++V):=qy (j:=4) ha rfl;simp only[aE]at hz;have ad:=bY0 (s:=S0++V++[.J [.str p1,.str p3,.str p4]]) (a:=p) (b:=(S0++V).length) (l:=sg.map D.str) (m:=[.str p1,.str p3,.str p4]) (za hp) zf (by rw[ao];unfold LIM;simp;lia);have e:turn F (.Y 3) b5L (.ref a) [x0,x1,some (.ref p),x3,x4,y,z] (S0++V)=.ok (.next [x0,x1,some (.ref (S0++V++[O.J [.str p1,.str p3,.str p4]]).length),some (.ref a),x4,y,z]) (S0++V++[.J [.str p1,.str p3,.str p4]]++[.J (sg.map D.str++[.str p1,.str p3,.str p4])]):=by
   unfold turn
   tbr_iter [i1,i3,i4,ad]
  obtain⟨Uu,Z,y3,ih,J⟩:=bd5 F hk x0 x1 x4 y z dd G (V++[.J [.str p1,.str p3,.str p4]]++[.J (sg.map D.str++[.str p1,.str p3,.str p4])]) (S0++V++[O.J [.str p1,.str p3,.str p4]]).length (sg++[p1,p3,p4]) (some (.ref a)) (λ Uu=>by
   have:=(hR ([.J [.str p1,.str p3,.str p4]]++[.J (sg.map D.str++[.str p1,.str p3,.str p4])]++Uu)).2;simp only[<-ag]at this ⊢;exact this) (λ r hr=>hD r (ai _ hr)) (by
   simp only[<-ag];rw[zf,cb];rfl) (by simp;lia)
  simp only[<-ag]at ih J;refine⟨[.J [.str p1,.str p3,.str p4]]++[.J (sg.map D.str++[.str p1,.str p3,.str p4])]++Uu,Z,y3,?_,?_⟩
  .show(if chk S0 (S0++V) [k]then(turn F (.Y 3) b5L (.ref a) [x0,x1,some (.ref p),x3,x4,y,z] (S0++V)).bind (λ c s=>match c with
    | .next U=>ax9 (λ s=>chk S0 s [k]) (turn F (.Y 3) b5L) dd U s
    | .cont U=>ax9 (λ s=>chk S0 s [k]) (turn F (.Y 3) b5L) dd U s
    | .brk U=>.ok (.next U) s
    | .ret d=>.ok (.ret d) s)else .B)=_
   rw[if_pos ok,e];simp only[R.bind_ok,<-ag];exact ih
  .simp only[<-ag];rw[J,aF,cE,<-ag];rfl
theorem bb1 F (hk:S0[k]?=some (.J lk)):∀(ws:List (List Nat)) V x ,∃ Uu,ae5 (λ s=>chk S0 s [k]) (ac3 F (.Y 0) x6L) (ws.map D.str) [x] (S0++V)=.ok ((ws.map λ w=>(fig w).isSome).map D.T) (S0++V++Uu)
 | [],V,x=>by
  have ok:chk S0 (S0++V) [k]=true:=by
   unfold chk;rw[ci,dQ,dz,za hk,hk];exact decide_eq_true rfl
  refine⟨[],?_⟩;show(if chk S0 (S0++V) [k]then R.ok [] (S0++V)else .B)=_;rw[if_pos ok,az];rfl
 | w::ws,V,x=>by
  have ok:chk S0 (S0++V) [k]=true:=by
   unfold chk;rw[ci,dQ,dz,za hk,hk];exact decide_eq_true rfl
  obtain⟨Uu,G⟩:=bb1 F hk ws (V++[.J (aJ2.map D.str)]) (some (.str w));rw[<-ag]at G;have z:zQ .isin (.str w) (.ref (S0++V).length) (S0++V++[.J (aJ2.map D.str)])=.ok (.T (fig w).isSome) (S0++V++[.J (aJ2.map D.str)]):=by
   show(inM (.str w) (.ref (S0++V).length) (S0++V++[.J (aJ2.map D.str)])).bind (λ r s=>R.ok (D.T r) s)=_;have:inM (.str w) (.ref (S0++V).length) (S0++V++[.J (aJ2.map D.str)])=.ok (fig w).isSome (S0++V++[.J (aJ2.map D.str)]):=by
    unfold inM;simp only[zf];rw[aH2,aQ1]
   rw[this];rfl
  have y:bo9 (.str [48,49,50,51,52,53,54,55,56,57]) (S0++V)=.ok (aJ2.map D.str) (S0++V):=rfl;have hg:ac3 F (.Y 0) x6L (.str w) [x] (S0++V)=.ok (some (.T (fig w).isSome),[some (.str w)]) (S0++V++[.J (aJ2.map D.str)]):=by
   unfold ac3
   tbr_iter [y,mk,z]
  refine⟨[.J (aJ2.map D.str)]++Uu,?_⟩;show(if chk S0 (S0++V) [k]then(ac3 F (.Y 0) x6L (.str w) [x] (S0++V)).bind (λ p s=>(ae5 (λ s=>chk S0 s [k]) (ac3 F (.Y 0) x6L) (ws.map D.str) p.2 s).bind λ r s=>R.ok (match p.1 with|some v=>v::r|none=>r) s)else .B)=_;rw[if_pos ok,hg];simp only[R.bind_ok];rw[G,<-ag];rfl
def bF1 (h:fig w=some k) s :bi .int [.str w] s=.ok (.int (k)) s:=by
 obtain⟨hk,rfl⟩:=ar4 h;rcases ten hk with h|h|h|h|h|h|h|h|h|h<;>subst h<;>rfl
def cc8 F {S}{refs}(h:L8 S q refs (r0::r1::r2::r3::Y))(hl:Y.length<=100000)(hd:dors Y=some dl) x0 (U:Env):ev F e7L (x0::some (.ref q)::U) S=.ok (.tp (dl.map dD)) (S++[.J (refs.drop 4)]):=by
 obtain⟨dm,G⟩:=av8 hd;have Z:=h.sl4 (by simp);have sq:qG (.ref S.length) (S++[.J (refs.drop 4)])=.ok ⟨refs.drop 4,[S.length]⟩ (S++[.J (refs.drop 4)]):=by simp only[qG,zf]
 have a0:=h.r.len;have a1:(refs.drop 4).length<=LIM:=by rw[be,a0];simp only[aE];unfold LIM;omega
 have J:zJ (x0::some (.ref q)::U) [none]=[none]:=rfl;have cd:=ak1 F (ok:=λ a2=>chk (S++[.J (refs.drop 4)]) a2 [S.length]) (S:=S++[.J (refs.drop 4)]) (by simp[chk]) (e:=x7L) (f:=dF) (refs.drop 4) Y none ((h.rw_ _).drop 4) (λ a r x hr ha h0=>by
  obtain⟨y,hy⟩:=G r hr;have hF:dF r=dD y:=by unfold dF;rw[hy]
  have h5:r.length=5:=by
   by_cases z:r.length=5
   .exact z
   .rw[az2 z]at hy;cases hy
  obtain⟨z,p,w,u,t,rfl⟩:=aK7 h5;change(if z=zH then(match fig p,fig u,fig t with|some i,some j,some k=>some (i,w,j,k)|_,_,_=>none)else none)=_ at hy;split at hy
  case isFalse=>cases hy
  cases e1:fig p with
  | none=>rw[e1]at hy;cases hy
  | some i=>cases e2:fig u with
   | none=>rw[e1,e2]at hy;cases hy
   | some j=>cases e3:fig t with
    | none=>rw[e1,e2,e3]at hy;cases hy
    | some k =>
     rw[e1,e2,e3]at hy;cases hy;rw[hF];have i1:ixM (.ref a) (.int 1) (S++[.J (refs.drop 4)])=.ok (.str p) (S++[.J (refs.drop 4)]):=qy (j:=1) ha rfl;have i2:ixM (.ref a) (.int 2) (S++[.J (refs.drop 4)])=.ok (.str w) (S++[.J (refs.drop 4)]):=qy (j:=2) ha rfl;have i3:ixM (.ref a) (.int 3) (S++[.J (refs.drop 4)])=.ok (.str u) (S++[.J (refs.drop 4)]):=qy (j:=3) ha rfl;have i4:ixM (.ref a) (.int 4) (S++[.J (refs.drop 4)])=.ok (.str t) (S++[.J (refs.drop 4)]):=qy (j:=4) ha rfl;have n1:=bF1 e1 (S++[.J (refs.drop 4)]);have n2:=bF1 e2 (S++[.J (refs.drop 4)]);have n3:=bF1 e3 (S++[.J (refs.drop 4)]);unfold ac3
     tbr_iter [i1,i2,i3,i4,n1,n2,n3]
     rfl)
 rw[dm]at cd
 tbr_iter [zK,ev_slL',Z,sq,a1,J,cd,mk]
theorem bK4 F {S}(ho:ok S=true):∀ ws l x ,fgs ws=some l->ae5 ok (ac3 F (.Y 0) (.bi .int (.cons (.X 0) .nil))) (ws.map D.str) [x] S=.ok (zn l) S
 | [],l,x,h=>by
  cases h;show(if ok S then R.ok [] S else .B)=_;rw[if_pos ho];rfl
 | w::ws,l,x,h=>by
  change(match fig w,fgs ws with|some k,some l=>some (k::l)|_,_=>none)=_ at h;cases e1:fig w with
  | none=>rw[e1]at h;cases h
  | some k=>cases e2:fgs ws with
   | none=>rw[e1,e2]at h;cases h
   | some l' =>
    rw[e1,e2]at h;cases h;have z:=bK4 F ho ws l' (some (.str w)) e2;have y:=bF1 e1 S;have hg:ac3 F (.Y 0) (.bi .int (.cons (.X 0) .nil)) (.str w) [x] S=.ok (some (.int (k)),[some (.str w)]) S:=by
     unfold ac3
     tbr_iter [y]
    show(if ok S then(ac3 F (.Y 0) (.bi .int (.cons (.X 0) .nil)) (.str w) [x] S).bind (λ p s=>(ae5 ok (ac3 F (.Y 0) (.bi .int (.cons (.X 0) .nil))) (ws.map D.str) p.2 s).bind λ r s=>R.ok (match p.1 with|some v=>v::r|none=>r) s)else .B)=_;rw[if_pos ho,hg];simp only[R.bind_ok];rw[z];rfl
def bK1 F {S:Sto}{refs:List D}(h:L8 S q refs rs){i:Nat}(hr:rs[i]?=some r)(hl:r.length<=100000)(hf:fgs r.tail=some l) x0 (U:Env):ev F (eNL i) (x0::some (.ref q)::U) S=.ok (.tp (zn l)) (S++[.J (r.tail.map D.str)]):=by
 obtain⟨a,Y,k0,_⟩:=h.ix hr;have Z:=cc5 k0;have J:qG (.ref S.length) (S++[.J (r.tail.map D.str)])=.ok ⟨r.tail.map D.str,[S.length]⟩ (S++[.J (r.tail.map D.str)]):=by simp only[qG,zf]
 have z:(r.tail.map D.str).length<=LIM:=by rw[ao,bV];unfold LIM;omega
 have y:zJ (x0::some (.ref q)::U) [none]=[none]:=rfl;have cd:=bK4 F (ok:=λ G=>chk (S++[.J (r.tail.map D.str)]) G [S.length]) (S:=S++[.J (r.tail.map D.str)]) (by simp[chk]) r.tail l none hf
 tbr_iter [zK,ev_slL',Y,Z,J,z,y,cd,mk]
noncomputable def lD:Option MD->D
 | some m=>m.d
 | none=>.N
section
variable {P:Pr} [Has P ad9] [Has P ac0] [Has P ab8] [Has P ab3] [Has P af9]
def bQ6  n (hw:w.length<=99000) s :(aa0 P (n+4)).call "_law_read" [.str w] s=.ok (lD (rdM (zC w))) s:=by
 have e0:(aa0 P (n+4)).call "_law_read" [.str w] s=_:=ze af9 rfl;rw[e0,bz9,show(cg some [D.str w]++ax af9.vs none)=[some (.str w),none,none,none,none,none,none]from rfl];have fin:∀ T:Sto,zw s .N (s++T)=.ok .N s:=λ T=>qi (λ _=>rfl) (by nofun);obtain⟨T,refs,e1,hR⟩:=aZ6 (aa0 P (n+3)) (w:=w) (by omega) [none,none,none,none,none,none] s;have e1:ex (aa0 P (n+3)) (.A (.Y 1) aS9) [some (.str w),none,none,none,none,none,none] s=.ok (.next [some (.str w),some (.ref (s++T).length),none,none,none,none,none]) (s++T++[.J refs]):=by tbr_iter [e1]
 rw[zb,e1,R.bind_ok];have h8:L8 (s++T++[.J refs]) (s++T).length refs (zC w):=⟨λ Uu=>by rw[ag];exact hR _,λ Uu=>za zf⟩
 generalize hq:(s++T).length=q at h8;obtain⟨S,hS⟩:∃ S,s++T++[O.J refs]=s++S:=⟨T++[.J refs],by rw[ag]⟩
 rw[hS]at h8 ⊢;obtain⟨l1,l2⟩:=aQ4 w;obtain⟨Uu2,e2⟩:=ce2 (aa0 P (n+3)) h8 (some (.str w)) [none,none,none,none,none];show R.bind (exs (aa0 P (n+3)) (.cons (.ite c2L _ _) _) _ _) _=_;rw[zb,ex_ite,e2];by_cases hd:hdW (zC w)=ar6
 case neg =>
  have:(hdW (zC w)==ar6)=false:=by
   cases z:hdW (zC w)==ar6 with
   | false=>rfl
   | true=>exact absurd (eq_of_beq z) hd
  rw[this,show rdM (zC w)=none from if_neg hd]
  tbr_iter []
  rw[ag];exact fin _
 obtain⟨r0,r1,r2,r3,G,a7,t0,t1,t2,t3⟩:=bb2 hd;have b5:rdM (zC w)=(rd0 (zC w)).bind λ m=>(open Classical in if aA8 m.d then some m else none):=if_pos hd;rw[show(hdW (zC w)==ar6)=true from by rw[hd];exact beq_self_eq_true _,b5];rw[a7]at h8 l1 l2 ⊢;have l1:G.length+4<=w.length+1:=l1;have b2:r2.length<=100000:=by have:=l2 r2 (by simp);lia
 have b3:r3.length<=100000:=by have:=l2 r3 (by simp);lia
 have hA:=h8.app Uu2;rw[ag]at hA ⊢;obtain⟨Uu3,e3⟩:=ca0 (aa0 P (n+3)) hA (by lia) (some (.str w)) [none,none,none,none,none];show R.bind (exs (aa0 P (n+3)) (.cons (.ite c3L _ _) _) _ _) _=_;rw[zb,ex_ite,e3];obtain⟨a0,_,_,z0⟩:=h8.r.get 0 rfl;cases hb:(decide (r0.length=2)&&(decide (r1.length=2)&&G.all isD))with
 | false =>
  have:rd0 (r0::r1::r2::r3::G)=none:=by
   have nn:∀ {r:List (List Nat)},r.length≠2->nmb r=none:=λ {r} h=>by
    match r,h with
    | [],_=>rfl
    | [_],_=>rfl
    | [_,_],h=>exact absurd rfl h
    | _::_::_::_,_=>rfl
   refine aH1 ?_;by_cases h0:r0.length=2
   .by_cases h1:r1.length=2
    .rw[decide_eq_true h0,decide_eq_true h1,cj,cj]at hb;rw[kg]at hb;obtain⟨r,hr,hn⟩:=hb;obtain⟨i,hi⟩:=cC hr;obtain⟨_,_,_,zr⟩:=h8.r.get (i+4) (show(r0::r1::r2::r3::G)[i+4]?=some r from hi);exact .inr (.inr (.inl (aq3.mpr ⟨r,hr,bP7 zr (Bool.eq_false_iff.mpr hn)⟩)))
    .exact .inr (.inl (nn h1))
   .exact .inl (nn h0)
  rw[this]
  tbr_iter []
  rw[ag];exact fin _
 | true =>
 rw[am,am,decide_eq_true_eq,decide_eq_true_eq]at hb;obtain⟨h0,h1,a5⟩:=hb;have hB:=hA.app Uu3;rw[ag]at hB ⊢;obtain⟨Uu4,p,e4,hp⟩:=cd2 (aa0 P (n+3)) hB h0 h1 b2 b3 (some (.str w)) [none,none,none,none,none];have e4:ex (aa0 P (n+3)) (.A (.Y 2) e4L) [some (.str w),some (.ref q),none,none,none,none,none] (s++(S++Uu2++Uu3))=.ok (.next [some (.str w),some (.ref q),some (.ref p),none,none,none,none]) (s++(S++Uu2++Uu3)++Uu4):=by
  rw[ex_asg,e4];rfl
 show R.bind (exs (aa0 P (n+3)) (.cons (.A (.Y 2) e4L) _) _ _) _=_;rw[zb,e4,R.bind_ok];have hC:=hB.app Uu4;rw[ag]at hC hp ⊢;generalize d0:S++Uu2++Uu3++Uu4=J at hC hp ⊢;have b4:=hC.sl4 (by simp);have c3:=hC.r.len;have sq:qG (.ref (s++J).length) (s++J++[.J (refs.drop 4)])=.ok ⟨refs.drop 4,[(s++J).length]⟩ (s++J++[.J (refs.drop 4)]):=by simp only[qG,zf]
 have eI:evI (aa0 P (n+3)) (.seq (.slL (.X 1) (.K (.int 4)))) [some (.str w),some (.ref q),some (.ref p),none,none,none,none] (s++J)=.ok ⟨refs.drop 4,[(s++J).length]⟩ (s++J++[.J (refs.drop 4)]):=by tbr_iter [ev_slL',b4,sq]
 obtain⟨Uu5,p5,y3,e5,F⟩:=bd5 (aa0 P (n+3)) (S0:=s++J++[.J (refs.drop 4)]) (k:=(s++J).length) zf (some (.str w)) (some (.ref q)) none none none (refs.drop 4) G [] p ([r0.getD 1 [],r1.getD 1 []]++r2.tail++r3.tail) none (λ Uu=>by
  rw[az,ag];exact(hC.rw_ _).drop 4) (aD.mp a5) (by rw[az];exact za hp) (by
  rw[ar,ar,bV,bV];have:=l2 r2 (by simp);have:=l2 r3 (by simp);simp only[aE,cY];omega)
 rw[az]at e5 F;have e5:ex (aa0 P (n+3)) s5L [some (.str w),some (.ref q),some (.ref p),none,none,none,none] (s++J)=.ok (.next [some (.str w),some (.ref q),some (.ref p5),y3,none,none,none]) (s++J++[.J (refs.drop 4)]++Uu5):=by
  rw[ex_for,eI,R.bind_ok];exact e5
 show R.bind (exs (aa0 P (n+3)) (.cons s5L _) _ _) _=_;rw[zb,e5,R.bind_ok];have hD:=hC.app ([.J (refs.drop 4)]++Uu5);rw[<-ag]at hD;have F:(s++J++[O.J (refs.drop 4)]++Uu5)[p5]?=some (O.J ((sgs r0 r1 r2 r3 G).map D.str)):=F;generalize b9:s++J++[O.J (refs.drop 4)]++Uu5=V at hD F;obtain⟨V',hV⟩:∃ V':Sto,V=s++V':=⟨J++[.J (refs.drop 4)]++Uu5,by rw[<-b9];simp⟩
 have a2:=bk1 (r2:=r2) (r3:=r3) h0 h1 a5;have a4:(sgs r0 r1 r2 r3 G).length<=900000:=by
  have hf:((G.map sg3).flatten).length=3*G.length:=by
   rw[jo,ce];have:(et ∘ sg3)=λ _=>3:=rfl;rw[this,kW,ip];lia
  unfold sgs;rw[ar,ar,ar,bV,bV,hf];have:=l2 r2 (by simp);have:=l2 r3 (by simp);simp only[aE,cY];omega
 generalize c4:sgs r0 r1 r2 r3 G=sg at F a2 a4;obtain⟨Uu6,c6⟩:=bb1 (aa0 P (n+3)) F sg [] none;rw[az]at c6;have b6:qG (.ref p5) V=.ok ⟨sg.map D.str,[p5]⟩ V:=by simp only[qG,F]
 have a6:(sg.map D.str).length<=LIM:=by rw[ao];unfold LIM;lia
 have a8:=ci4 (sg.map λ w=>(fig w).isSome) (V++Uu6);have a3:zJ [some (.str w),some (.ref q),some (.ref p5),y3,none,none,none] [none]=[none]:=rfl;have e6:ev (aa0 P (n+3)) c6L [some (.str w),some (.ref q),some (.ref p5),y3,none,none,none] V=.ok (.T (!((sg.map λ w=>(fig w).isSome).all id))) (V++Uu6):=by
  tbr_iter [zK,b6,a6,a3,c6,a8]
 show R.bind (exs (aa0 P (n+3)) (.cons (.ite c6L _ _) _) _ _) _=_;rw[zb,ex_ite,e6];cases hall:((sg.map λ w=>(fig w).isSome).all id)with
 | false =>
  have:∃ w∈sg,fig w=none:=by
   rw[fY,kg]at hall;obtain⟨w,hw,hn⟩:=hall;refine⟨w,hw,?_⟩;cases z:fig w with
   | none=>rfl
   | some k=>exact absurd (show(fig w).isSome=true by rw[z];rfl) hn
  rw[aH1 (a2.mp this)]
  tbr_iter []
  rw[hV,ag];exact fin _
 | true =>
 have Y:¬ ∃ w∈sg,fig w=none:=by
  rintro⟨w,hw,hn⟩
  rw[fY,aD]at hall;have:(fig w).isSome=true:=hall w hw;rw[hn]at this;cases this
 rw[a2]at Y;cases q0:nmb r0 with
 | none=>exact absurd (.inl q0) Y
 | some Lv=>cases q1:nmb r1 with
 | none=>exact absurd (.inr (.inl q1)) Y
 | some Rv=>cases q5:dors G with
 | none=>exact absurd (.inr (.inr (.inl q5))) Y
 | some dl=>cases q6:fgs r2.tail with
 | none=>exact absurd (.inr (.inr (.inr (.inl q6)))) Y
 | some bg=>cases q7:fgs r3.tail with
 | none=>exact absurd (.inr (.inr (.inr (.inr q7)))) Y
 | some en =>
 let m:MD:=⟨Lv,Rv,bg,en,dl⟩
 have a9:rd0 (r0::r1::r2::r3::G)=some m:=by
  show(match nmb r0,nmb r1,dors G,fgs r2.tail,fgs r3.tail with|some L,some R,some l,some b,some e=>some (MD.mk L R b e l)|_,_,_,_,_=>none)=_;rw[q0,q1,q5,q6,q7]
 have hE:=hD.app Uu6;have e7:=cc8 (aa0 P (n+3)) hE (by lia) q5 (some (.str w)) [some (.ref p5),y3,none,none,none];have e7:ex (aa0 P (n+3)) (.A (.Y 4) e7L) [some (.str w),some (.ref q),some (.ref p5),y3,none,none,none] (V++Uu6)=.ok (.next [some (.str w),some (.ref q),some (.ref p5),y3,some (.tp (dl.map dD)),none,none]) (V++Uu6++[.J (refs.drop 4)]):=by rw[ex_asg,e7];rfl
 show R.bind (exs (aa0 P (n+3)) (.cons (.A (.Y 4) e7L) _) _ _) _=_;rw[zb,e7,R.bind_ok];have hF:=hE.app [.J (refs.drop 4)];have e8:=bK1 (aa0 P (n+3)) hF (i:=2) rfl b2 q6 (some (.str w)) [some (.ref p5),y3,some (.tp (dl.map dD)),none,none];have e8:ex (aa0 P (n+3)) (.A (.Y 5) (eNL 2)) [some (.str w),some (.ref q),some (.ref p5),y3,some (.tp (dl.map dD)),none,none] (V++Uu6++[.J (refs.drop 4)])=.ok (.next [some (.str w),some (.ref q),some (.ref p5),y3,some (.tp (dl.map dD)),some (.tp (zn bg)),none]) (V++Uu6++[.J (refs.drop 4)]++[.J (r2.tail.map D.str)]):=by rw[ex_asg,show ev (aa0 P (n+3)) (eNL 2) _ _=_ from e8];rfl
 show R.bind (exs (aa0 P (n+3)) (.cons (.A (.Y 5) (eNL 2)) _) _ _) _=_;rw[zb,e8,R.bind_ok];have hG:=hF.app [.J (r2.tail.map D.str)];generalize hW:V++Uu6++[O.J (refs.drop 4)]++[O.J (r2.tail.map D.str)]=Ww at hG;have e9:=bK1 (aa0 P (n+3)) hG (i:=3) rfl b3 q7 (some (.str w)) [some (.ref p5),y3,some (.tp (dl.map dD)),some (.tp (zn bg)),none];have e9:ev (aa0 P (n+3)) (eNL 3) [some (.str w),some (.ref q),some (.ref p5),y3,some (.tp (dl.map dD)),some (.tp (zn bg)),none] Ww=.ok (.tp (zn en)) (Ww++[.J (r3.tail.map D.str)]):=e9;obtain⟨b0,i0,k0,_⟩:=hG.ix (i:=0) rfl;obtain⟨b1,i1,k1,_⟩:=hG.ix (i:=1) rfl;have i0:ixM (.ref q) (.int 0) Ww=.ok (.ref b0) Ww:=i0;have i1:ixM (.ref q) (.int 1) Ww=.ok (.ref b1) Ww:=i1;obtain⟨y0,v0,rfl⟩:∃ y v,r0=[y,v]:=by
  match r0,h0 with
  | [y,v],_=>exact⟨y,v,rfl⟩
 obtain⟨y1,v1,rfl⟩:∃ y v,r1=[y,v]:=by
  match r1,h1 with
  | [y,v],_=>exact⟨y,v,rfl⟩
 have j0:ixM (.ref b0) (.int 1) Ww=.ok (.str v0) Ww:=qy (j:=1) k0 rfl;have j1:ixM (.ref b1) (.int 1) Ww=.ok (.str v1) Ww:=qy (j:=1) k1 rfl;have n0:=bF1 (show fig v0=some Lv from q0) Ww;have n1:=bF1 (show fig v1=some Rv from q1) Ww;have e9:ex (aa0 P (n+3)) (.A (.Y 6) e9L) [some (.str w),some (.ref q),some (.ref p5),y3,some (.tp (dl.map dD)),some (.tp (zn bg)),none] Ww=.ok (.next [some (.str w),some (.ref q),some (.ref p5),y3,some (.tp (dl.map dD)),some (.tp (zn bg)),some m.d]) (Ww++[.J (r3.tail.map D.str)]):=by
  have e9:=e9;unfold eNL at e9;simp -implicitDefEqProofs only[ex_asg,ev_tup,evs_cons,evs_nil,ev_bi,ev_ix,ev_var,getV_0,getV_s,ev_cst,Cn_int,R.bind_ok,i0,j0,i1,j1,n0,n1,e9,bindT_one,setV_s,setV_0,fP];rfl
 show R.bind (exs (aa0 P (n+3)) (.cons (.A (.Y 6) e9L) _) _ _) _=_;rw[zb,e9,R.bind_ok];obtain⟨Z,hZ⟩:∃ Z:Sto,Ww++[O.J (r3.tail.map D.str)]=s++Z:=⟨V'++Uu6++[.J (refs.drop 4)]++[.J (r2.tail.map D.str)]++[.J (r3.tail.map D.str)],by rw[<-hW,hV];simp⟩
 rw[hZ,a9];have a1:∀ S,ixM m.d (.int 0) S=.ok (.int (Lv:Int)) S:=λ _=>rfl;show R.bind (exs (aa0 P (n+3)) (.cons (.ite ci2 _ _) _) _ _) _=R.ok (lD (open Classical in if aA8 m.d then some m else none)) s;by_cases hL:1<=Lv/\Lv<=3
 .have hm:=ce0 (P:=P) n (m:=m) hL.1 hL.2 (s++Z);have c1:decide ((1:Int)<=(Lv:Int))=true:=decide_eq_true (by lia);have c2:decide ((Lv:Int)<=3)=true:=decide_eq_true (by lia);have hm:(aa0 P (n+3)).call "_law_is_machine" [m.d,.int (Lv:Int)] (s++Z)=.ok (.T (mB m)) (s++Z):=hm;have hP:=ck6 (m:=m) hL.1 hL.2;cases hmb:mB m with
  | true =>
   rw[hmb]at hm;rw[if_pos (hP.mp hmb)]
   tbr_iter [am6,a1,c1,c2,hm]
   exact qi (aP4 m) (by nofun)
  | false =>
   rw[hmb]at hm;rw[if_neg (λ z=>by rw[hP.mpr z]at hmb;cases hmb)]
   tbr_iter [am6,a1,c1,c2,hm]
   exact fin _
 .have c0:¬ aA8 m.d:=by
   rintro⟨L,Rm,b,e,G,qq,d1,_⟩
   simp only[MD.d,D.tp.injEq,fQ,D.int.injEq,and_true]at qq;have:(Lv:Int)=(L:Int):=qq.1;lia
  rw[if_neg c0];by_cases h1':1<=Lv
  .have c1:decide ((1:Int)<=(Lv:Int))=true:=decide_eq_true (by lia);have c2:decide ((Lv:Int)<=3)=false:=decide_eq_false (by lia)
   tbr_iter [am6,a1,c1,c2]
   exact fin _
  .have c1:decide ((1:Int)<=(Lv:Int))=false:=decide_eq_false (by lia)
   tbr_iter [am6,a1,c1]
   exact fin _
end
noncomputable def tot (l:List (List Nat)):Nat:=(l.map λ w=>w.length+1).sum
def qr l m :tot (l++m)=tot l+tot m:=by unfold tot;rw[cb,List.sum_append_nat]
def zA w l :tot (w::l)=w.length+1+tot l:=by unfold tot;rw[aF,dZ]
def ak2:tot []=0:=rfl
theorem av9:∀ l:List (List Nat),l.length<=tot l
 | []=>av _
 | w::l=>by rw[zA,aE];have:=av9 l;lia
theorem ar3 :∀ {l},w∈l->w.length+1<=tot l
 | x::l,h=>by
  rw[zA];rcases aw.mp h with rfl|h
  .lia
  .have:=ar3 h;lia
def ax0 l k j (h:k<=j):tot (l.take k)+tot (l.drop j)<=tot l:=by
 have e:tot l=tot (l.take k)+tot (l.drop k):=by rw[<-qr,iC]
 have e2:tot (l.drop k)=tot ((l.drop k).take (j - k))+tot (l.drop j):=by
  rw[<-qr]
  congr 1
  rw[show l.drop j=(l.drop k).drop (j - k)by rw[List.drop_drop];congr 1;lia,iC]
 lia
def aO3 c l :(ac6 [c] l).length<=tot l:=ai3 [c] l
theorem aJ8 :∀ l:List Nat,tot (aa4 c l)=l.length+1
 | []=>rfl
 | x::l=>by
  have y:=aJ8 (c:=c) l;show tot (if x=c then[]::aa4 c l else match aa4 c l with|p::ps=>(x::p)::ps|[]=>[[x]])=_;split
  .rw[zA,y,aE,cY];lia
  .cases e:aa4 c l with
   | nil=>exact absurd e (aC3 l)
   | cons q ps =>
    rw[e,zA]at y;rw[zA,aE,aE];lia
section
variable {S:Sto} {p:Nat} {l m:List (List Nat)}
def bY1 (h:S[p]?=some (.J (l.map D.str)))(k:Nat):slM (.ref p) none (some (k)) S=.ok (.ref S.length) (S++[.J ((l.take k).map D.str)]):=by
 unfold slM;have hc:=bY6 (l:=l.map D.str) (k:=k);rw[<-eX]at hc;simp only[h,zT,hc,List.map_take]
def bX7 (h:S[p]?=some (.J (l.map D.str)))(hk:k<=l.length):slM (.ref p) (some (k)) none S=.ok (.ref S.length) (S++[.J ((l.drop k).map D.str)]):=by
 unfold slM;have hc:=ce7 (l:=l.map D.str) (k:=k);rw[ao,show min k l.length=k by lia,bU (by rw[be,ao];exact av _)]at hc;simp only[h,zT,hc,List.map_drop]
def bh1 (z:S[a]?=some (.J (l.map D.str)))(y:S[b]?=some (.J (m.map D.str)))(hz:l.length+m.length<=LIM):qK .add (.ref a) (.ref b) S=.ok (.ref S.length) (S++[.J ((l++m).map D.str)]):=by
 rw[bY0 z y (by rw[ao,ao];exact hz),cb]
def bT1 (h:S[p]?=some (.J (l.map D.str)))(hz:tot l<=LIM):aS7 (.str [c]) (.ref p) S=.ok (.str (ac6 [c] l)) S:=aJ4 h hz
end
noncomputable def ad7:List (List Nat):=[[48,48],[48,49],[49,48],[43,49],[45,49],[49,46],[48],[49],[51],[52],[53],[54],[57],[97],[98],[99],[100],[97,98],[65]]
noncomputable def aj7:List (List Nat):=[[],[49,95],[108,101,116,116,101,114,115],[114,111,111,109,115],[98,101,103,105,110],[101,110,100],[100,111,111,114],[100,111,111,114,115]]
def bc5:∀ w∈ad7++aj7,w.length<=7:=by decide
def St8 (s:Sto)(r:Nat)(S:Sto):Prop:=∃ b T ,S=s.set r (zh b)++T
def St8.al { S}(h:St8 s r S) o :St8 s r (S++[o]):=by
 obtain⟨b,T,rfl⟩:=h;exact⟨b,T++[o],ag ..⟩
def St8.st { S}(h:St8 s r S)(hr:r<s.length):St8 s r (S.set r (zh b)):=by
 obtain⟨y,T,rfl⟩:=h;exact⟨b,T,by rw[dL _ _ (by simpa using hr),du]⟩
def St8.bag { S}(h:St8 s r S)(hr:r<s.length):∃ b,S[r]?=some (zh b):=by
 obtain⟨b,T,rfl⟩:=h;exact⟨b,za (ak9 hr)⟩
def St8.fin { S}{l:List (List Nat)}(h:St8 s r S):∃ b,zw s (.ref S.length) (S++[.J (l.map D.str)])=.ok (.ref s.length) (s.set r (zh b)++[.J (l.map D.str)]):=by
 obtain⟨b,T,rfl⟩:=h;refine⟨b,aR7 rfl ?_⟩;unfold O.bnd;exact zS (λ d hd m=>by obtain⟨w,_,rfl⟩:=aN.mp hd;rfl) _
def bf1 {k:Nat}(h:k<=1000000):(k:Int)<=10^90:=lR (by lia:(k:Int)<=1000000) (by decide)
noncomputable abbrev w8a:E:=.J (.cons (.J (.cons (.ix (.X 5) (.call "_law_take" (.ex (.X 0) (.ex (.K (.int 27)) .nil)))) .nil)) (.cons (.J .nil) (.cons (.J (.cons (.ix (.X 3) (.X 4)) (.cons (.ix (.X 3) (.X 4)) .nil))) (.cons (.J (.cons (.ix (.X 3) (.X 4)) (.cons (.ix (.X 5) (.call "_law_take" (.ex (.X 0) (.ex (.K (.int 27)) .nil)))) .nil))) .nil))))
def WsR (s:Sto)(r B:Nat)(x:R D):Prop:=∃ b ws ,x=.ok (.ref s.length) (s.set r (zh b)++[.J (ws.map D.str)])/\tot ws<=B
section
variable {P:Pr} [Has P ae1]
def cj8 n (hr:r<s.length){S:Sto}(hS:St8 s r S)(b1:p3≠r)(a0:p5≠r){wd:List (List Nat)}(h3:S[p3]?=some (.J (wd.map D.str)))(h5:S[p5]?=some (.J ((ad7++aj7).map D.str)))(hk:k<wd.length){way:Nat}(hw:way<4)(x1 x2 x7 x8:Option D) :
  ∃(F:Sto) (p7:Nat) (y:List (List Nat)),ev (aa0 P (n+1)) (.ix w8a (.X 6)) [some (.ref r),x1,x2,some (.ref p3),some (.int k),some (.ref p5),some (.int way),x7,x8] S=.ok (.ref p7) F/\St8 s r F/\(∀ i l,i≠r->S[i]?=some (.J l)->F[i]?=some (.J l))/\F[p7]?=some (.J (y.map D.str))/\y.length<=2/\tot y<=2*(wd[k]).length+10:=by
 have a2:wd[k]?=some wd[k]:=aj hk;obtain⟨k3,b3,b9,t3⟩:=zy (P:=P) n (hS.bag hr) 27 (by decide) (zN (by decide));have hA:=hS.st (b:=b3) hr;have a3:k3<(ad7++aj7).length:=by show k3<27;lia
 have J:(S.set r (zh b3))[p5]?=some (.J ((ad7++aj7).map D.str)):=ar9 a0 h5;have G:(S.set r (zh b3))[p3]?=some (.J (wd.map D.str)):=ar9 b1 h3;have i5:=qy J (aj a3);generalize a5:(ad7++aj7)[k3]=x3 at i5;have b6:x3.length<=7:=by rw[<-a5];exact bc5 _ (bK _)
 generalize Y:S.set r (zh b3)=A at t3 hA J G i5;have hB:St8 s r (A++[.J [.str x3]]++[.J []]):=(hA.al _).al _;have i3:=qy (za (t:=[.J []]) (za (t:=[.J [.str x3]]) G)) a2;generalize b2:wd[k]=w1 at i3;have hC:St8 s r (A++[.J [.str x3]]++[.J []]++[.J [.str w1,.str w1]]):=hB.al _;have a1:=qy (za (t:=[.J [.str w1,.str w1]]) (za (t:=[.J []]) (za (t:=[.J [.str x3]]) G))) a2;rw[b2]at a1;obtain⟨k4,z,c1,t4⟩:=zy (P:=P) n (hC.bag hr) 27 (by decide) (zN (by decide));have a4:k4<(ad7++aj7).length:=by show k4<27;lia
 have b0:((A++[O.J [.str x3]]++[O.J []]++[O.J [.str w1,.str w1]]).set r (zh z))[p5]?=some (.J ((ad7++aj7).map D.str)):=ar9 a0 (za (za (za J)));have i6:=qy b0 (aj a4);generalize a8:(ad7++aj7)[k4]=x4 at i6;have b5:x4.length<=7:=by rw[<-a8];exact bc5 _ (bK _)
 have hD:=hC.st (b:=z) hr;have c0:r<A.length:=by rw[<-Y,bt];obtain⟨b,T,rfl⟩:=hS;simp;lia
 have e4:(A++[O.J [.str x3]]++[O.J []]++[O.J [.str w1,.str w1]]).set r (zh z)=A.set r (zh z)++[.J [.str x3]]++[.J []]++[.J [.str w1,.str w1]]:=by
  rw[dL _ _ (by simp;lia),dL _ _ (by simp;lia),dL _ _ (by omega)]
 have a6:(A.set r (zh z)).length=A.length:=bt
 let Z:Sto:=A.set r (zh z)++[.J [.str x3]]++[.J []]++[.J [.str w1,.str w1]]++[.J [.str w1,.str x4]]
 have hZ:St8 s r (Z++[.J [.ref A.length,.ref (A++[O.J [.str x3]]).length,.ref (A++[O.J [.str x3]]++[O.J []]).length,.ref (A++[O.J [.str x3]]++[O.J []]++[O.J [.str w1,.str w1]]).length]]):=by
  refine St8.al ?_ _;show St8 s r (A.set r (zh z)++[.J [.str x3]]++[.J []]++[.J [.str w1,.str w1]]++[.J [.str w1,.str x4]]);rw[<-e4];exact hD.al _
 have g:∀(i:Nat) (o:O),Z[i]?=some o->(Z++[.J [.ref A.length,.ref (A++[O.J [.str x3]]).length,.ref (A++[O.J [.str x3]]++[O.J []]).length,.ref (A++[O.J [.str x3]]++[O.J []]++[O.J [.str w1,.str w1]]).length]])[i]?=some o:=λ i o h=>za h;have z0:Z[A.length]?=some (.J [.str x3]):=by rw[<-a6];exact za (za (za zf))
 have z1:Z[(A++[O.J [.str x3]]).length]?=some (.J []):=by
  have:(A++[O.J [.str x3]]).length=(A.set r (zh z)++[O.J [.str x3]]).length:=by simp
  rw[this];exact za (za zf)
 have z2:Z[(A++[O.J [.str x3]]++[O.J []]).length]?=some (.J [.str w1,.str w1]):=by
  have:(A++[O.J [.str x3]]++[O.J []]).length=(A.set r (zh z)++[O.J [.str x3]]++[O.J []]).length:=by simp
  rw[this];exact za zf
 have z3:Z[(A++[O.J [.str x3]]++[O.J []]++[O.J [.str w1,.str w1]]).length]?=some (.J [.str w1,.str x4]):=by
  have:(A++[O.J [.str x3]]++[O.J []]++[O.J [.str w1,.str w1]]).length=(A.set r (zh z)++[O.J [.str x3]]++[O.J []]++[O.J [.str w1,.str w1]]).length:=by simp
  rw[this];exact zf
 have a9:∀ i l,i≠r->S[i]?=some (.J l)->(Z++[.J [.ref A.length,.ref (A++[O.J [.str x3]]).length,.ref (A++[O.J [.str x3]]++[O.J []]).length,.ref (A++[O.J [.str x3]]++[O.J []]++[O.J [.str w1,.str w1]]).length]])[i]?=some (.J l):=λ i l hi e=>by
  refine g i _ (za (za (za (za ?_))));rw[<-Y];exact ar9 hi (ar9 hi e)
 have e1:ev (aa0 P (n+1)) w8a [some (.ref r),x1,x2,some (.ref p3),some (.int k),some (.ref p5),some (.int way),x7,x8] S=.ok (.ref Z.length) (Z++[.J [.ref A.length,.ref (A++[O.J [.str x3]]).length,.ref (A++[O.J [.str x3]]++[O.J []]).length,.ref (A++[O.J [.str x3]]++[O.J []]++[O.J [.str w1,.str w1]]).length]]):=by
  rw[e4]at t4 i6;have a7:D.ref (A.set r (zh z)++[O.J [.str x3]]++[O.J []]++[O.J [.str w1,.str w1]]).length=.ref (A++[O.J [.str x3]]++[O.J []]++[O.J [.str w1,.str w1]]).length:=by simp
  tbr_iter [t3,i5,i3,a1,t4,i6,a7]
  rfl
 have i7:∀(j p:Nat),([.ref A.length,.ref (A++[O.J [.str x3]]).length,.ref (A++[O.J [.str x3]]++[O.J []]).length,.ref (A++[O.J [.str x3]]++[O.J []]++[O.J [.str w1,.str w1]]).length]:List D)[j]?=some (.ref p)->ixM (.ref Z.length) (.int (j:Int)) (Z++[.J [.ref A.length,.ref (A++[O.J [.str x3]]).length,.ref (A++[O.J [.str x3]]++[O.J []]).length,.ref (A++[O.J [.str x3]]++[O.J []]++[O.J [.str w1,.str w1]]).length]])=.ok (.ref p) (Z++[.J [.ref A.length,.ref (A++[O.J [.str x3]]).length,.ref (A++[O.J [.str x3]]++[O.J []]).length,.ref (A++[O.J [.str x3]]++[O.J []]++[O.J [.str w1,.str w1]]).length]]):=λ j p h=>ai4 zf h;have fin:∀(p:Nat) (y:List (List Nat)),([.ref A.length,.ref (A++[O.J [.str x3]]).length,.ref (A++[O.J [.str x3]]++[O.J []]).length,.ref (A++[O.J [.str x3]]++[O.J []]++[O.J [.str w1,.str w1]]).length]:List D)[way]?=some (.ref p)->Z[p]?=some (.J (y.map D.str))->y.length<=2->tot y<=2*w1.length+10->∃(F:Sto) (p7:Nat) (y:List (List Nat)),ev (aa0 P (n+1)) (.ix w8a (.X 6)) [some (.ref r),x1,x2,some (.ref p3),some (.int k),some (.ref p5),some (.int way),x7,x8] S=.ok (.ref p7) F/\St8 s r F/\(∀ i l,i≠r->S[i]?=some (.J l)->F[i]?=some (.J l))/\F[p7]?=some (.J (y.map D.str))/\y.length<=2/\tot y<=2*w1.length+10:=λ p y hj hp h2 ht=>by
  refine⟨_,p,y,?_,hZ,a9,g _ _ hp,h2,ht⟩;have:=i7 way p hj;rw[ev_ix,e1]
  tbr_iter [this]
 match way,hw with
 | 0,_=>exact fin _ [x3] rfl z0 (by simp) (by rw[zA,ak2];lia)
 | 1,_=>exact fin _ [] rfl z1 (by decide) (by rw[ak2];lia)
 | 2,_=>exact fin _ [w1,w1] rfl z2 (by simp) (by rw[zA,zA,ak2];lia)
 | 3,_=>exact fin _ [w1,x4] rfl z3 (by simp) (by rw[zA,zA,ak2];lia)
end
noncomputable abbrev o1:S:=.A (.Y 2) (.call "_law_take" (.ex (.X 0) (.ex (.bi .len (.cons (.X 1) .nil)) .nil)))
noncomputable abbrev o2:S:=.A (.Y 3) (.spl (.ix (.X 1) (.X 2)) 32)
noncomputable abbrev o3:S:=.A (.Y 4) (.call "_law_take" (.ex (.X 0) (.ex (.bi .len (.cons (.X 3) .nil)) .nil)))
noncomputable abbrev o6:S:=.A (.Y 6) (.call "_law_take" (.ex (.X 0) (.ex (.K (.int 4)) .nil)))
abbrev o7:S:=.A (.Y 7) (.ix w8a (.X 6))
noncomputable abbrev o8:S:=.A (.Y 8) (.join (.K (.str [32])) (.G .add (.G .add (.slU (.X 3) (.X 4)) (.X 7)) (.slL (.X 3) (.G .add (.X 4) (.K (.int 1))))))
noncomputable abbrev o9:S:=.ret (.G .add (.G .add (.slU (.X 1) (.X 2)) (.J (.cons (.X 8) .nil))) (.slL (.X 1) (.G .add (.X 2) (.K (.int 1)))))
def bU5:∃ z y,aa9.body=.cons o1 (.cons o2 (.cons o3 (.cons (.A (.Y 5) z) (.cons (.A (.Y 5) (.G .add (.X 5) y)) (.cons o6 (.cons o7 (.cons o8 (.cons o9 .nil))))))))/\(∀ F U s,ev F z U s=.ok (.ref s.length) (s++[.J (ad7.map D.str)]))/\(∀ F U s,ev F y U s=.ok (.ref s.length) (s++[.J (aj7.map D.str)])):=⟨_,_,rfl,λ _ _ _=>rfl,λ _ _ _=>rfl⟩
section
variable {P:Pr} [Has P ae1] [Has P aa9] [Has P aa7]
def bO0  n (hs:∃ b,s[r]?=some (zh b))(Y:q≠r)(hq:s[q]?=some (.J (ws.map D.str)))(d5:ws≠[])(hz:tot ws<=90000):WsR s r (4*tot ws+15) ((aa0 P (n+2)).call "_law_words_otherwise" [.ref r,.ref q] s):=by
 have e0:(aa0 P (n+2)).call "_law_words_otherwise" [.ref r,.ref q] s=_:=ze aa9 (n:=n+1) rfl;obtain⟨e4,e5,e3,h4,h5⟩:=bU5;rw[e0,e3,show(cg some [D.ref r,.ref q]++ax aa9.vs none)=[some (.ref r),some (.ref q),none,none,none,none,none,none,none]from rfl];have hr:=qN hs;have f3:q<s.length:=(ah.mp hq).1;have f2:0<ws.length:=da.mpr d5;have f6:=av9 ws;obtain⟨k0,b0,a9,t0⟩:=zy (P:=P) n hs (ws.length:Int) (by lia) (bf1 (by lia));have l0:=bi3 hq;have q1:ex (aa0 P (n+1)) o1 [some (.ref r),some (.ref q),none,none,none,none,none,none,none] s=.ok (.next [some (.ref r),some (.ref q),some (.int k0),none,none,none,none,none,none]) (s.set r (zh b0)):=by tbr_iter [l0,t0]
 rw[zb,q1,R.bind_ok];have a9:k0<ws.length:=by lia
 have hA:St8 s r (s.set r (zh b0)):=⟨b0,[],(az _).symm⟩
 have a8:(s.set r (zh b0))[q]?=some (.J (ws.map D.str)):=ar9 Y hq;generalize s.set r (zh b0)=A at hA a8;have i0:=qy a8 (aj a9);have e1:ws[k0].length+1<=tot ws:=ar3 (bK _);generalize ws[k0]=w0 at i0 e1;have b6:bt5 32 (.str w0) A=.ok (.ref A.length) (A++[.J ((aa4 32 w0).map D.str)]):=by
  show(if w0.length+2<=LIM then af4 (.J ((aa4 32 w0).map D.str)) A else .B)=_;rw[if_pos (by unfold LIM;lia)];rfl
 have d1:=aC3 (c:=32) w0;have e6:=aJ8 (c:=32) w0;generalize aa4 32 w0=wd at b6 d1 e6;have q2:ex (aa0 P (n+1)) o2 [some (.ref r),some (.ref q),some (.int k0),none,none,none,none,none,none] A=.ok (.next [some (.ref r),some (.ref q),some (.int k0),some (.ref A.length),none,none,none,none,none]) (A++[.J (wd.map D.str)]):=by tbr_iter [i0,aN4,b6]
 show WsR s r _ (R.bind (exs (aa0 P (n+1)) (.cons o2 _) _ _) _);rw[zb,q2,R.bind_ok];have hB:=hA.al (.J (wd.map D.str));have F:(A++[O.J (wd.map D.str)])[A.length]?=some (.J (wd.map D.str)):=zf;have c4:=za (t:=[.J (wd.map D.str)]) a8;have z:A.length≠r:=by obtain⟨b,T,rfl⟩:=hA;simp;lia
 generalize hp:A.length=p at F z;generalize A++[O.J (wd.map D.str)]=B at hB F c4;have e9:0<wd.length:=da.mpr d1;have f1:=av9 wd;obtain⟨k1,b1,c6,t1⟩:=zy (P:=P) n (hB.bag hr) (wd.length:Int) (by lia) (bf1 (by lia));have l1:=bi3 F;have q3:ex (aa0 P (n+1)) o3 [some (.ref r),some (.ref q),some (.int k0),some (.ref p),none,none,none,none,none] B=.ok (.next [some (.ref r),some (.ref q),some (.int k0),some (.ref p),some (.int k1),none,none,none,none]) (B.set r (zh b1)):=by tbr_iter [l1,t1]
 show WsR s r _ (R.bind (exs (aa0 P (n+1)) (.cons o3 _) _ _) _);rw[zb,q3,R.bind_ok];have c6:k1<wd.length:=by lia
 have hC:=hB.st (b:=b1) hr;have c3:(B.set r (zh b1))[p]?=some (.J (wd.map D.str)):=ar9 z F;have b4:(B.set r (zh b1))[q]?=some (.J (ws.map D.str)):=ar9 Y c4;generalize B.set r (zh b1)=Cc at hC c3 b4;have q4:ex (aa0 P (n+1)) (.A (.Y 5) e4) [some (.ref r),some (.ref q),some (.int k0),some (.ref p),some (.int k1),none,none,none,none] Cc=.ok (.next [some (.ref r),some (.ref q),some (.int k0),some (.ref p),some (.int k1),some (.ref Cc.length),none,none,none]) (Cc++[.J (ad7.map D.str)]):=by rw[ex_asg,h4];rfl
 show WsR s r _ (R.bind (exs (aa0 P (n+1)) (.cons (.A (.Y 5) e4) _) _ _) _);rw[zb,q4,R.bind_ok];have ad:=bh1 (S:=Cc++[.J (ad7.map D.str)]++[.J (aj7.map D.str)]) (a:=Cc.length) (b:=(Cc++[O.J (ad7.map D.str)]).length) (l:=ad7) (m:=aj7) (za zf) zf (by decide);have d4:=h5 (aa0 P (n+1));have q5:ex (aa0 P (n+1)) (.A (.Y 5) (.G .add (.X 5) e5)) [some (.ref r),some (.ref q),some (.int k0),some (.ref p),some (.int k1),some (.ref Cc.length),none,none,none] (Cc++[.J (ad7.map D.str)])=.ok (.next [some (.ref r),some (.ref q),some (.int k0),some (.ref p),some (.int k1),some (.ref (Cc++[O.J (ad7.map D.str)]++[O.J (aj7.map D.str)]).length),none,none,none]) (Cc++[.J (ad7.map D.str)]++[.J (aj7.map D.str)]++[.J ((ad7++aj7).map D.str)]):=by tbr_iter [d4,ad]
 show WsR s r _ (R.bind (exs (aa0 P (n+1)) (.cons (.A (.Y 5) (.G .add (.X 5) e5)) _) _ _) _);rw[zb,q5,R.bind_ok];have hE:=((hC.al (.J (ad7.map D.str))).al (.J (aj7.map D.str))).al (.J ((ad7++aj7).map D.str));have d0:=za (t:=[.J ((ad7++aj7).map D.str)]) (za (t:=[.J (aj7.map D.str)]) (za (t:=[.J (ad7.map D.str)]) c3));have b5:=za (t:=[.J ((ad7++aj7).map D.str)]) (za (t:=[.J (aj7.map D.str)]) (za (t:=[.J (ad7.map D.str)]) b4));have a0:(Cc++[O.J (ad7.map D.str)]++[O.J (aj7.map D.str)]++[O.J ((ad7++aj7).map D.str)])[(Cc++[O.J (ad7.map D.str)]++[O.J (aj7.map D.str)]).length]?=some (.J ((ad7++aj7).map D.str)):=zf;have a7:(Cc++[O.J (ad7.map D.str)]++[O.J (aj7.map D.str)]).length≠r:=by obtain⟨b,T,rfl⟩:=hC;simp;lia
 generalize (Cc++[O.J (ad7.map D.str)]++[O.J (aj7.map D.str)]).length=p5 at a0 a7;generalize Cc++[O.J (ad7.map D.str)]++[O.J (aj7.map D.str)]++[O.J ((ad7++aj7).map D.str)]=E at hE d0 b5 a0;obtain⟨k2,b2,f7,t2⟩:=zy (P:=P) n (hE.bag hr) 4 (by decide) (zN (by decide));have q6:ex (aa0 P (n+1)) o6 [some (.ref r),some (.ref q),some (.int k0),some (.ref p),some (.int k1),some (.ref p5),none,none,none] E=.ok (.next [some (.ref r),some (.ref q),some (.int k0),some (.ref p),some (.int k1),some (.ref p5),some (.int k2),none,none]) (E.set r (zh b2)):=by tbr_iter [t2]
 show WsR s r _ (R.bind (exs (aa0 P (n+1)) (.cons o6 _) _ _) _);rw[zb,q6,R.bind_ok];have hF:=hE.st (b:=b2) hr;have a6:(E.set r (zh b2))[p]?=some (.J (wd.map D.str)):=ar9 z d0;have d2:(E.set r (zh b2))[q]?=some (.J (ws.map D.str)):=ar9 Y b5;have b9:(E.set r (zh b2))[p5]?=some (.J ((ad7++aj7).map D.str)):=ar9 a7 a0;generalize E.set r (zh b2)=G at hF a6 d2 b9;obtain⟨H,p7,y,q7,hH,Z,h7,f4,f5⟩:=cj8 (P:=P) n hr hF z a7 a6 b9 c6 (way:=k2) (by lia) (some (.ref q)) (some (.int k0)) none none;have q7:ex (aa0 P (n+1)) o7 [some (.ref r),some (.ref q),some (.int k0),some (.ref p),some (.int k1),some (.ref p5),some (.int k2),none,none] G=.ok (.next [some (.ref r),some (.ref q),some (.int k0),some (.ref p),some (.int k1),some (.ref p5),some (.int k2),some (.ref p7),none]) H:=by rw[ex_asg,q7];rfl
 show WsR s r _ (R.bind (exs (aa0 P (n+1)) (.cons o7 _) _ _) _);rw[zb,q7,R.bind_ok];have c2:=Z p _ z a6;have e7:=Z q _ Y d2;have g0:(wd[k1]).length+1<=tot wd:=ar3 (bK _);have s1:=bY1 c2 k1;have a1:=bh1 (S:=H++[.J ((wd.take k1).map D.str)]) (a:=H.length) (b:=p7) (l:=wd.take k1) (m:=y) zf (za h7) (by rw[aQ];unfold LIM;lia);have s2:=bX7 (S:=H++[.J ((wd.take k1).map D.str)]++[.J ((wd.take k1++y).map D.str)]) (za (za c2)) (k:=k1+1) (by lia);have a2:=bh1 (S:=H++[.J ((wd.take k1).map D.str)]++[.J ((wd.take k1++y).map D.str)]++[.J ((wd.drop (k1+1)).map D.str)]) (a:=(H++[O.J ((wd.take k1).map D.str)]).length) (b:=(H++[O.J ((wd.take k1).map D.str)]++[O.J ((wd.take k1++y).map D.str)]).length) (l:=wd.take k1++y) (m:=wd.drop (k1+1)) (za zf) zf (by rw[ar,aQ,be];unfold LIM;lia);have e8:=ax0 wd k1 (k1+1) (by lia);have f0:tot (wd.take k1++y++wd.drop (k1+1))<=tot wd+tot y:=by rw[qr,qr];lia
 have j1:=bT1 (S:=H++[.J ((wd.take k1).map D.str)]++[.J ((wd.take k1++y).map D.str)]++[.J ((wd.drop (k1+1)).map D.str)]++[.J ((wd.take k1++y++wd.drop (k1+1)).map D.str)]) (p:=(H++[O.J ((wd.take k1).map D.str)]++[O.J ((wd.take k1++y).map D.str)]++[O.J ((wd.drop (k1+1)).map D.str)]).length) (l:=wd.take k1++y++wd.drop (k1+1)) (c:=32) zf (by unfold LIM;lia);have e2:=aO3 32 (wd.take k1++y++wd.drop (k1+1));have c1:((k1+1:Nat):Int)=(k1:Int)+1:=by lia
 rw[c1]at s2;generalize ac6 [32] (wd.take k1++y++wd.drop (k1+1))=row at j1 e2;have q8:ex (aa0 P (n+1)) o8 [some (.ref r),some (.ref q),some (.int k0),some (.ref p),some (.int k1),some (.ref p5),some (.int k2),some (.ref p7),none] H=.ok (.next [some (.ref r),some (.ref q),some (.int k0),some (.ref p),some (.int k1),some (.ref p5),some (.int k2),some (.ref p7),some (.str row)]) (H++[.J ((wd.take k1).map D.str)]++[.J ((wd.take k1++y).map D.str)]++[.J ((wd.drop (k1+1)).map D.str)]++[.J ((wd.take k1++y++wd.drop (k1+1)).map D.str)]):=by tbr_iter [an1,zO,s1,a1,ev_slL',s2,a2,j1]
 show WsR s r _ (R.bind (exs (aa0 P (n+1)) (.cons o8 _) _ _) _);rw[zb,q8,R.bind_ok];have hI:=(((hH.al (.J ((wd.take k1).map D.str))).al (.J ((wd.take k1++y).map D.str))).al (.J ((wd.drop (k1+1)).map D.str))).al (.J ((wd.take k1++y++wd.drop (k1+1)).map D.str));have a5:=za (t:=[.J ((wd.take k1++y++wd.drop (k1+1)).map D.str)]) (za (t:=[.J ((wd.drop (k1+1)).map D.str)]) (za (t:=[.J ((wd.take k1++y).map D.str)]) (za (t:=[.J ((wd.take k1).map D.str)]) e7)));generalize H++[O.J ((wd.take k1).map D.str)]++[O.J ((wd.take k1++y).map D.str)]++[O.J ((wd.drop (k1+1)).map D.str)]++[O.J ((wd.take k1++y++wd.drop (k1+1)).map D.str)]=J at hI a5;have s3:=bY1 a5 k0;have a3:=bh1 (S:=J++[.J ((ws.take k0).map D.str)]++[.J ([row].map D.str)]) (a:=J.length) (b:=(J++[O.J ((ws.take k0).map D.str)]).length) (l:=ws.take k0) (m:=[row]) (za zf) zf (by rw[aQ];unfold LIM;simp;lia);have s4:=bX7 (S:=J++[.J ((ws.take k0).map D.str)]++[.J ([row].map D.str)]++[.J ((ws.take k0++[row]).map D.str)]) (za (za (za a5))) (k:=k0+1) (by lia);have a4:=bh1 (S:=J++[.J ((ws.take k0).map D.str)]++[.J ([row].map D.str)]++[.J ((ws.take k0++[row]).map D.str)]++[.J ((ws.drop (k0+1)).map D.str)]) (a:=(J++[O.J ((ws.take k0).map D.str)]++[O.J ([row].map D.str)]).length) (b:=(J++[O.J ((ws.take k0).map D.str)]++[O.J ([row].map D.str)]++[O.J ((ws.take k0++[row]).map D.str)]).length) (l:=ws.take k0++[row]) (m:=ws.drop (k0+1)) (za zf) zf (by rw[ar,aQ,be];unfold LIM;simp;lia);have c0:((k0+1:Nat):Int)=(k0:Int)+1:=by lia
 rw[c0]at s4;have d3:[row].map D.str=[.str row]:=rfl;rw[d3]at a3 s4 a4;have hL:=(((hI.al (.J ((ws.take k0).map D.str))).al (.J [.str row])).al (.J ((ws.take k0++[row]).map D.str))).al (.J ((ws.drop (k0+1)).map D.str));obtain⟨b,b3⟩:=hL.fin (l:=ws.take k0++[row]++ws.drop (k0+1));refine⟨b,ws.take k0++[row]++ws.drop (k0+1),?_,?_⟩
 .show R.bind (exs (aa0 P (n+1)) (.cons o9 .nil) _ _) _=_
  tbr_iter [zO,s3,a3,ev_slL',s4,a4]
  exact b3
 .have hc:=ax0 ws k0 (k0+1) (by lia);rw[qr,qr,zA,ak2];lia
end
theorem aK2 :∀ l k ,tot (l.set k w)<=tot l+w.length+1
 | [],k=>by rw[List.set_nil];lia
 | x::l,0=>by rw[List.set_cons_zero,zA,zA];lia
 | x::l,k+1=>by rw[List.set_cons_succ,zA,zA];have:=aK2 (w:=w) l k;lia
section
variable {P:Pr} [Has P ae1] [Has P aa9] [Has P aa7]
def ce3  n (hs:∃ b,s[r]?=some (zh b))(J:q≠r)(hq:s[q]?=some (.J (ws.map D.str)))(a6:ws≠[])(hz:tot ws<=90000):WsR s r (4*tot ws+15) ((aa0 P (n+2)).call "_law_rows_otherwise" [.ref r,.ref q] s):=by
 have e0:(aa0 P (n+2)).call "_law_rows_otherwise" [.ref r,.ref q] s=_:=ze aa7 rfl;rw[e0,show(cg some [D.ref r,.ref q]++ax aa7.vs none)=[some (.ref r),some (.ref q),none,none,none,none]from rfl];have hr:=qN hs;have a7:=da.mpr a6;have a8:=av9 ws;obtain⟨k0,b0,F,t0⟩:=zy (P:=P) n hs (ws.length) (by lia) (bf1 (by lia));have l0:=bi3 hq;have hA:St8 s r (s.set r (zh b0)):=⟨b0,[],(az _).symm⟩
 have G:(s.set r (zh b0))[q]?=some (.J (ws.map D.str)):=ar9 J hq;generalize s.set r (zh b0)=A at t0 hA G;obtain⟨k1,b1,Y,t1⟩:=zy (P:=P) n (hA.bag hr) (ws.length) (by lia) (bf1 (by lia));have l1:=bi3 G;have hB:=hA.st (b:=b1) hr;have a3:(A.set r (zh b1))[q]?=some (.J (ws.map D.str)):=ar9 J G;generalize A.set r (zh b1)=B at t1 hB a3;obtain⟨k2,b2,a9,t2⟩:=zy (P:=P) n (hB.bag hr) 3 (by decide) (zN (by decide));have hC:=hB.st (b:=b2) hr;have z:(B.set r (zh b2))[q]?=some (.J (ws.map D.str)):=ar9 J a3;generalize B.set r (zh b2)=Cc at t2 hC z;have F:k0<ws.length:=by lia
 have Y:k1<ws.length:=by lia
 have i0:=λ V=>qy (za (t:=V) z) (aj F);have i1:=λ V=>qy (za (t:=V) z) (aj Y);have m0:ws[k0].length+1<=tot ws:=ar3 (bK _);have m1:ws[k1].length+1<=tot ws:=ar3 (bK _);generalize ws[k0]=w0 at i0 m0;generalize ws[k1]=w1 at i1 m1;by_cases h2:k2=0
 .subst h2;have d0:decide (((0:Nat):Int)=0)=true:=rfl;have a5:bo9 (.ref q) Cc=.ok (ws.map D.str) Cc:=by simp only[bo9,z]
  have Z:=aX1 (s:=Cc++[.J (ws.map D.str)]) (r:=Cc.length) (l:=ws.map D.str) (j:=k0) (v:=.str w1) zf (by rw[ao];exact F);have e1:(Cc++[O.J (ws.map D.str)]).set Cc.length (.J ((ws.map D.str).set k0 (.str w1)))=Cc++[.J ((ws.set k0 w1).map D.str)]:=by rw[bq9,lV]
  rw[e1]at Z;have a0:=aX1 (s:=Cc++[.J ((ws.set k0 w1).map D.str)]) (r:=Cc.length) (l:=(ws.set k0 w1).map D.str) (j:=k1) (v:=.str w0) zf (by rw[ao,bt];exact Y);have e2:(Cc++[O.J ((ws.set k0 w1).map D.str)]).set Cc.length (.J (((ws.set k0 w1).map D.str).set k1 (.str w0)))=Cc++[.J (((ws.set k0 w1).set k1 w0).map D.str)]:=by rw[bq9,<-lV]
  rw[e2]at a0;have j1:=i1 [.J (ws.map D.str)];have j0:=i0 [.J ((ws.set k0 w1).map D.str)];obtain⟨b,y⟩:=hC.fin (l:=(ws.set k0 w1).set k1 w0);refine⟨b,(ws.set k0 w1).set k1 w0,?_,?_⟩
  .unfold aa7
   tbr_iter [l0,t0,l1,t1,t2,d0,a5,mk,j1,Z,j0,a0]
   exact y
  .have a1:=aK2 (w:=w0) (ws.set k0 w1) k1;have a2:=aK2 (w:=w1) ws k0;lia
 .have d0:decide ((k2:Int)=0)=false:=decide_eq_false (by lia);by_cases h3:k2=1
  .subst h3;have d0:decide (((1:Nat):Int)=0)=false:=rfl;have d1:decide (((1:Nat):Int)=1)=true:=rfl;have s1:=bY1 z k0;have s2:=bX7 (S:=Cc++[.J ((ws.take k0).map D.str)]) (za z) (k:=k0+1) (by lia);have c0:((k0+1:Nat):Int)=(k0:Int)+1:=by lia
   rw[c0]at s2;have a1:=bh1 (S:=Cc++[.J ((ws.take k0).map D.str)]++[.J ((ws.drop (k0+1)).map D.str)]) (a:=Cc.length) (b:=(Cc++[O.J ((ws.take k0).map D.str)]).length) (l:=ws.take k0) (m:=ws.drop (k0+1)) (za zf) zf (by rw[aQ,be];unfold LIM;omega);obtain⟨b,y⟩:=((hC.al (.J ((ws.take k0).map D.str))).al (.J ((ws.drop (k0+1)).map D.str))).fin (l:=ws.take k0++ws.drop (k0+1));refine⟨b,ws.take k0++ws.drop (k0+1),?_,?_⟩
   .unfold aa7
    tbr_iter [l0,t0,l1,t1,t2,d0,d1,zO,s1,ev_slL',s2,a1]
    exact y
   .have hc:=ax0 ws k0 (k0+1) (by lia);rw[qr];lia
  .have d1:decide ((k2:Int)=1)=false:=decide_eq_false (by lia);have s1:=bY1 z k1;have j0:=i0 [.J ((ws.take k1).map D.str)];have a1:=bh1 (S:=Cc++[.J ((ws.take k1).map D.str)]++[.J ([w0].map D.str)]) (a:=Cc.length) (b:=(Cc++[O.J ((ws.take k1).map D.str)]).length) (l:=ws.take k1) (m:=[w0]) (za zf) zf (by rw[aQ];unfold LIM;simp;lia);have s2:=bX7 (S:=Cc++[.J ((ws.take k1).map D.str)]++[.J ([w0].map D.str)]++[.J ((ws.take k1++[w0]).map D.str)]) (za (za (za z))) (k:=k1) (by lia);have a2:=bh1 (S:=Cc++[.J ((ws.take k1).map D.str)]++[.J ([w0].map D.str)]++[.J ((ws.take k1++[w0]).map D.str)]++[.J ((ws.drop k1).map D.str)]) (a:=(Cc++[O.J ((ws.take k1).map D.str)]++[O.J ([w0].map D.str)]).length) (b:=(Cc++[O.J ((ws.take k1).map D.str)]++[O.J ([w0].map D.str)]++[O.J ((ws.take k1++[w0]).map D.str)]).length) (l:=ws.take k1++[w0]) (m:=ws.drop k1) (za zf) zf (by rw[ar,aQ,be];unfold LIM;simp;lia);have a4:[w0].map D.str=[.str w0]:=rfl;rw[a4]at a1 s2 a2;obtain⟨b,y⟩:=((((hC.al (.J ((ws.take k1).map D.str))).al (.J [.str w0])).al (.J ((ws.take k1++[w0]).map D.str))).al (.J ((ws.drop k1).map D.str))).fin (l:=ws.take k1++[w0]++ws.drop k1);refine⟨b,ws.take k1++[w0]++ws.drop k1,?_,?_⟩
   .unfold aa7
    tbr_iter [l0,t0,l1,t1,t2,d0,d1,zO,s1,j0,a1,ev_slL',s2,a2]
    exact y
   .have hc:=ax0 ws k1 k1 (by lia);rw[qr,qr,zA,ak2];lia
end
noncomputable abbrev a8w:E:=.join (.K (.str [10])) (.call "_law_words_otherwise" (.ex (.X 0) (.ex (.spl (.X 1) 10) .nil)))
noncomputable abbrev a8r:E:=.join (.K (.str [10])) (.call "_law_rows_otherwise" (.ex (.X 0) (.ex (.spl (.X 1) 10) .nil)))
noncomputable abbrev a8i:E:=.ix (.J (.cons (.call "_law_take" (.ex (.X 0) (.ex (.G .add (.bi .len (.cons (.X 1) .nil)) (.K (.int 1))) .nil))) (.cons (.bi .len (.cons (.X 1) .nil)) .nil))) (.call "_law_take" (.ex (.X 0) (.ex (.K (.int 2)) .nil)))
noncomputable abbrev a8t:E:=.G .add (.G .add (.slU (.X 1) (.X 4)) (.ix (.J (.cons (.K (.str [32])) (.cons (.K (.str [10])) .nil))) (.call "_law_take" (.ex (.X 0) (.ex (.K (.int 2)) .nil))))) (.slL (.X 1) (.X 4))
abbrev b8:Ss:=.cons (.A (.Y 3) (.call "_law_take" (.ex (.X 0) (.ex (.K (.int 5)) .nil)))) (.cons (.ite (.Z .lt (.X 3) (.K (.int 3))) (.cons (.A (.Y 1) a8w) .nil) (.cons (.ite (.Z .eq (.X 3) (.K (.int 3))) (.cons (.A (.Y 1) a8r) .nil) (.cons (.A (.Y 4) a8i) (.cons (.A (.Y 1) a8t) .nil))) .nil)) .nil)
def bJ6:ac9.body=.cons (.fo (.Y 2) (.rg (.G .add (.K (.int 1)) (.call "_law_take" (.ex (.X 0) (.ex (.K (.int 3)) .nil))))) b8) (.cons (.ret (.X 1)) .nil):=rfl
def ck1 (w:List Nat)(hk:k<=w.length):ak0 w none (some (k))=w.take k/\ak0 w (some (k)) none=w.drop k:=by
 unfold ak0;simp only[loB,hiB,sbd,ke];rw[if_pos (by lia),cr,kU hk];exact⟨rfl,bU (by rw[be];exact av _)⟩
section
variable {P:Pr} [Has P ae1] [Has P aa9] [Has P aa7] [Has P ac9]
def bp9 n (hr:r<s.length){S}(J:St8 s r S)(hw:w.length<=22500) f (hf:∀ {s:Sto} {r q:Nat},(∃ b,s[r]?=some (zh b))->q≠r->∀ {ws:List (List Nat)},s[q]?=some (.J (ws.map D.str))->ws≠[]->tot ws<=90000->WsR s r (4*tot ws+15) ((aa0 P (n+2)).call f [.ref r,.ref q] s))(U:Env) :
  ∃(G:Sto) (w':List Nat),ev (aa0 P (n+2)) (.join (.K (.str [10])) (.call f (.ex (.X 0) (.ex (.spl (.X 1) 10) .nil)))) (some (.ref r)::some (.str w)::U) S=.ok (.str w') G/\St8 s r G/\w'.length<=4*w.length+19:=by
 have y:bt5 10 (.str w) S=.ok (.ref S.length) (S++[.J ((aa4 10 w).map D.str)]):=by
  show(if w.length+2<=LIM then af4 (.J ((aa4 10 w).map D.str)) S else .B)=_;rw[if_pos (by unfold LIM;lia)];rfl
 have F:=J.al (.J ((aa4 10 w).map D.str));have ht:=aJ8 (c:=10) w;have z:S.length≠r:=by obtain⟨b,T,rfl⟩:=J;simp;lia
 obtain⟨b,ws,e,Z⟩:=hf (F.bag hr) z zf (aC3 w) (by lia);have Y:=(F.st (b:=b) hr).al (.J (ws.map D.str));have hl:(S++[O.J ((aa4 10 w).map D.str)]).length=((S++[O.J ((aa4 10 w).map D.str)]).set r (zh b)).length:=by simp
 have j:=bT1 (p:=(S++[O.J ((aa4 10 w).map D.str)]).length) (l:=ws) (c:=10) (by rw[hl];exact zf) (by unfold LIM;lia);have hj:=aO3 10 ws;refine⟨_,ac6 [10] ws,?_,Y,by lia⟩
 tbr_iter [an1,aN4,y,e,j]
def cb3 n (hr:r<s.length){S}(hS:St8 s r S)(hw:w.length<=22500) d x2 x3 x4 :∃(F:Sto) (w':List Nat) (y3 y4:Option D),turn (aa0 P (n+2)) (.Y 2) b8 d [some (.ref r),some (.str w),x2,x3,x4] S=.ok (.next [some (.ref r),some (.str w'),some d,y3,y4]) F/\St8 s r F/\w'.length<=4*w.length+19:=by
 obtain⟨k,b,hk,t⟩:=zy (P:=P) (n+1) (hS.bag hr) 5 (by decide) (zN (by decide));have z:=hS.st (b:=b) hr;generalize S.set r (zh b)=A at t z;by_cases h3:k<3
 .have Z:decide ((k:Int)<3)=true:=decide_eq_true (by lia);obtain⟨F,w',e,h',y⟩:=bp9 n hr z hw "_law_words_otherwise" (λ h1 h2 _ h3 h4 h5=>bO0 (P:=P) n h1 h2 h3 h4 h5) [some d,some (.int k),x4];refine⟨F,w',some (.int k),x4,?_,h',y⟩;unfold turn
  tbr_iter [t,Z]
  rw[e]
  tbr_iter []
 .have Z:decide ((k:Int)<3)=false:=decide_eq_false (by lia);by_cases h4:k=3
  .subst h4;have Z:decide (((3:Nat):Int)<3)=false:=rfl;have d4:decide (((3:Nat):Int)=3)=true:=rfl;obtain⟨F,w',e,h',y⟩:=bp9 (P:=P) n hr z hw "_law_rows_otherwise" (λ h1 h2 _ h3 h4 h5=>ce3 (P:=P) n h1 h2 h3 h4 h5) [some d,some (.int ((3:Nat):Int)),x4];refine⟨F,w',some (.int ((3:Nat):Int)),x4,?_,h',y⟩;unfold turn
   tbr_iter [t,Z,d4]
   rw[show ev (aa0 P (n+2)) a8r _ _=_ from e]
   tbr_iter []
  .have d4:decide ((k:Int)=3)=false:=decide_eq_false (by lia);have lS:∀ V:Sto,bi .len [.str w] V=.ok (.int w.length) V:=λ _=>rfl;obtain⟨k1,b1,a6,t1⟩:=zy (P:=P) (n+1) (z.bag hr) ((w.length:Int)+1) (by lia) (by have:=bf1 (k:=w.length+1) (by lia);lia);have hB:=(z.st (b:=b1) hr).al (.J [.int (k1:Int),.int (w.length:Int)]);obtain⟨k2,Y,a7,t2⟩:=zy (P:=P) (n+1) (hB.bag hr) 2 (by decide) (zN (by decide));have hC:=hB.st (b:=Y) hr;have a3:(A.set r (zh b1)).length≠r:=by rw[bt];obtain⟨b,T,rfl⟩:=z;simp;lia
   have a0:((A.set r (zh b1)++[O.J [D.int (k1:Int),.int (w.length:Int)]]).set r (zh Y))[(A.set r (zh b1)).length]?=some (.J [D.int (k1:Int),.int (w.length:Int)]):=ar9 a3 zf;obtain⟨at_,hat,i7⟩:∃ at_:Nat,at_<=w.length/\ixM (.ref (A.set r (zh b1)).length) (.int (k2:Int)) ((A.set r (zh b1)++[O.J [D.int (k1:Int),.int (w.length:Int)]]).set r (zh Y))=.ok (.int (at_:Int)) ((A.set r (zh b1)++[O.J [D.int (k1:Int),.int (w.length:Int)]]).set r (zh Y)):=by
    rcases(show k2=0\/k2=1 by lia)with rfl|rfl
    .exact⟨k1,by lia,ai4 (j:=0) a0 rfl⟩
    .exact⟨w.length,av _,ai4 (j:=1) a0 rfl⟩
   generalize (A.set r (zh b1)++[O.J [D.int (k1:Int),.int (w.length:Int)]]).set r (zh Y)=Cc at t2 hC i7;have e4:ev (aa0 P (n+2)) a8i [some (.ref r),some (.str w),some d,some (.int k),x4] A=.ok (.int (at_:Int)) Cc:=by tbr_iter [lS,t1,t2,i7]
   obtain⟨cu,cd⟩:=ck1 w hat;have s1:∀ V:Sto,slM (.str w) none (some (at_:Int)) V=.ok (.str (w.take at_)) V:=λ V=>by show R.ok (D.str (ak0 w none (some (at_:Int)))) V=_;rw[cu]
   have s2:∀ V:Sto,slM (.str w) (some (at_:Int)) none V=.ok (.str (w.drop at_)) V:=λ V=>by show R.ok (D.str (ak0 w (some (at_:Int)) none)) V=_;rw[cd]
   have hD:=hC.al (.J [.str [32],.str [10]]);obtain⟨k3,G,a5,t3⟩:=zy (P:=P) (n+1) (hD.bag hr) 2 (by decide) (zN (by decide));have hE:=hD.st (b:=G) hr;have a4:Cc.length≠r:=by obtain⟨b,T,rfl⟩:=hC;simp;lia
   have J:((Cc++[O.J [D.str [32],.str [10]]]).set r (zh G))[Cc.length]?=some (.J [D.str [32],.str [10]]):=ar9 a4 zf;obtain⟨c,i8⟩:∃ c:Nat,ixM (.ref Cc.length) (.int (k3:Int)) ((Cc++[O.J [D.str [32],.str [10]]]).set r (zh G))=.ok (.str [c]) ((Cc++[O.J [D.str [32],.str [10]]]).set r (zh G)):=by
    rcases(show k3=0\/k3=1 by lia)with rfl|rfl
    .exact⟨32,ai4 (j:=0) J rfl⟩
    .exact⟨10,ai4 (j:=1) J rfl⟩
   generalize (Cc++[O.J [D.str [32],.str [10]]]).set r (zh G)=E at t3 hE i8;have a1:=ay4 (a:=w.take at_) (b:=[c]) (s:=E) (by rw[aQ];unfold LIM;simp;lia);have a2:=ay4 (a:=w.take at_++[c]) (b:=w.drop at_) (s:=E) (by rw[ar,aQ,be];unfold LIM;simp;lia);have e5:ev (aa0 P (n+2)) a8t [some (.ref r),some (.str w),some d,some (.int k),some (.int (at_:Int))] Cc=.ok (.str (w.take at_++[c]++w.drop at_)) E:=by tbr_iter [zO,s1,t3,i8,a1,ev_slL',s2,a2]
   refine⟨E,w.take at_++[c]++w.drop at_,some (.int k),some (.int (at_:Int)),?_,hE,by rw[ar,ar,aQ,be];simp;lia⟩;unfold turn
   tbr_iter [t,Z,d4,lS,t1,t2,i7,zO,s1,t3,i8,a1,ev_slL',s2,a2]
noncomputable def bd8:Nat->Nat
 | 0=>1400
 | j+1=>4*bd8 j+19
def bp3 (h:j<=3):bd8 j<=90000/\(j<=2->bd8 j<=22500):=by
 rcases(show j=0\/j=1\/j=2\/j=3 by lia)with rfl|rfl|rfl|rfl<;>exact⟨by decide,by decide⟩
def av1  n (hs:∃ b,s[r]?=some (zh b))(hw:w.length<=1400):TxR 90000 s r ((aa0 P (n+3)).call "_law_otherwise" [.ref r,.str w] s):=by
 have e0:(aa0 P (n+3)).call "_law_otherwise" [.ref r,.str w] s=_:=ze ac9 rfl;rw[e0,bJ6,show(cg some [D.ref r,.str w]++ax ac9.vs none)=[some (.ref r),some (.str w),none,none,none]from rfl];have hr:=qN hs;obtain⟨k,b,hk,t⟩:=zy (P:=P) (n+1) hs 3 (by decide) (zN (by decide));have G:St8 s r (s.set r (zh b)):=⟨b,[],(az _).symm⟩
 generalize s.set r (zh b)=A at t G;have Y:(1)+(k)=((k+1:Nat):Int):=by lia
 have F:∀ V,bb4 (.int ((k+1:Nat):Int)) V=.ok ⟨ah9 0 ((k+1:Nat):Int),[]⟩ V:=λ V=>ak7 (by unfold Ww62;lia) (by unfold Ww62;lia);have y:(ah9 0 ((k+1:Nat):Int)).length=k+1:=by simp[ah9]
 have key:=aq5 (ok:=λ V=>chk A V []) (λ j U u=>St8 s r u/\∃ v z x3 x4 ,v.length<=bd8 j/\U=[some (.ref r),some (.str v),z,x3,x4]) (ah9 0 ((k+1:Nat))) 0 [some (.ref r),some (.str w),none,none,none] A ⟨G,w,none,none,none,hw,rfl⟩ (λ _ _ _ _ _=>rfl) (by
  rintro j d U u hj ⟨hu,v,z,x3,x4,hv,rfl⟩
  have a0:j<k+1:=by rw[<-y];exact(ah.mp hj).1
  rw[dN]at hv ⊢;have:=(bp3 (j:=j) (by lia)).2 (by lia);obtain⟨S',w',y3,y4,e,h',Z⟩:=cb3 (P:=P) n hr hu (w:=v) (by lia) d z x3 x4;exact⟨_,S',.inl e,h',w',_,_,_,by show w'.length<=4*bd8 j+19;lia,rfl⟩)
 obtain⟨U1,s1,e1,h1,v,z,x3,x4,hv,rfl⟩:=key;rw[y,dN]at hv;have:=(bp3 (j:=k+1) (by lia)).1;obtain⟨J,T,rfl⟩:=h1;refine⟨v,J,by lia,?_⟩
 tbr_iter [t,Y,F,e1]
 exact aj4 (λ _=>rfl) (by nofun) rfl
end
inductive DspT:E->List (List Nat)->Prop
 | mk (es:Es) (l:List (List Nat)) (h:∀ F U s,evs F es U s=.ok (l.map D.str) s):DspT (.J es) l
def aE8 (h:DspT e l) F U s :ev F e U s=.ok (.ref s.length) (s++[.J (l.map D.str)]):=by
 obtain⟨es,l,h⟩:=h;show(evs F es U s).bind (λ l s=>af4 (.J l) s)=_;rw[h];rfl
noncomputable abbrev qo:List Nat:=[10,100,111,111,114,32,48,32,97,32,48,32,49]
abbrev f8:S:=.fo (.Y 3) (.rg (.K (.int 75))) (.cons (.A (.Y 2) (.G .add (.X 2) (.K (.str qo)))) .nil)
abbrev r8:S:=.ret (.ix (.G .add (.X 1) (.J (.cons (.X 2) (.cons (.G .add (.X 2) (.K (.str qo))) .nil)))) (.call "_law_take" (.ex (.X 0) (.ex (.K (.int 16)) .nil))))
def bR0:∃ e1 e2 e3 Y J c m l1 y F G z ,ah3.body=.cons (.A (.Y 1) e1) (.cons (.A (.Y 1) (.G .add (.X 1) e2)) (.cons (.A (.Y 1) (.G .add (.X 1) e3)) (.cons (.A (.Y 1) (.G .add (.X 1) Y)) (.cons (.A (.Y 1) (.G .add (.X 1) J)) (.cons (.ex (.me .append (.X 1) (.cons (.K (.str c)) .nil))) (.cons (.A (.Y 2) (.K (.str m))) (.cons f8 (.cons r8 .nil))))))))/\DspT e1 l1/\DspT e2 y/\DspT e3 F/\DspT Y G/\DspT J z/\(l1++y++F++G++z++[c]).length=14/\(∀ w∈l1++y++F++G++z++[c],w.length<=100)/\m.length<=100/\l1.length=5/\y.length=2/\F.length=2/\G.length=2/\z.length=2 :=
 ⟨_,_,_,_,_,_,_,_,_,_,_,_,rfl,.mk _ [_,_,_,_,_] λ _ _ _=>rfl,.mk _ [_,_] λ _ _ _=>rfl,.mk _ [_,_] λ _ _ _=>rfl,.mk _ [_,_] λ _ _ _=>rfl,.mk _ [_,_] λ _ _ _=>rfl,rfl,by decide,by decide,rfl,rfl,rfl,rfl,rfl⟩
section
variable {P:Pr} [Has P ae1] [Has P ah3]
def bT2  n (hs:∃ b,s[r]?=some (zh b)):TxR 90000 s r ((aa0 P (n+2)).call "_law_short" [.ref r] s):=by
 have e0:(aa0 P (n+2)).call "_law_short" [.ref r] s=_:=ze ah3 rfl;obtain⟨e1,e2,e3,e4,e5,c,m,l1,J,G,Y,F,hb,h1,h2,h3,h4,h5,a6,a5,hm,n1,n2,n3,n4,n5⟩:=bR0;rw[e0,hb,show(cg some [D.ref r]++ax ah3.vs none)=[some (.ref r),none,none,none]from rfl];have hr:=qN hs;obtain⟨b',b6⟩:=hs;have b1:s.set r (zh b')=s:=by
  have e:=(ah.mp b6).2;rw[<-e];exact iB _
 have hA:St8 s r s:=⟨b',[],by rw[az,b1]⟩
 have d1:=λ U S=>aE8 h1 (aa0 P (n+1)) U S;have d2:=λ U S=>aE8 h2 (aa0 P (n+1)) U S;have d3:=λ U S=>aE8 h3 (aa0 P (n+1)) U S;have d4:=λ U S=>aE8 h4 (aa0 P (n+1)) U S;have d5:=λ U S=>aE8 h5 (aa0 P (n+1)) U S;have step:∀ {e:E} {l m:List (List Nat)} {A:Sto} {p:Nat} (x2 x3:Option D),(∀ U S,ev (aa0 P (n+1)) e U S=.ok (.ref S.length) (S++[.J (m.map D.str)]))->St8 s r A->A[p]?=some (.J (l.map D.str))->l.length+m.length<=100->∃(B:Sto) (q:Nat),ex (aa0 P (n+1)) (.A (.Y 1) (.G .add (.X 1) e)) [some (.ref r),some (.ref p),x2,x3] A=.ok (.next [some (.ref r),some (.ref q),x2,x3]) B/\St8 s r B/\B[q]?=some (.J ((l++m).map D.str))/\s.length<=q:=λ {e l m A p} x2 x3 he hA hp hz=>by
  have a:=bh1 (m:=m) (za hp) zf (by unfold LIM;lia);have:=he [some (.ref r),some (.ref p),x2,x3] A;refine⟨A++[.J (m.map D.str)]++[.J ((l++m).map D.str)],(A++[O.J (m.map D.str)]).length,by tbr_iter [this,a],(hA.al _).al _,zf,?_⟩;obtain⟨b,T,rfl⟩:=hA;simp
 have q1:ex (aa0 P (n+1)) (.A (.Y 1) e1) [some (.ref r),none,none,none] s=.ok (.next [some (.ref r),some (.ref s.length),none,none]) (s++[.J (l1.map D.str)]):=by rw[ex_asg,d1];rfl
 rw[zb,q1,R.bind_ok];have hB:=hA.al (.J (l1.map D.str));obtain⟨S2,p2,q2,b3,c6,_⟩:=step none none d2 hB zf (by lia);show TxR _ s r (R.bind (exs (aa0 P (n+1)) (.cons (.A (.Y 1) (.G .add (.X 1) e2)) _) _ _) _);rw[zb,q2,R.bind_ok];obtain⟨S3,p3,q3,b2,c1,_⟩:=step none none d3 b3 c6 (by rw[ar];lia);show TxR _ s r (R.bind (exs (aa0 P (n+1)) (.cons (.A (.Y 1) (.G .add (.X 1) e3)) _) _ _) _);rw[zb,q3,R.bind_ok];obtain⟨S4,p4,q4,d0,b5,_⟩:=step none none d4 b2 c1 (by rw[ar,ar];lia);show TxR _ s r (R.bind (exs (aa0 P (n+1)) (.cons (.A (.Y 1) (.G .add (.X 1) e4)) _) _ _) _);rw[zb,q4,R.bind_ok];obtain⟨S5,p5,q5,c4,b0,e6⟩:=step none none d5 d0 b5 (by rw[ar,ar,ar];lia);show TxR _ s r (R.bind (exs (aa0 P (n+1)) (.cons (.A (.Y 1) (.G .add (.X 1) e5)) _) _ _) _);rw[zb,q5,R.bind_ok];have a8:=qF (v:=.str c) b0 (by rw[ao,ar,ar,ar,ar];unfold LIM;lia);have c2:(l1++J++G++Y++F).map D.str++[.str c]=(l1++J++G++Y++F++[c]).map D.str:=by simp only[cb];rfl
 rw[c2]at a8;have a9:=(ah.mp b0).1;have a3:(S5.set p5 (.J ((l1++J++G++Y++F++[c]).map D.str)))[p5]?=some (.J ((l1++J++G++Y++F++[c]).map D.str)):=ak9 a9;have a0:St8 s r (S5.set p5 (.J ((l1++J++G++Y++F++[c]).map D.str))):=by
  obtain⟨b,T,rfl⟩:=c4;refine⟨b,T.set (p5 - s.length) (.J ((l1++J++G++Y++F++[c]).map D.str)),?_⟩;rw[dE _ _ (by simp;omega),bt]
 have q6:ex (aa0 P (n+1)) (.ex (.me .append (.X 1) (.cons (.K (.str c)) .nil))) [some (.ref r),some (.ref p5),none,none] S5=.ok (.next [some (.ref r),some (.ref p5),none,none]) (S5.set p5 (.J ((l1++J++G++Y++F++[c]).map D.str))):=by tbr_iter [a8]
 show TxR _ s r (R.bind (exs (aa0 P (n+1)) (.cons (.ex (.me .append (.X 1) (.cons (.K (.str c)) .nil))) _) _ _) _);rw[zb,q6,R.bind_ok];generalize S5.set p5 (.J ((l1++J++G++Y++F++[c]).map D.str))=S6 at a3 a0;generalize l1++J++G++Y++F++[c]=l at a6 a5 a3;have q7:ex (aa0 P (n+1)) (.A (.Y 2) (.K (.str m))) [some (.ref r),some (.ref p5),none,none] S6=.ok (.next [some (.ref r),some (.ref p5),some (.str m),none]) S6:=by tbr_iter []
 show TxR _ s r (R.bind (exs (aa0 P (n+1)) (.cons (.A (.Y 2) (.K (.str m))) _) _ _) _);rw[zb,q7,R.bind_ok];have b4:∀ V,bb4 (.int 75) V=.ok ⟨ah9 0 75,[]⟩ V:=λ V=>ak7 (by decide) (by decide);have key:=aq5 (ok:=λ V=>chk S6 V []) (g:=turn (aa0 P (n+1)) (.Y 3) (.cons (.A (.Y 2) (.G .add (.X 2) (.K (.str qo)))) .nil)) (λ j U u=>u=S6/\∃(v:List Nat) (x3:Option D),v.length<=100+13*j/\U=[some (.ref r),some (.ref p5),some (.str v),x3]) (ah9 0 75) 0 [some (.ref r),some (.ref p5),some (.str m),none] S6 ⟨rfl,m,none,by omega,rfl⟩ (λ _ _ _ _ _=>rfl) (by
  rintro j d U u hj ⟨rfl,v,x3,hv,rfl⟩
  have e7:j<75:=(ah.mp hj).1;rw[dN]at hv ⊢;have a:=ay4 (a:=v) (b:=qo) (s:=u) (by unfold LIM;show v.length+13<=_;lia);refine⟨[some (.ref r),some (.ref p5),some (.str (v++qo)),some d],u,.inl ?_,rfl,_,_,?_,rfl⟩
  .unfold turn
   tbr_iter [a]
  .rw[ar];show v.length+13<=_;lia)
 obtain⟨U1,y,c0,rfl,v,x3,hv,rfl⟩:=key;have hv:v.length<=1075:=hv;have q8:ex (aa0 P (n+1)) f8 [some (.ref r),some (.ref p5),some (.str m),none] y=.ok (.next [some (.ref r),some (.ref p5),some (.str v),x3]) y:=by
  have eI:evI (aa0 P (n+1)) (.rg (.K (.int 75))) [some (.ref r),some (.ref p5),some (.str m),none] y=.ok ⟨ah9 0 75,[]⟩ y:=by tbr_iter [b4]
  rw[ex_for,eI,R.bind_ok];exact c0
 show TxR _ s r (R.bind (exs (aa0 P (n+1)) (.cons f8 _) _ _) _);rw[zb,q8,R.bind_ok];have a1:=ay4 (a:=v) (b:=qo) (s:=y) (by unfold LIM;show v.length+13<=_;lia);have a2:=bh1 (S:=y++[.J ([v,v++qo].map D.str)]) (a:=p5) (b:=y.length) (l:=l) (m:=[v,v++qo]) (za a3) zf (by unfold LIM;simp;lia);have a7:[v,v++qo].map D.str=[.str v,.str (v++qo)]:=rfl;rw[a7]at a2;have hE:=(a0.al (.J [.str v,.str (v++qo)])).al (.J ((l++[v,v++qo]).map D.str));obtain⟨k,b,hk,t⟩:=zy (P:=P) n (hE.bag hr) 16 (by decide) (zN (by decide));have hF:=hE.st (b:=b) hr;have c3:((y++[O.J [.str v,.str (v++qo)]]++[O.J ((l++[v,v++qo]).map D.str)]).set r (zh b))[(y++[O.J [.str v,.str (v++qo)]]).length]?=some (.J ((l++[v,v++qo]).map D.str)):=ar9 (by obtain⟨b,T,rfl⟩:=a0;simp;lia) zf;have Z:k<(l++[v,v++qo]).length:=by rw[ar,a6];show k<16;lia
 have i9:=qy c3 (aj Z);have a4:((l++[v,v++qo])[k]).length<=90000:=by
  rcases cH.mp (bK Z)with z|z
  .have:=a5 _ z;lia
  .simp only[aw,aR,or_false]at z;rcases z with z|z<;>rw[z]
   .lia
   .rw[ar];show v.length+13<=_;lia
 generalize (l++[v,v++qo])[k]=w at i9 a4;obtain⟨b9,T9,e9⟩:=hF;refine⟨w,b9,a4,?_⟩;show R.bind (exs (aa0 P (n+1)) (.cons r8 .nil) _ _) _=_
 tbr_iter [a1,a2,t,i9]
 rw[e9];exact aj4 (d:=.str w) (λ _=>rfl) (by nofun) rfl
end
theorem aj1 :∀ {l},(∀ d∈l,f d d=some true)->eqL f l l=some true
 | [],_=>rfl
 | d::l,h=>by
  show(match f d d,eqL f l l with|some x,some y=>some (x&&y)|_,_=>none)=_;rw[h d (au ..),aj1 λ x hx=>h x (ai _ hx)];rfl
def aU7 s n i :eqv s n (.int i) (.int i)=some true:=by
 cases n<;>(show some (i==i)=_;simp)
def ce6 s n w :eqv s n (.str w) (.str w)=some true:=by
 cases n<;>(show some (w==w)=_;simp)
def aM8 s n l :eqv s (n+1) (.tp (zn l)) (.tp (zn l))=some true:=by
 refine aj1 λ d hd=>?_;obtain⟨i,_,rfl⟩:=aN.mp hd;exact aU7 s n _
section
variable {P:Pr} [Has P aW5] [Has P ax6] [Has P ae1] [Has P ag1] [Has P ae7] [Has P ac5] [Has P ak5] [Has P al5] [Has P au6] [Has P ap8] [Has P aE4] [Has P au2] [Has P qO]
 [HasC P "FIGURES" (.tp au3)] [HasC P "HEADS" (.tp as0)] [Has P aa2] [Has P aa6] [Has P aa5] [Has P aa8] [Has P ab2]
 [Has P ab0] [Has P ab1] [Has P ab9] [Has P ab5] [Has P ac1] [Has P ab4] [Has P aa3] [Has P ab7] [HasC P "LETTERS" (.tp aK3)] [HasC P "MOST_TOLL" (.int 3)] [HasC P "MOST_DOORS" (.int 75)] [HasC P "MOST_ROOMS" (.int 5)]
end
def bC9 (hm:m.Ok):∀ r∈qh m,(al8 r).length<=16:=λ r hr=>by
 have y:∀ {l},((∀ i∈l,i<m.R)/\l.Pairwise (· < ·))->∀ t:List Nat,t.length<=5->(al8 (.str t::zn l)).length<=16:=λ {l} h t ht=>by
  have F:=ai3 [32] ((D.str t::zn l).map tx);have z:=aN2 h hm.R5;have h3:(((D.str t::zn l).map tx).map λ w=>w.length+([32]).length).sum=t.length+1+2*l.length:=by
   rw[aF,aF,dZ];have:((zn l).map tx).map (λ w=>w.length+([32]).length)=l.map λ _=>2:=by
    unfold zn;rw[ce,ce];rfl
   rw[this,kW,ip];show t.length+1+l.length*2=_;lia
  show(ac6 [32] ((D.str t::zn l).map tx)).length<=16;lia
 unfold qh at hr;rcases cH.mp hr with hr|hr
 .simp only[aw,aR,or_false]at hr;rcases hr with rfl|rfl|rfl|rfl
  .show 9<=16;decide
  .show 7<=16;decide
  .exact y hm.bg _ (by decide)
  .exact y hm.en _ (by decide)
 .obtain⟨x,hx,rfl⟩:=aN.mp hr;show 12<=16;decide
def ba1 (hm:m.Ok):(bA4 m).length<=1400:=by
 have h:=ay6 (ws:=(qh m).map al8) (k:=1) (B:=17) (λ w hw=>by
  obtain⟨r,hr,rfl⟩:=aN.mp hw;have:=bC9 hm r hr;lia)
 rw[ao]at h;have y:=aM3 hm;have h3:=ai3 [10] ((qh m).map al8);have h4:(qh m).length*17<=79*17:=fA _ y;exact aq h3 (aq h (by lia))
def cb2 (m:MD)(s:Sto):zQ .ne m.d m.d s=.ok (.T false) s:=by
 show(match eqv s DEEP m.d m.d with|some r=>R.ok (D.T (!r)) s|none=>.B)=_;have:eqv s DEEP m.d m.d=some true:=by
  show eqL (eqv s 29) [.int m.L,.int m.R,.tp (zn m.bg),.tp (zn m.en),.tp (m.ds.map dD)] [.int m.L,.int m.R,.tp (zn m.bg),.tp (zn m.en),.tp (m.ds.map dD)]=_;refine aj1 λ d hd=>?_;simp only[aw,aR,or_false]at hd;rcases hd with rfl|rfl|rfl|rfl|rfl
  .exact aU7 s 29 _
  .exact aU7 s 29 _
  .exact aM8 s 28 _
  .exact aM8 s 28 _
  .show eqL (eqv s 28) (m.ds.map dD) (m.ds.map dD)=_;refine aj1 λ d hd=>?_;obtain⟨x,_,rfl⟩:=aN.mp hd;show eqL (eqv s 27) [.int x.1,.str x.2.1,.int x.2.2.1,.int x.2.2.2] [.int x.1,.str x.2.1,.int x.2.2.1,.int x.2.2.2]=_;refine aj1 λ d hd=>?_;simp only[aw,aR,or_false]at hd;rcases hd with rfl|rfl|rfl|rfl
   .exact aU7 s 27 _
   .exact ce6 s 27 _
   .exact aU7 s 27 _
   .exact aU7 s 27 _
 rw[this];rfl
noncomputable def ac8:Tf:=⟨1,2,(.cons (.A (.Y 1) (.call "read_machine" (.ex (.X 0) .nil))) .nil),.call "read_machine" (.ex (.X 0) .nil), "NoText",2,.sup "TollError" (.kin "_law_kind" true),(.cons (.ret (.X 1)) .nil),.nil⟩
def cj1 (s:Sto):Option MD->R D->Prop
 | some m,x=>x=.ok m.d s
 | none,x=>x=.ok (.ref s.length) (s++[.J [.str qT]])
noncomputable abbrev bD5:Ss:=.cons (.ite (.or (.Z .ne (.call "_law_outcome" (.ex (.X 4) .nil)) (.call "_law_due" (.ex (.X 4) .nil))) (.Z .ne (.call "_law_outcome" (.ex (.X 4) .nil)) (.call "_law_due" (.ex (.X 4) .nil)))) (.cons (.ret (.K (.T false))) .nil) .nil) .nil
noncomputable abbrev bS2:S:=.A (.Y 2) (.call "_law_bag" (.ex (.X 0) (.ex (.X 1) .nil)))
noncomputable abbrev bw7:S:=.A (.Y 3) (.call "_law_written" (.ex (.call "_law_machine" (.ex (.X 2) .nil)) .nil))
noncomputable abbrev ca4:I:=.seq (.J (.cons (.X 3) (.cons (.call "_law_otherwise" (.ex (.X 2) (.ex (.X 3) .nil))) (.cons (.call "_law_otherwise" (.ex (.X 2) (.ex (.X 3) .nil))) (.cons (.call "_law_short" (.ex (.X 2) .nil)) .nil)))))
def b68:Ss:=.cons bS2 (.cons bw7 (.cons (.fo (.Y 4) ca4 bD5) .nil))
def bM2:ad8.body=.cons (.fo (.Y 1) (.rg (.bi .max2 (.cons (.K (.int 3)) (.cons (.bi .min2 (.cons (.bi .len (.cons (.X 0) .nil)) (.cons (.K (.int 12)) .nil))) .nil)))) b68) (.cons (.ret (.K (.T true))) .nil):=rfl
section
variable {P:Pr} [HasC P "FIGURES" (.tp au3)] [HasC P "HEADS" (.tp as0)] [Has P aa2] [Has P aa6] [Has P aa5] [Has P aa8] [Has P ab2] [HasX P "read_figure" ac7] [HasX P "read_number" ad3] [HasX P "read_numbers" ac2] [HasX P "read_door" ag5] [HasX P "read_machine" aj6] [hE:HasE P "NoText" KX]
 [Has P ab0] [Has P ab1] [Has P ab9] [Has P ab5] [Has P ac1] [Has P ab4] [Has P aa3] [Has P ab7] [HasC P "LETTERS" (.tp aK3)] [HasC P "MOST_TOLL" (.int 3)] [HasC P "MOST_DOORS" (.int 75)] [HasC P "MOST_ROOMS" (.int 5)]
 [Has P ad9] [Has P ac0] [Has P ab8] [Has P ab3] [Has P af9] [Has P ag0] [HasT P "_law_outcome" ac8] [HasX P "_law_kind" an7]
def ck8  n (hw:w.length<=99000) s :cj1 s (rdM (zC w)) ((aa0 P (n+7)).call "_law_outcome" [.str w] s):=by
 have e0:(aa0 P (n+7)).call "_law_outcome" [.str w] s=_:=bu8 ac8 rfl;rw[bi4 rfl]at e0;have y:=cf7 (P:=P) n hw s;have F:ag7 (aa0 P (n+6)) (.ex (.X 0) .nil) [some (.str w),none,none] s=.ok [.str w] s:=by tbr_iter []
 have xe:xB (aa0 P (n+6)) ac8.xb ([D.str w].map some++ax ac8.vs none) s=(aa0 P (n+6)).xcall "read_machine" [.str w] s:=az0 F;unfold bo1 at e0;rw[xe]at e0;cases hf:rdM (zC w)with
 | none =>
  rw[hf]at y;obtain⟨T,hx⟩:=y;rw[hx]at e0;have hk:ac8.h.ok (aa0 P (n+6)).xt=true:=by
   rw[aU2.2];have a:=λ x hx=>hE.ts x hx;show(P.xt "TollError"&&ac4.all P.xt)=true;rw[a "TollError" (by decide),cj,aD];intro x hx;exact a x (by revert x;decide)
  have hc:ac8.tk "NoText"=true/\(aa0 P (n+6)).xc "NoText"=true/\ac8.h.ok (aa0 P (n+6)).xt=true/\ac8.h.kok (aa0 P (n+6)).kd=true:=⟨by decide,by rw[aU2.1];exact hE.at_,hk,bY9 ⟩
  have e0:(aa0 P (n+7)).call "_law_outcome" [.str w] s=if ac8.tk "NoText"=true/\(aa0 P (n+6)).xc "NoText"=true/\ac8.h.ok (aa0 P (n+6)).xt=true/\ac8.h.kok (aa0 P (n+6)).kd=true then ac8.h.out "NoText" s (s++T)else .B:=e0;rw[if_pos hc]at e0;rw[e0];show zw s (.ref (s++T).length) (s++T++[.J [.str (ag4 "NoText")]])=_;rw[show ag4 "NoText"=qT by decide];exact aP9 rfl
 | some m =>
  rw[hf]at y;obtain⟨hc,hx⟩:=y;rw[hx]at e0;have hb:exs (aa0 P (n+6)) (.cons (.A (.Y 1) (.call "read_machine" (.ex (.X 0) .nil))) .nil) [some (.str w),none,none] s=.ok (.next [some (.str w),some m.d,none]) s:=by tbr_iter [hc]
  have e0:(aa0 P (n+7)).call "_law_outcome" [.str w] s=(exs (aa0 P (n+6)) (.cons (.A (.Y 1) (.call "read_machine" (.ex (.X 0) .nil))) .nil) [some (.str w),none,none] s).bind λ c z=>match c with
   | .ret v=>zw s v z
   | .next U=>(exs (aa0 P (n+6)) (.cons (.ret (.X 1)) .nil) U z).bind λ c s2=>match c with
    | .ret v=>zw s v s2
    | .next _=>zw s .N s2
    | _=>.B
   | _=>.B:=e0
  rw[e0,hb];exact zx (aP4 m) (by nofun)
def cj5  n (hw:w.length<=99000) s :cj1 s (rdM (zC w)) ((aa0 P (n+5)).call "_law_due" [.str w] s):=by
 have e0:(aa0 P (n+5)).call "_law_due" [.str w] s=_:=ze ag0 rfl;have y:=bQ6 (P:=P) n hw s;rw[show(cg some [D.str w]++ax ag0.vs none)=[some (.str w),none]from rfl]at e0;cases hf:rdM (zC w)with
 | none =>
  rw[hf]at y;have y:=y;rw[e0];have z:decide (D.N=.N)=true:=rfl
  tbr_iter [ag0,y,z]
  have:=aP9 (u:=s) (T:=[]) (o:=.J [.str qT]) rfl
  rwa [az]at this
 | some m =>
  rw[hf]at y;have y:=y;rw[e0];have z:decide (m.d=.N)=false:=by unfold MD.d;simp
  tbr_iter [ag0,y,z]
  exact zx (aP4 m) (by nofun)
def bH8  n (hw:w.length<=99000) s  x0 x1 F x3 :∃ T,ev (aa0 P (n+7)) (.Z .ne (.call "_law_outcome" (.ex (.X 4) .nil)) (.call "_law_due" (.ex (.X 4) .nil))) [x0,x1,F,x3,some (.str w)] s=.ok (.T false) (s++T):=by
 have z:=ck8 (P:=P) n hw s;have y:=λ S=>cj5 (P:=P) (n+2) hw S;cases hf:rdM (zC w)with
 | none =>
  rw[hf]at z;have z:(aa0 P (n+7)).call "_law_outcome" [.str w] s=.ok (.ref s.length) (s++[.J [.str qT]]):=z;have y:=y (s++[.J [.str qT]]);rw[hf]at y;have y:(aa0 P (n+7)).call "_law_due" [.str w] (s++[.J [.str qT]])=.ok (.ref (s++[O.J [.str qT]]).length) (s++[.J [.str qT]]++[.J [.str qT]]):=y;have h3:=bv5 (b:=(s++[O.J [.str qT]]).length) (za bw6) bw6 rfl;refine⟨[.J [.str qT]]++[.J [.str qT]],?_⟩;rw[<-ag]
  tbr_iter [z,y,h3]
 | some m =>
  rw[hf]at z;have z:(aa0 P (n+7)).call "_law_outcome" [.str w] s=.ok m.d s:=z;have y:=y s;rw[hf]at y;have y:(aa0 P (n+7)).call "_law_due" [.str w] s=.ok m.d s:=y;have h3:=cb2 m s;refine⟨[],?_⟩;rw[az]
  tbr_iter [z,y,h3]
def bH5 n (hw:w.length<=99000) s x0 x1 y x3 x4 :∃ T,turn (aa0 P (n+7)) (.Y 4) bD5 (.str w) [x0,x1,y,x3,x4] s=.ok (.next [x0,x1,y,x3,some (.str w)]) (s++T):=by
 obtain⟨z,J⟩:=bH8 (P:=P) n hw s x0 x1 y x3;obtain⟨F,G⟩:=bH8 (P:=P) n hw (s++z) x0 x1 y x3;refine⟨z++F,?_⟩;rw[<-ag];show exs (aa0 P (n+7)) bD5 [x0,x1,y,x3,some (.str w)] s=_;unfold bD5;rw[aZ0,ex_ite,ev_or,J,tru_bl,if_neg (by decide),G,tru_bl,tru_bl,if_neg (by decide)];rfl
def bL5 n (l:List (List Nat))(hl:∀ w∈l,w.length<=99000) Ww q (hq:Ww[q]?=some (.J (l.map D.str))) x0 x1 z x3 x4 :∃(T:Sto) (y:Option D),ax9 (λ S=>chk Ww S [q]) (turn (aa0 P (n+7)) (.Y 4) bD5) (l.map D.str) [x0,x1,z,x3,x4] Ww=.ok (.next [x0,x1,z,x3,y]) (Ww++T):=by
 have F:=(ah.mp hq).1;obtain⟨U,u,e,T,y,rfl,rfl⟩:=aq5 (ok:=λ S=>chk Ww S [q]) (λ _ U u=>∃ T y ,u=Ww++T/\U=[x0,x1,z,x3,y]) (l.map D.str) 0 [x0,x1,z,x3,x4] Ww ⟨[],x4,by rw[az],rfl⟩ (λ _ _ _ _ h=>by
  obtain⟨T,_,rfl,_⟩:=h;simp[chk,bh F]) (by
  rintro j d U u hj ⟨T,y,rfl,rfl⟩
  obtain⟨w,hw,rfl⟩:=aN.mp (aG hj);obtain⟨G,e⟩:=bH5 (P:=P) n (hl w hw) (Ww++T) x0 x1 z x3 y;exact⟨_,_,.inl e,T++G,_,by rw[ag],rfl⟩)
 exact⟨T,y,e⟩
variable [Has P ad8] [Has P ax6] [Has P ae1] [Has P ag1] [Has P ae7] [Has P ac5] [Has P aa9] [Has P aa7] [Has P ac9] [Has P ah3]
def cb0 n :cd6 P (n+8):=by
 intro ns hl;have e0:(aa0 P (n+8)).call "law" [.ref 0] [.ro (ns.map D.int)]=_:=ze ad8 rfl;rw[e0,bM2,show(cg some [D.ref 0]++ax ad8.vs none)=[some (.ref 0),none,none,none,none]from rfl];have c1:([.ro (ns.map D.int)]:Sto)[0]?=some (.ro (ns.map D.int)):=rfl;have a2:bi .len [.ref 0] [.ro (ns.map D.int)]=.ok (.int ns.length) [.ro (ns.map D.int)]:=by rw[bt2 c1,ao]
 obtain⟨k,hk12,hk⟩:∃ k:Nat,k<=12/\(if(if 12<(ns.length:Int)then 12 else(ns.length:Int)) > 3 then(if 12<(ns.length:Int)then 12 else(ns.length:Int))else 3)=(k):=by
  by_cases h:(12)<(ns.length:Int)
  .exact⟨12,by lia,by rw[if_pos h];rfl⟩
  .rw[if_neg h];by_cases h2:(ns.length:Int) > 3
   .exact⟨ns.length,by lia,by rw[if_pos h2]⟩
   .exact⟨3,by lia,by rw[if_neg h2];rfl⟩
 tbr_iter [a2,bj0,bk0,hk]
 rw[ak7 (by unfold Ww62;lia) (by unfold Ww62;lia)];simp only[R.bind_ok];rw[R.bind_assoc];refine aw1 (λ j U t=>t[0]?=some (.ro (ns.map D.int))/\∃ x1 x2 x3 x4 ,U=[some (.ref 0),x1,x2,x3,x4]) ⟨rfl,_,_,_,_,rfl⟩ (λ _ _ _ _ _=>rfl) ?_ ?_
 .rintro j d U t hj ⟨ht,x1,x2,x3,x4,rfl⟩
  obtain⟨c4,rfl⟩:=aw0 hj;rw[lU];have d0:=(ah.mp ht).1;have J:=bK6 (P:=P) (n+6) ns j t 0 ht hl;generalize bE7 ns j=b0 at J;have a5:∃ b,(t++[zh b0])[t.length]?=some (zh b):=⟨b0,by simp⟩
  have b6:(t++[zh b0])[0]?=some (.ro (ns.map D.int)):=za ht;generalize c2:t++[zh b0]=S at *;have G:(0:Nat)≠t.length:=by lia
  generalize hr:t.length=r at *;obtain⟨m,b1,hm,em⟩:=aT4 (P:=P) (n+4) a5;have b9:r<S.length:=qN a5;have a7:(S.set r (zh b1))[0]?=some (.ro (ns.map D.int)):=ar9 G b6;have Y:∃ b,(S.set r (zh b1))[r]?=some (zh b):=qS b9;generalize S.set r (zh b1)=A at em a7 Y;have ew:=bc4 (P:=P) (n+6) hm A;have y:=ba1 hm;generalize bA4 m=w at ew y;have c0:r<A.length:=qN Y;obtain⟨w1,b2,d2,e1⟩:=av1 (P:=P) (n+4) Y y;have a3:(A.set r (zh b2))[0]?=some (.ro (ns.map D.int)):=ar9 G a7;have a1:∃ b,(A.set r (zh b2))[r]?=some (zh b):=qS c0;generalize A.set r (zh b2)=B at e1 a3 a1;have a9:r<B.length:=qN a1;obtain⟨F,b3,c3,e2⟩:=av1 (P:=P) (n+4) a1 y;have a6:(B.set r (zh b3))[0]?=some (.ro (ns.map D.int)):=ar9 G a3;have a0:∃ b,(B.set r (zh b3))[r]?=some (zh b):=qS a9;generalize B.set r (zh b3)=Cc at e2 a6 a0;have d1:r<Cc.length:=qN a0;obtain⟨z,b4,c6,e3⟩:=bT2 (P:=P) (n+5) a0;have a4:(Cc.set r (zh b4))[0]?=some (.ro (ns.map D.int)):=ar9 G a6;generalize Cc.set r (zh b4)=Z at e3 a4;have a8:qG (.ref Z.length) (Z++[.J ([w,w1,F,z].map D.str)])=.ok ⟨[w,w1,F,z].map D.str,[Z.length]⟩ (Z++[.J ([w,w1,F,z].map D.str)]):=by simp only[qG,zf]
  have b5:[D.str w,.str w1,.str F,.str z]=[w,w1,F,z].map D.str:=rfl;obtain⟨T,y4,ef⟩:=bL5 (P:=P) n [w,w1,F,z] (λ v hv=>by
   simp only[aw,aR,or_false]at hv;rcases hv with rfl|rfl|rfl|rfl<;>lia) (Z++[.J ([w,w1,F,z].map D.str)]) Z.length zf (some (.ref 0)) (some (.int (j:Int))) (some (.ref r)) (some (.str w)) x4
  refine aJ3 (U:=[some (.ref 0),some (.int (j:Int)),some (.ref r),some (.str w),y4]) (s:=Z++[.J ([w,w1,F,z].map D.str)]++T) ?_ ⟨za (za a4),_,_,_,_,rfl⟩;show exs (aa0 P (n+7)) b68 [some (.ref 0),some (.int (j:Int)),x2,x3,x4] t=_;unfold b68;have q1:ex (aa0 P (n+7)) bS2 [some (.ref 0),some (.int (j:Int)),x2,x3,x4] t=.ok (.next [some (.ref 0),some (.int (j:Int)),some (.ref r),x3,x4]) S:=by tbr_iter [J]
  have q2:ex (aa0 P (n+7)) bw7 [some (.ref 0),some (.int (j:Int)),some (.ref r),x3,x4] S=.ok (.next [some (.ref 0),some (.int (j:Int)),some (.ref r),some (.str w),x4]) A:=by tbr_iter [em,ew]
  have eI:evI (aa0 P (n+7)) ca4 [some (.ref 0),some (.int (j:Int)),some (.ref r),some (.str w),x4] A=.ok ⟨[w,w1,F,z].map D.str,[Z.length]⟩ (Z++[.J ([w,w1,F,z].map D.str)]):=by tbr_iter [e1,e2,e3,b5,a8]
  rw[zb,q1,R.bind_ok];show exs (aa0 P (n+7)) (.cons bw7 _) _ _=_;rw[zb,q2,R.bind_ok];show exs (aa0 P (n+7)) (.cons (.fo (.Y 4) ca4 bD5) .nil) _ _=_;rw[aZ0,ex_for,eI,R.bind_ok];exact ef
 .rintro U v ⟨hv,x1,x2,x3,x4,rfl⟩
  tbr_iter []
  exact aY2 _ _
end
end DV
end
noncomputable section
namespace My
open PySem L2
noncomputable def top (i:Nat):Stmt:=PySem.Challenge.pw_leasttolls_k68_texts_of_no_machine.main.body.getD i (.Pass ⟨0,0,0,0⟩)
noncomputable def af5:List Str:=[]
abbrev at9:Stmt:=top 16
abbrev ai5:Stmt:=top 17
abbrev aF4:Stmt:=top 18
abbrev s_is_letter:Stmt:=top 19
abbrev af7:Stmt:=top 20
abbrev aA5:Stmt:=top 21
abbrev an6:Stmt:=top 22
abbrev al9:Stmt:=top 23
abbrev ad6:Stmt:=top 27
abbrev ae2:Stmt:=top 28
abbrev ae0:Stmt:=top 29
abbrev ae4:Stmt:=top 30
abbrev af3:Stmt:=top 31
abbrev au9:Stmt:=top 33
abbrev aq6:Stmt:=top 34
abbrev al3:Stmt:=top 35
abbrev ah5:Stmt:=top 36
abbrev ah7:Stmt:=top 37
abbrev al7:Stmt:=top 38
abbrev ah0:Stmt:=top 39
abbrev ah6:Stmt:=top 40
abbrev ag6:Stmt:=top 41
abbrev ai0:Stmt:=top 42
abbrev ao3:Stmt:=top 43
abbrev ag3:Stmt:=top 44
abbrev au0:Stmt:=top 45
abbrev ae6:Stmt:=top 46
abbrev ae8:Stmt:=top 47
abbrev ag9:Stmt:=top 48
abbrev am0:Stmt:=top 49
abbrev aG5:Stmt:=top 50
def tb:List (String×n9×Stmt):=[("is_whole",DV.ab1,at9),("is_tuple_of",DV.ab0,ai5),("is_room",DV.ab9,aF4),("is_letter",DV.ab5,s_is_letter),("are_rising_rooms",DV.aa3,af7),("is_door",DV.ac1,aA5),("are_doors",DV.ab4,an6),("is_machine",DV.ab7,al9),("read_machine",DV.ab2,ad6),("read_figure",DV.aa2,ae2),("read_numbers",DV.aa5,ae0),("read_number",DV.aa6,ae4),("read_door",DV.aa8,af3),("_law_bag",DV.ax6,au9),("_law_take",DV.ae1,aq6),("_law_rooms",DV.ag1,al3),("_law_machine",DV.ae7,ah5),("_law_written",DV.ac5,ah7),("_law_whole",DV.ad9,al7),("_law_are_rooms",DV.ac0,ah0),("_law_is_door",DV.ab8,ah6),("_law_is_machine",DV.ab3,ag6),("_law_read",DV.af9,ao3),("_law_due",DV.ag0,au0),("_law_words_otherwise",DV.aa9,ae6),("_law_rows_otherwise",DV.aa7,ae8),("_law_otherwise",DV.ac9,ag9),("_law_short",DV.ah3,am0),("law",DV.ad8,aG5)]
noncomputable def cc4:List (String×mq):=[("LETTERS",.tp [.str [97],.str [98],.str [99]]),("MOST_ROOMS",.int (5)),("MOST_DOORS",.int (75)),("MOST_TOLL",.int (3)),("FIGURES",.tp [.str [48],.str [49],.str [50],.str [51],.str [52],.str [53],.str [54],.str [55],.str [56],.str [57]]),("HEADS",.tp [.str [108,101,116,116,101,114,115],.str [114,111,111,109,115],.str [98,101,103,105,110],.str [101,110,100]])]
noncomputable def ck2:List (String×DV.Lm):=[]
noncomputable def tbl:List (String×n9):=tb.map λ p=>(p.1,p.2.1)
def xtb:List (String×DV.Xf):=[("read_figure",DV.ac7),("read_number",DV.ad3),("read_numbers",DV.ac2),("read_door",DV.ag5),("read_machine",DV.aj6),("_law_kind",DV.an7)]
def ttb:List (String×oQ):=[("_law_outcome",DV.ac8)]
def dl:List (String×Stmt):=[("read_figure",ae2),("read_number",ae4),("read_numbers",ae0),("read_door",af3),("read_machine",ad6),("_law_kind",ai0),("_law_outcome",ag3)]
noncomputable def xcs:List String:=["NoText"]
noncomputable def xts:List String:=["NoMaking", "NoName", "NoPair", "NoPaper", "NoRow", "NoText", "NotSteady", "TollError", "TooLong", "TooMuch"]
noncomputable def P:mQ:=⟨λ f=>tbl.lookup f,λ f=>ck2.lookup f,λ x=>cc4.lookup x,λ f=>xtb.lookup f,λ f=>ttb.lookup f,λ c=>xcs.contains c,λ c=>xts.contains c,λ _=>none⟩
instance:DV.HasX P "read_figure" DV.ac7:=⟨rfl⟩
instance:DV.HasX P "read_number" DV.ad3:=⟨rfl⟩
instance:DV.HasX P "read_numbers" DV.ac2:=⟨rfl⟩
instance:DV.HasX P "read_door" DV.ag5:=⟨rfl⟩
instance:DV.HasX P "read_machine" DV.aj6:=⟨rfl⟩
instance:DV.HasX P "_law_kind" DV.an7:=⟨rfl⟩
instance:DV.HasT P "_law_outcome" DV.ac8:=⟨rfl,rfl⟩
instance:DV.HasE P "NoText" ["NoMaking", "NoName", "NoPair", "NoPaper", "NoRow", "NoText", "NotSteady", "TollError", "TooLong", "TooMuch"]:=⟨rfl,by decide⟩
instance:DV.HasC P "LETTERS" (.tp [.str [97],.str [98],.str [99]]):=⟨rfl⟩
instance:DV.HasC P "MOST_ROOMS" (.int (5)):=⟨rfl⟩
instance:DV.HasC P "MOST_DOORS" (.int (75)):=⟨rfl⟩
instance:DV.HasC P "MOST_TOLL" (.int (3)):=⟨rfl⟩
instance:DV.HasC P "FIGURES" (.tp [.str [48],.str [49],.str [50],.str [51],.str [52],.str [53],.str [54],.str [55],.str [56],.str [57]]):=⟨rfl⟩
instance:DV.HasC P "HEADS" (.tp [.str [108,101,116,116,101,114,115],.str [114,111,111,109,115],.str [98,101,103,105,110],.str [101,110,100]]):=⟨rfl⟩
instance:DV.Has P DV.ab1:=⟨rfl⟩
instance:DV.Has P DV.ab0:=⟨rfl⟩
instance:DV.Has P DV.ab9:=⟨rfl⟩
instance:DV.Has P DV.ab5:=⟨rfl⟩
instance:DV.Has P DV.aa3:=⟨rfl⟩
instance:DV.Has P DV.ac1:=⟨rfl⟩
instance:DV.Has P DV.ab4:=⟨rfl⟩
instance:DV.Has P DV.ab7:=⟨rfl⟩
instance:DV.Has P DV.ab2:=⟨rfl⟩
instance:DV.Has P DV.aa2:=⟨rfl⟩
instance:DV.Has P DV.aa5:=⟨rfl⟩
instance:DV.Has P DV.aa6:=⟨rfl⟩
instance:DV.Has P DV.aa8:=⟨rfl⟩
instance:DV.Has P DV.ax6:=⟨rfl⟩
instance:DV.Has P DV.ae1:=⟨rfl⟩
instance:DV.Has P DV.ag1:=⟨rfl⟩
instance:DV.Has P DV.ae7:=⟨rfl⟩
instance:DV.Has P DV.ac5:=⟨rfl⟩
instance:DV.Has P DV.ad9:=⟨rfl⟩
instance:DV.Has P DV.ac0:=⟨rfl⟩
instance:DV.Has P DV.ab8:=⟨rfl⟩
instance:DV.Has P DV.ab3:=⟨rfl⟩
instance:DV.Has P DV.af9:=⟨rfl⟩
instance:DV.Has P DV.ag0:=⟨rfl⟩
instance:DV.Has P DV.aa9:=⟨rfl⟩
instance:DV.Has P DV.aa7:=⟨rfl⟩
instance:DV.Has P DV.ac9:=⟨rfl⟩
instance:DV.Has P DV.ah3:=⟨rfl⟩
instance:DV.Has P DV.ad8:=⟨rfl⟩
def aS3:DT af5 P "is_whole" DV.ab1 at9:=⟨["thing", "low", "high"],["thing", "low", "high"],Zsc,rfl,rfl,λ _ _ _ _ _ _=>bd3 (λ _ _ _=>rfl),.inl (by decide +kernel)⟩
def aw6:DT af5 P "is_tuple_of" DV.ab0 ai5:=⟨["thing", "many"],["thing", "many"],Zsc,rfl,rfl,λ _ _ _ _ _ _=>bd2 (λ _ _=>rfl),.inl (by decide +kernel)⟩
def be5:DT af5 P "is_room" DV.ab9 aF4:=⟨["thing", "rooms"],["thing", "rooms"],Zsc,rfl,rfl,λ _ _ _ _ _ _=>bd2 (λ _ _=>rfl),.inl (by decide +kernel)⟩
def aK6:DT af5 P "is_letter" DV.ab5 s_is_letter:=⟨["thing", "letters"],["thing", "letters"],Zsc,rfl,rfl,λ _ _ _ _ _ _=>bd2 (λ _ _=>rfl),.inl (by decide +kernel)⟩
def aj2:DT af5 P "are_rising_rooms" DV.aa3 af7:=⟨["thing", "rooms"],["thing", "rooms"],Zsc,rfl,rfl,λ _ _ _ _ _ _=>bd2 (λ _ _=>rfl),.inl (by decide +kernel)⟩
def bf7:DT af5 P "is_door" DV.ac1 aA5:=⟨["thing", "letters", "rooms"],["thing", "letters", "rooms"],Zsc,rfl,rfl,λ _ _ _ _ _ _=>bd3 (λ _ _ _=>rfl),.inl (by decide +kernel)⟩
def aH8:DT af5 P "are_doors" DV.ab4 an6:=⟨["thing", "letters", "rooms"],["thing", "letters", "rooms"],Zsc,rfl,rfl,λ _ _ _ _ _ _=>bd3 (λ _ _ _=>rfl),.inl (by decide +kernel)⟩
def aB9:DT af5 P "is_machine" DV.ab7 al9:=⟨["thing"],["thing"],Zsc,rfl,rfl,λ _ _ _ _ _ _=>bd1 (λ _=>rfl),.inl (by decide +kernel)⟩
def as7:DT af5 P "read_machine" DV.ab2 ad6:=⟨["text", "rows", "heads", "letters", "rooms", "doors", "machine"],["text"],Zsc,rfl,rfl,λ _ _ _ _ _ _=>bd1 (λ _=>rfl),.inl (by decide +kernel)⟩
def ax3:DT af5 P "read_figure" DV.aa2 ae2:=⟨["word"],["word"],Zsc,rfl,rfl,λ _ _ _ _ _ _=>bd1 (λ _=>rfl),.inl (by decide +kernel)⟩
def as8:DT af5 P "read_numbers" DV.aa5 ae0:=⟨["row"],["row"],Zsc,rfl,rfl,λ _ _ _ _ _ _=>bd1 (λ _=>rfl),.inl (by decide +kernel)⟩
def ay1:DT af5 P "read_number" DV.aa6 ae4:=⟨["row"],["row"],Zsc,rfl,rfl,λ _ _ _ _ _ _=>bd1 (λ _=>rfl),.inl (by decide +kernel)⟩
def aG7:DT af5 P "read_door" DV.aa8 af3:=⟨["row"],["row"],Zsc,rfl,rfl,λ _ _ _ _ _ _=>bd1 (λ _=>rfl),.inl (by decide +kernel)⟩
def aU3:DT af5 P "_law_bag" DV.ax6 au9:=⟨["_law_script", "_law_at", "_law_cell", "_law_mix", "_law_k"],["_law_script", "_law_at"],Zsc,rfl,rfl,λ _ _ _ _ _ _=>bd2 (λ _ _=>rfl),.inl (by decide +kernel)⟩
def aI9:DT af5 P "_law_take" DV.ae1 aq6:=⟨["_law_bag_here", "_law_many", "_law_digit", "_law_number", "_law_room"],["_law_bag_here", "_law_many"],Zsc,rfl,rfl,λ _ _ _ _ _ _=>bd2 (λ _ _=>rfl),.inl (by decide +kernel)⟩
def aG0:DT af5 P "_law_rooms" DV.ag1 al3:=⟨["_law_bag_here", "_law_many", "_law_bits"],["_law_bag_here", "_law_many"],Zsc,rfl,rfl,λ _ _ _ _ _ _=>bd2 (λ _ _=>rfl),.inl (by decide +kernel)⟩
def as9:DT af5 P "_law_machine" DV.ae7 ah5:=⟨["_law_bag_here", "_law_letters", "_law_rooms_here", "_law_many", "_law_doors", "_law_k"],["_law_bag_here"],Zsc,rfl,rfl,λ _ _ _ _ _ _=>bd1 (λ _=>rfl),.inl (by decide +kernel)⟩
def at0:DT af5 P "_law_written" DV.ac5 ah7:=⟨["_law_machine_here", "_law_letters", "_law_rooms_here", "_law_begins", "_law_ends", "_law_doors", "_law_rows", "_law_word", "_law_some", "_law_start", "_law_letter", "_law_goal", "_law_cost"],["_law_machine_here"],Zsc,rfl,rfl,λ _ _ _ _ _ _=>bd1 (λ _=>rfl),.inl (by decide +kernel)⟩
def aD0:DT af5 P "_law_whole" DV.ad9 al7:=⟨["_law_thing", "_law_low", "_law_high"],["_law_thing", "_law_low", "_law_high"],Zsc,rfl,rfl,λ _ _ _ _ _ _=>bd3 (λ _ _ _=>rfl),.inl (by decide +kernel)⟩
def am2:DT af5 P "_law_are_rooms" DV.ac0 ah0:=⟨["_law_thing", "_law_rooms_here", "_law_ahead", "_law_room"],["_law_thing", "_law_rooms_here"],Zsc,rfl,rfl,λ _ _ _ _ _ _=>bd2 (λ _ _=>rfl),.inl (by decide +kernel)⟩
def as1:DT af5 P "_law_is_door" DV.ab8 ah6:=⟨["_law_thing", "_law_letters", "_law_rooms_here"],["_law_thing", "_law_letters", "_law_rooms_here"],Zsc,rfl,rfl,λ _ _ _ _ _ _=>bd3 (λ _ _ _=>rfl),.inl (by decide +kernel)⟩
def ak6:DT af5 P "_law_is_machine" DV.ab3 ag6:=⟨["_law_thing", "_law_letters"],["_law_thing", "_law_letters"],Zsc,rfl,rfl,λ _ _ _ _ _ _=>bd2 (λ _ _=>rfl),.inl (by decide +kernel)⟩
def aH9:DT af5 P "_law_read" DV.af9 ao3:=⟨["_law_text", "_law_rows", "_law_signs", "_law_row", "_law_doors", "_law_begins", "_law_found"],["_law_text"],Zsc,rfl,rfl,λ _ _ _ _ _ _=>bd1 (λ _=>rfl),.inl (by decide +kernel)⟩
def aR8:DT af5 P "_law_due" DV.ag0 au0:=⟨["_law_text", "_law_found"],["_law_text"],Zsc,rfl,rfl,λ _ _ _ _ _ _=>bd1 (λ _=>rfl),.inl (by decide +kernel)⟩
def qw:DT af5 P "_law_words_otherwise" DV.aa9 ae6:=⟨["_law_bag_here", "_law_rows", "_law_at", "_law_words", "_law_spot", "_law_some", "_law_way", "_law_new", "_law_row"],["_law_bag_here", "_law_rows"],Zsc,rfl,rfl,λ _ _ _ _ _ _=>bd2 (λ _ _=>rfl),.inl (by decide +kernel)⟩
def qz:DT af5 P "_law_rows_otherwise" DV.aa7 ae8:=⟨["_law_bag_here", "_law_rows", "_law_at", "_law_other", "_law_way", "_law_some"],["_law_bag_here", "_law_rows"],Zsc,rfl,rfl,λ _ _ _ _ _ _=>bd2 (λ _ _=>rfl),.inl (by decide +kernel)⟩
def am3:DT af5 P "_law_otherwise" DV.ac9 ag9:=⟨["_law_bag_here", "_law_text", "_law_k", "_law_way", "_law_at"],["_law_bag_here", "_law_text"],Zsc,rfl,rfl,λ _ _ _ _ _ _=>bd2 (λ _ _=>rfl),.inl (by decide +kernel)⟩
def aD8:DT af5 P "_law_short" DV.ah3 am0:=⟨["_law_bag_here", "_law_some", "_law_many", "_law_k"],["_law_bag_here"],Zsc,rfl,rfl,λ _ _ _ _ _ _=>bd1 (λ _=>rfl),.inl (by decide +kernel)⟩
def bp1:FnScope ["_law_script", "_law_k", "_law_bag_here", "_law_text", "_law_one"] ["_law_script"] (defScope aG5):=Zsc
def bP1:mSs ⟨["_law_script", "_law_k", "_law_bag_here", "_law_text", "_law_one"],defScope aG5,λ _ _ _=>false⟩ DV.ad8.body (zD aG5)=true:=by decide +kernel
def bH9:cj3 "law" aG5 ["_law_script"]:=λ _ _ _ _ _ _=>bd1 λ _=>rfl
def cb7:DT af5 P "law" DV.ad8 aG5:=⟨_,_,bp1,rfl,rfl,bH9,.inl bP1⟩
def az6:DTB af5 P "read_figure" DV.ac7.ps DV.ac7.vs (λ y S=>mX y DV.ac7.body S) ae2:=⟨["word"],["word"],Zsc,rfl,rfl,λ _ _ _ _ _ _=>bd1 (λ _=>rfl),.inl (by decide +kernel)⟩
def ay5:DTB af5 P "read_number" DV.ad3.ps DV.ad3.vs (λ y S=>mX y DV.ad3.body S) ae4:=⟨["row"],["row"],Zsc,rfl,rfl,λ _ _ _ _ _ _=>bd1 (λ _=>rfl),.inl (by decide +kernel)⟩
def as5:DTB af5 P "read_numbers" DV.ac2.ps DV.ac2.vs (λ y S=>mX y DV.ac2.body S) ae0:=⟨["row"],["row"],Zsc,rfl,rfl,λ _ _ _ _ _ _=>bd1 (λ _=>rfl),.inl (by decide +kernel)⟩
def aJ0:DTB af5 P "read_door" DV.ag5.ps DV.ag5.vs (λ y S=>mX y DV.ag5.body S) af3:=⟨["row"],["row"],Zsc,rfl,rfl,λ _ _ _ _ _ _=>bd1 (λ _=>rfl),.inl (by decide +kernel)⟩
def at2:DTB af5 P "read_machine" DV.aj6.ps DV.aj6.vs (λ y S=>mX y DV.aj6.body S) ad6:=⟨["text", "rows", "heads", "letters", "rooms", "doors", "machine"],["text"],Zsc,rfl,rfl,λ _ _ _ _ _ _=>bd1 (λ _=>rfl),.inl (by decide +kernel)⟩
def aH7:DTB af5 P "_law_kind" DV.an7.ps DV.an7.vs (λ y S=>mX y DV.an7.body S) ai0:=⟨["_law_e", "_law_kinds"],["_law_e"],Zsc,rfl,rfl,λ _ _ _ _ _ _=>bd1 (λ _=>rfl),.inl (bF9 ⟨_,_,_,_,_,_,_,_,_,_,_,_,_,_,_,_,_,_,_,_,_,_,_,_,_,_,_,_,_,_,_,_,_,_,_,_,_,_,_,_,_,_,_,_,_,_,_,_,rfl,rfl,by decide +kernel⟩)⟩
def as6:DTB af5 P "_law_outcome" DV.ac8.ps DV.ac8.vs (λ y S=>mT y DV.ac8 S) ag3:=⟨["_law_text", "_law_found", "_law_e"],["_law_text"],Zsc,rfl,rfl,λ _ _ _ _ _ _=>bd1 (λ _=>rfl),.inl (by decide +kernel)⟩
def fmc {α:Type}{P:α->Prop}{a}{l}(h:P a)(t:∀ x∈l,P x):∀ x∈a::l,P x:=List.forall_mem_cons.mpr ⟨h,t⟩
def fmn {α:Type}{P:α->Prop}:∀ x∈([]),P x:=λ _ h=>nomatch h
def cb9:∀ p∈tb,DT af5 P p.1 p.2.1 p.2.2:=by
 unfold tb;exact fmc aS3 (fmc aw6 (fmc be5 (fmc aK6 (fmc aj2 (fmc bf7 (fmc aH8 (fmc aB9 (fmc as7 (fmc ax3 (fmc as8 (fmc ay1 (fmc aG7 (fmc aU3 (fmc aI9 (fmc aG0 (fmc as9 (fmc at0 (fmc aD0 (fmc am2 (fmc as1 (fmc ak6 (fmc aH9 (fmc aR8 (fmc qw (fmc qz (fmc am3 (fmc aD8 (fmc cb7 fmn))))))))))))))))))))))))))))
def bH0 {l:dv}{mg:yD}(X:K.In h)(G:h.Ns aZ mg)(d3:mg "law"=some (.ref fa))(hD:∀ p∈tb,bX3 K p.1 p.2.2)(hz:∀ x∈bNames,bQ K aZ x=some none)
  {b6:yJ} {b5:yF} (gc_LETTERS:bQ K aZ "LETTERS"=some (some (.ref y))) (gl_LETTERS:K.lookup y=some ⟨.type "tuple",b6,.seq #[.str ⟨#[97]⟩ a5,.str ⟨#[98]⟩ b0,.str ⟨#[99]⟩ a1] c2,b5⟩)
  {Y:Tok} (gc_MOST_ROOMS:bQ K aZ "MOST_ROOMS"=some (some (.int (5) Y)))
  {J:Tok} (gc_MOST_DOORS:bQ K aZ "MOST_DOORS"=some (some (.int (75) J)))
  {Z:Tok} (gc_MOST_TOLL:bQ K aZ "MOST_TOLL"=some (some (.int (3) Z)))
  {z:Addr} {b4:yJ} {c4:Nat} {b9:yF} {a2 b2 a6 a7 a9 a8 b3 a3 b1 a4:Tok} (gc_FIGURES:bQ K aZ "FIGURES"=some (some (.ref z))) (gl_FIGURES:K.lookup z=some ⟨.type "tuple",b4,.seq #[.str ⟨#[48]⟩ a2,.str ⟨#[49]⟩ b2,.str ⟨#[50]⟩ a6,.str ⟨#[51]⟩ a7,.str ⟨#[52]⟩ a9,.str ⟨#[53]⟩ a8,.str ⟨#[54]⟩ b3,.str ⟨#[55]⟩ a3,.str ⟨#[56]⟩ b1,.str ⟨#[57]⟩ a4] c4,b9⟩)
  {a0:Addr} {d0:yJ} {d2:Nat} {d1:yF} {c6 c3 c0 c1:Tok} (gc_HEADS:bQ K aZ "HEADS"=some (some (.ref a0))) (gl_HEADS:K.lookup a0=some ⟨.type "tuple",d0,.seq #[.str ⟨#[108,101,116,116,101,114,115]⟩ c6,.str ⟨#[114,111,111,109,115]⟩ c3,.str ⟨#[98,101,103,105,110]⟩ c0,.str ⟨#[101,110,100]⟩ c1] d2,d1⟩)
  (hT:∀ x∈af5,(bB K x).isSome=true) (tnd:decide (((bv0 af5 K).map (·.1)).Nodup)=true) (hDx:∀ p∈dl,bX3 K p.1 p.2) (hcl:bx1 K xcs xts=true)
  : ∃ fd:bW,(∀(s:af) (v:Value),kY s fd ⟨[v],[]⟩ [("_law_script",v)])/\∀ base:Heap,K.In base->base.Ns aZ mg->BM mg base->bA5 K af5 base->FnOk l.prog w K mg base CX0 46 fa fd ["_law_script"] (spB af5 K):=by
 have hP:PrOk (bz3 af5 P K) (bG4 af5 K) P mg w:=by
  refine⟨λ f d h=>aL9 (tbl:=tbl) (λ p hp=>?_) f d h,λ x d h=>aY7 (tbl:=cc4) ?_ x d h,λ x hx=>jM X G (hz x hx),cd5 X G,trivial,of_decide_eq_true tnd,aI8 (tbl:=xtb) (λ p hp=>?_),aI8 (tbl:=ttb) (λ p hp=>?_),(ap3 X G hcl).1,(ap3 X G hcl).2.1,(ap3 X G hcl).2.2.1,(ap3 X G hcl).2.2.2.1,(ap3 X G hcl).2.2.2.2.1,(ap3 X G hcl).2.2.2.2.2.1,(ap3 X G hcl).2.2.2.2.2.2,λ _ _ h=>(by cases h)⟩
  .obtain⟨r,hr,rfl⟩:=aN.mp hp;exact good_of X G hT (hD r hr) (cb9 r hr)
  .unfold cc4;refine fmc ?_ (fmc ?_ (fmc ?_ (fmc ?_ (fmc ?_ (fmc ?_ fmn)))))
   .exact aG6 (bL X G gc_LETTERS) gl_LETTERS rfl rfl (show 3<=1000 by decide) (.cons (.str _ _ (by decide)) (.cons (.str _ _ (by decide)) (.cons (.str _ _ (by decide)) (.nil))))
   .exact aH0 (bL X G gc_MOST_ROOMS)
   .exact aH0 (bL X G gc_MOST_DOORS)
   .exact aH0 (bL X G gc_MOST_TOLL)
   .exact aG6 (bL X G gc_FIGURES) gl_FIGURES rfl rfl (show 10<=1000 by decide) (.cons (.str _ _ (by decide)) (.cons (.str _ _ (by decide)) (.cons (.str _ _ (by decide)) (.cons (.str _ _ (by decide)) (.cons (.str _ _ (by decide)) (.cons (.str _ _ (by decide)) (.cons (.str _ _ (by decide)) (.cons (.str _ _ (by decide)) (.cons (.str _ _ (by decide)) (.cons (.str _ _ (by decide)) (.nil)))))))))))
   .exact aG6 (bL X G gc_HEADS) gl_HEADS rfl rfl (show 4<=1000 by decide) (.cons (.str _ _ (by decide)) (.cons (.str _ _ (by decide)) (.cons (.str _ _ (by decide)) (.cons (.str _ _ (by decide)) (.nil)))))
  .revert p hp;unfold xtb;exact fmc (af8 X G hT (hDx ("read_figure",ae2) (aG (i:=0) rfl)) az6) (fmc (af8 X G hT (hDx ("read_number",ae4) (aG (i:=1) rfl)) ay5) (fmc (af8 X G hT (hDx ("read_numbers",ae0) (aG (i:=2) rfl)) as5) (fmc (af8 X G hT (hDx ("read_door",af3) (aG (i:=3) rfl)) aJ0) (fmc (af8 X G hT (hDx ("read_machine",ad6) (aG (i:=4) rfl)) at2) (fmc (af8 X G hT (hDx ("_law_kind",ai0) (aG (i:=5) rfl)) aH7) fmn)))))
  .revert p hp;unfold ttb;exact fmc (af8 X G hT (hDx ("_law_outcome",ag3) (aG (i:=6) rfl)) as6) fmn
 obtain⟨f,od,an,sl,oc,kV,dc,pm,cd,ct,a,l0,c,k⟩:=hD ("law",DV.ad8,aG5) (aG (i:=28) rfl);have e:=d3.symm.trans (bL X G a);cases e;have F:=bs5 (st:=aG5) l0 c k;refine⟨_,λ s v=>.of_eq rfl,λ base _ _ bm hk=>(bO2 hP (bq0 hT bm hk) 14 (bx4 hP (bq0 hT bm hk) 14) (d:=DV.ad8) (f := "law") rfl ⟨F,bL X G a,F.binds bH9⟩ bp1 rfl rfl bP1 ba2).imp (λ vs H Q E q=>bL3 (λ ns h=>DV.cb0 (P:=P) 7 ns h) vs H Q E (bk6 hT q))⟩
end My
end
end
end
end Internal
open Internal
open PySem PySem.W PyProof.Rows
set_option maxRecDepth 100000 in
set_option maxHeartbeats 0 in
theorem PySem.Challenge.cw_leasttolls_k68_texts_of_no_machine_holds : PySem.Challenge.rw_leasttolls_k68_texts_of_no_machine.Holds := by
 refine My.GT0.2.2.2 My.left2 My.left5 ?_
 delta My.GT0
 dsimp only
 k_fill
 refine L2.aX2 (l:=PySem.Challenge.rw_leasttolls_k68_texts_of_no_machine) (n:=63) (k:=46) (x := "_law_script") (sp:=L2.spB My.af5) My.af5 rfl (by decide) rfl ⟨rfl,by decide,by decide⟩ (ts:=[]) (λ w h Y=>⟨PySem.W.kIn_of Y,λ _ hP=>absurd hP (aR)⟩) (λ w=>?R) (λ w=>?NT) ?F (λ K H a ns hl hB hS hF=>L2.bG5 hl hB hS hF)
 case R=>kernel_rfl
 case NT=>kernel_rfl
 case F =>
  intro w mg fa h KX G hmg
  refine' My.bH0 KX G hmg ?hD ?hz ?gc_LETTERS ?gl_LETTERS ?gc_MOST_ROOMS ?gc_MOST_DOORS ?gc_MOST_TOLL ?gc_FIGURES ?gl_FIGURES ?gc_HEADS ?gl_HEADS ?hT ?tnd ?hDx ?hcl
  case hD=>unfold My.tb;repeat' first|exact My.fmn|refine My.fmc ?_ ?_|(dsimp only;exact ⟨_,_,_,_,_,_,_,_,_,_,by k_is,by k_is,by k_is,by k_is⟩)
  case hz=>unfold L2.bNames;repeat' first|exact My.fmn|refine My.fmc ?_ ?_|k_is
  (case gc_LETTERS=>k_is)
  (case gl_LETTERS=>k_is)
  (case gc_MOST_ROOMS=>k_is)
  (case gc_MOST_DOORS=>k_is)
  (case gc_MOST_TOLL=>k_is)
  (case gc_FIGURES=>k_is)
  (case gl_FIGURES=>k_is)
  (case gc_HEADS=>k_is)
  (case gl_HEADS=>k_is)
  case hT =>
   intro x hx;cases hx
  (case tnd=>kernel_rfl)
  case hDx=>unfold My.dl;repeat' first|exact My.fmn|refine My.fmc ?_ ?_|(dsimp only;exact ⟨_,_,_,_,_,_,_,_,_,_,by k_is,by k_is,by k_is,by k_is⟩)
  (case hcl=>kernel_rfl)
