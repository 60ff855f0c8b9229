import PyProof.Rows.All
import OpenK.KLine
import OpenK.KQuick
import OpenK.KMake
import OpenK.KDescr
import OpenK.KMore
import OpenK.KCls
import OpenK.KGet
import OpenK.KCell
import OpenK.KCall
import OpenK.KWalk
import OpenK.KFacts
import KE.KLam
import KE.KNest
import KE.KNestM
import KE.KItem
import KE.KFromBytes
import KE.KIsAll
import KE.KMinBuiltin
import KE.KxBytes
import KE.KTops
import KE.KTabLook
import Wide.FinOn
import Wide.BytesRules
import Wide.ObjOpen
import Wide.Head
import Wide.Well
import PyProof.EqAt
import PyProof.EqKinds
import PyProof.TupleCall
import PyProof.MinMaxWalk
import PyProof.WalkInts
import PyProof.NeKinds
import PyProof.SliceStr2
import PyProof.StrBlockI
import PyProof.MaxThree
import PyProof.ZipIter
import PyProof.Draws
import PyProof.EnumMake
import PyProof.ListMulRoad
import PyProof.Rows.StrRev
import PyProof.DictItems
import PyProof.ListRange
import PyProof.AutoIntG2
import PyProof.FactsAll.int_6
import KE.KMinKey
import PyProof.Rows.TupDisplay
import PyProof.Rows.CatchBare
import KE.KTryMore
import PyProof.RulesAs
import PyProof.StrOps
import KE.IntBitsLaws
import KE.KIntText
import PyProof.CallStr
import PyProof.StrBlockL
import PyProof.StrLawsChain
import PyProof.StrLawsTight
import PyProof.Rows.StrItems
import PySem.Challenge.RW_leasttolls_k43_whole_unrolled_words_are
set_option bootstrap.genMatcherCode false
set_option genSizeOf false
set_option tactic.hygienic false
set_option genInjectivity false
set_option genCtorIdx false
set_option compiler.extract_closed false
set_option Elab.async false
set_option linter.all false
set_option maxRecDepth 100000
set_option maxHeartbeats 4000000
def wl{P:Prop}(h:∀ G:Prop,(P->G)->G):P:=h P id
open List renaming getElem?_eq_some_iff->ab,getElem?_eq_getElem->ac,range->ae,getElem?_append_right->ag,replicate->ak,getElem?_map->ao,length_map->ar,mem_map->au,getElem?_append_left->ax,getD_eq_getElem?_getD->ay,size_toArray->aA,mem_cons_of_mem->aB,mem_of_getElem?->aC,mem_cons_self->aH,map_cons->aJ,mem_cons->aL,length_append->aN,map->aO,length_cons->aQ,all_eq_true->aU,mem_range->aX,getElem?_range->aY,lookup_cons->aZ,getElem?_set_self->a7,getElem?_eq_none->bn,mem_map_of_mem->bo,getElem?_set_ne->bq,length_take->br,append_nil->bu,mem_singleton->bv,mem_append_right->bw,filterMap_cons->bA,set_append_right->bD,length_set->bE,mem_append->bN,map_append->bO,take_length->bP,replicate_succ->bQ,map_congr_left->b9,append_assoc->cb,length_range->cc,foldl_cons->cq,length_eq_zero_iff->cy,all_cons->cA,take_of_length_le->cB,range_succ->cE,mem_filterMap->cI,not_mem_nil->cK,take_append_of_le_length->cN,cons_append->cU,length_singleton->c5,getElem?_toArray->c6,length_nil->c9,all_append->da,flatten_cons->db,map_nil->dg,mem_iff_getElem->dh,foldl_append->dk,getElem?_take_of_lt->dq,map_map->dC,nodup_cons->dE,nil_append->dF,find?_cons->dI,of_mem_zip->eh,filterMap_map->eD,range_succ_eq_map->eV,ext_getElem?->eW,take_append_drop->eY,length_drop->fc,getElem?_of_mem->fj,all_nil->fC,set_set->fD,drop_zero->fT,drop_eq_getElem_cons->fX,mem_or_eq_of_mem_set->fY,length_filterMap_le->gu,any_cons->gv,getElem?_replicate->gz,getElem_mem->gG,getElem?_cons_succ->gH,drop_eq_nil_of_le->hG,mem_filter->hV,mem_append_left->ir,length->iB,forIn_nil->iE,filterMap->iG,mem_of_mem_take->iK,take_take->iP,length_pos_iff->i6,any_eq_true->k7,take_append->la,forIn_cons->li,set_append->lp,foldl->lG,take_zero->lN,sum_cons->lX,lookup->mB
open PySem.W renaming Frag->af,tabIn->a8,openEnds->be,openSeen->bF,mg_of->bK,nsIn->bR,kla_fn->bU,CodeHd->bV,kia_one->cj,keepIn->cM,fnX->cT,kitOne->cY,fnOf->dz,envX->dA,OpenLaw->dD,recOk->dJ,xlAt->dY,tabObj->eT,fencedOpening->eX,codeIn->fN,cellsFrom_some->gO,lookIn->iA,kitx_tuple->kt,callWith_K->ku,kitx_list->kK,wideGood->kT,clsGoodW->kU,plainGet->kX,codeHdIn->k8,instObj->lf,looseW->lx,findIn->lB,TabsAt->lL,noTabs->lM,LeftO->lQ,WalkO->lR
open PySem renaming Shared->ah,wpAny_bind->al,mem_of_lookup->aE,wpAny_pure->aF,Program->aK,cellsFrom->aP,sizeLine->aR,mainGlobals->aV,Around->aW,Arguments->a9,bootBuiltins->bf,starEach->bh,FuncData->bH,wpAny_truthy_bool->bI,wpAny_newObj_type->bJ,importedModules->bM,NameKind->bT,wpAny_mono->cr,wpAny_callSpecial?_slot->cw,treeTable->cC,wpAny_field->cD,binaryOp->cF,wpAny_call_entry->cG,compareOp->cH,wpAny_Call_Name_kw->cJ,rawInt->cL,wpAny_loadPart'->cQ,assignEach->cX,wpAny_passesOwn->c8,behindInMarks->dm,codeAmong->dv,wpAny_setField_rec->dB,pushCells_keeps->dG,wpAny_holding->dL,wpAny_pyIter_list->dQ,foldedSetIterable->dS,argBest->d4,builtinsNs->eA,isTrue->eC,sliceBounds->eJ,backTo->eN,bindArgs->eO,wpAny_seqItems->eQ,wpAny_tryCatch->eR,pushCells->fe,relabel->fg,Paired->fm,letOwnedTupleGo->fq,codeAny_mono->fy,storeName->fF,swapsWith->fG,sysModules->fJ,newFunctionEnv->fQ,wpAny_binaryOp_repeat_ref->fW,sizeLine_eq->f6,codeAny->f7,InCallC->f8,wpAny_letGo->gf,IsPart->gj,attributeBase->gk,wpAny_comprehension_free->gm,plainId_quiet->gq,noFill_tuple_add->gA,assign->gN,name_of_addr->gP,getItem->gQ,wpAny_typeOf->gR,typeIs_int->gU,codeAny_compStart_list->gZ,wpAny_rule->g6,wpAny_execs_nil->hZ,codeAny_builtin->ia,wpAny_updateSeq->ib,wpAny_storeName_local->ig,wpAny_isTrue_Compare1->ii,codeAny_call_function->ik,wpAny_storeName_cell->iu,wpAny_loadName_local->iy,pyNext->iz,strIterType->iH,IsEnum->iI,callerA->iR,seqItems?->iT,TriplesOk->iU,valueAt->iV,wpAny_loadName_cell->i0,wpAny_standAt->kb,swappedStores->ke,seq_tuple_add->kg,annotationsOf->kj,wpAny_pyIter_tuple->kr,call_meets->kz,holding->kH,wpAny_assign_Name->kJ,concat_meets->kL,wpAny_sequenceKey->kM,seqIndex_neg->kN,slot_list_getitem->kO,notedBy->kQ,wpAny_pyIter_enum->kR,pyIter->kW,seqSlot_of->k9,seqIndex_of->lb,BindsTo->ls,Keyword->lu,call->lw,IsTupleKey->ly,wpAny_Name->lz,Operator->lA,Result->lC,wpAny_call->lD,typeIs_str->lE,PlainAttrs->lF,defaultsOf->lI,qualnameIn->lJ,KeyKind->lT,lastMarks->lZ,IsEnumOut->l6,Builtin->l9
open Nat renaming le_refl->ai,le_trans->am,lt_of_lt_of_le->av,ne_of_lt->aD,lt_irrefl->bj,zero_add->bB,add_sub_cancel_left->bS,pow_le_pow_right->cz,strongRecOn->cR,ne_of_gt->cS,lt_succ_self->cW,lt_trans->di,sub_self->dj,zero_le->dW,le_succ->dX,le_of_lt->dZ,mul_add->eK,mul_le_mul->fU,le_of_succ_le->f9,lt_succ_of_lt->ga,lt_trichotomy->gh,mul_assoc->gx,min_le_right->gB,min_eq_right->gK,le_mul_of_pos_right->gM,add_comm->gY,mod_lt->hU,not_lt_zero->ic,min_eq_left->ie,mul_pos->iO,mul_le_mul_left->i9,mul_comm->kP,lt_or_ge->kS,le_of_not_lt->k6,div_add_mod->lr,succ_mul->l8,add_zero->mr,sub_zero->mw
open PySem.Heap renaming get?_push_of_some->aj,lt_size->aI,get?_push_size->aM,get?_update_other->b7,size_push->cf,SameBut->ci,get?_update_self->dN,ExtBut->lc
open Option.some renaming inj->aq
open Bool renaming and_eq_true->aw,false_eq_true->aG,false_ne_true->aS,or_eq_true->bW,and_true->du,true_and->dM,eq_iff_iff->et,not_eq_true'->eM,or_eq_false_iff->fi,and_eq_true_iff->iq,not_false->iQ,not_true->ki,false_or->lV
open Option renaming map_some->az,map_eq_some_iff->bL,isSome_iff_exists->d8,isSome_some->fR,bind_eq_some_iff->gy,bind_some->gJ,isSome_none->kB,getD_none->kZ
open Int renaming le_trans->bp,le_refl->cx,toNat_natCast->cO,mul_le_mul_of_nonneg_left->dw,natCast_mul->dH,fdiv_eq_ediv_of_nonneg->fL,zero_add->hJ,mul_le_mul->iL,mul_nonneg->iM,toNat_of_nonneg->i8,emod_lt_of_pos->kF,lt_of_le_of_lt->kG,le_antisymm->lj,emod_nonneg->lq,sub_zero->mn,le_total->mq,le_of_lt->my
open PyProof.Rows renaming slot_tuple_getitem->bz,callWith_type1->dR,kindOf->eZ,envOfC->fM,AllBare->fZ,subscriptTail_builtinR->gS,entry_tuple_getitem->i3,Constant_none->ka,tupleItemsOf_->kh,args_tuple_getitem->kx,IntsAre->lv
open PySem.Builtin.Str renaming strSliceIndices->bC,tooLong->lP
open False renaming elim->bG
open PySem.Str renaming ofString->bX
open PySem.W.OpenRow renaming toRowW->bZ
open PySem.Builtin.SmallTypes renaming nextOf->b8,ownedTupleHandOut->d6,ownedTupleIsFree->ef
open Ne renaming symm->cg
open PySem.W.RowW renaming records->cu
open PySem.F renaming plain_min_loop->cV,slot_tuple_iterator_next->cZ,slot_enumerate_next->dP,slot_NoneType_hash->dT,args_tuple_add_2->d9,slot_int_rmul->eF,entry_tuple_add->eG,slot_tuple_add->eP,slot_tuple_mul->eU,args_tuple_iterator_next_1->fv,entry_tuple_iterator_next->fB,entry_min_loop->gC,args_enumerate_next_1->gD,slot_tuple_rmul->gE,plainAttrs_list->gI,entry_enumerate_next->g7,typeCall_enumerate_1->g8,slot_list_append->im,newCall_enumerate_1->io,entry_enumerate_new->ip,args_int_rmul_2->iD,args_object_init_2->iJ,slot_int_index->i4,entry_int_rmul->i5,fills_int_mul->kA,called_enumerate->kD
open PySem.Builtin.Slice renaming slicePlaces->c7,sliceAdjust->d5,sliceApplied->fO,slicePartIndex->lh,sliceFields->lO
open PySem.Builtin.Tuple renaming tupleExact->dr,tupleItemsOf->dU,tupleTooMany->fS,tupleIsExact->lK
open Array renaming toList_append->d7,length_toList->fx,append_assoc->kq,toList->kI
open PySem.Builtin.List renaming listTooLong->ee
open PySem.Around renaming under_plainId->fh,frames_deeper->iC
open PySem.SeqAt.EqAt renaming same->fk,none_int->iW,none_str->iX,int_none->iY,str_none->iZ,int_str->kn,str_int->ko,of_refs->kE
open PySem.Txt renaming slice->fu
open List.cons renaming injEq->fw
open PySem.Builtin.Builtins renaming bindParams->fA
open Prod renaming ext->fI
open PySem.Calls renaming Name_function_global->fK,callWith_builtin->gX
open PySem.W.OpenLaw renaming wellSaid->gi
open Classical renaming propDecidable->gF
open PySem.Obj renaming mapSeq->gT,data_mapFields->kC
open PySem.SeqAt renaming EqAt->g9,RcNeAt->mf,RcAt->mJ
open PySem.Heap.SameBut renaming update->i7
open Function renaming comp->km
open PyProof.Rows.IsTup renaming new->kY
open PySem.PassesOwn renaming never->ln
open PySem.Walks renaming list->lH
open PySem.Value renaming isStrOf->lS,isInt->mz
open PySem.Paired renaming length->lU,snoc->mF
open PySem.CmpOf renaming ints_lt->lW
open PySem.Builtin.Range renaming rangeSize->lY
open PySem.StrLaws renaming found_one->l7
open PySem.Heap.Ns renaming new->mD
open List.Pairwise renaming filter->mG
open PySem.Heap.IsSliceOf renaming new->mH
abbrev yA:=List (PySem.Addr×PySem.Obj)
abbrev yB:=List (PySem.Str×PySem.Addr)
abbrev yC:=PySem.Str->Option PySem.Value
abbrev yD:=List (Option Nat)
abbrev yE:=Array (Option PySem.Value)
abbrev yF:=List (PySem.Addr×PySem.Addr)
abbrev yG:=List PySem.Value
abbrev yH:=List PySem.Str
abbrev yI:=Option PySem.Addr
abbrev yJ:=Array PySem.Value
abbrev yK:=List PySem.Expr
abbrev yL:=List PySem.Stmt
def Zq0 (_:True:=by first|exact .inl rfl|exact .inr rfl|assumption):=trivial
def Zq1 (_:True:=by decide):=trivial
def Zq2 (_:True:=by first|exact aW7 _ (by decide) (by decide)|rfl):=trivial
def Zq3 (_:True:=by intro _;rfl):=trivial
def Zq4 (_:True:=by rfl):=trivial
def Zq5 (_:True:=by with_unfolding_all rfl):=trivial
def Zq6 (_:True:=by first|exact Or.inl rfl|exact Or.inr (Or.inl rfl)|exact Or.inr (Or.inr rfl)):=trivial
def Zq7 (_:True:=by first|exact .inl rfl|exact .inr rfl):=trivial
def Zq8 (_:True:=by decide +kernel):=trivial
open Option renaming some->aT,none->bY
open Bool renaming true->cn,false->dt
abbrev dO:=@of_decide_eq_true
abbrev gc:=@if_pos
abbrev gn:=@if_neg
abbrev gW:=@decide_eq_true
abbrev ij:=@decide_eq_false
abbrev iF:=@absurd
abbrev iN:=@decide_eq_true_eq
namespace Internal
noncomputable section
namespace L2
open PySem PySem.Spec PyProof.Rows
def head_of {l:dD}{q:aK}{loose:yH}{H:PySem.W.Hook}{N:Nat}{d:DefRec}{h:List (Str×Expr)}
  (left:lQ l.row.prog q loose (λ s=>dY q [] s&&dJ (cu (bZ l.row)) s) H.obs H.val N)
  (y:PySem.W.defOf q l.row.name=aT (d,h)) (J:l.row.prog.theDef l.row.name=aT (d.params,d.body,d.scope)) (hk:PySem.W.kwWritten? d.params.kwonlyargs d.params.kw_defaults=aT h) (G:(!l.row.writes||l.row.records.isEmpty)=cn)
  (k1:l.row.wellSaid=cn) (ok:(PySem.W.chainsOk q&&PySem.W.opensWell l.row.prog&&(PySem.W.frees l.row.toRowW&&l.row.within.isEmpty))=cn) (hb:l.row.prog.bare) (hw:l.row.toRowW.promised)
  (call:lR q loose (PySem.W.XL q []) H.says l.row.toRowW d h λ f vs=>lw f vs):l.row.Holds :=
 PySem.W.holds_open left H.of H.keeps (λ s e=>PySem.W.xl_of s (iq.mp e).1) PySem.W.XL.keeps y J hk (λ s e=>PySem.W.recFacts_of (iq.mp e).2) G k1 ok hb hw call
noncomputable def cs7 (s : ah) : (Option Str × List (Str × Value)) × Bool := (s.heap.bltView, s.heap.life.registered.isEmpty && !s.heap.life.counting && (s.heap.get? eA).isSome && !decide (s.heap.nsMap aV "__annotations__" = aT (.ref eA)))
def cc6 (h:be cC p w N=aT s)(o:(eX cC p w N).map cs7=aT (B,cn)):s.heap.bltView=B:=by
 rw[<-table_eq_tree]at h o;unfold be at h;obtain⟨s0,Z,h⟩:=gy.mp h;rw[Z]at o;obtain⟨Y,G⟩:=Prod.mk.inj (aq o);simp only[aw,eM,decide_eq_false_iff_not,List.isEmpty_iff]at G;obtain⟨⟨⟨a1,J⟩,a3⟩,a4⟩:=G;unfold PySem.W.topFrom at h;split at h
 case h_2=>cases h
 obtain⟨s1,e1,h⟩:=gy.mp h;split at h
 case h_2=>cases h
 cases h;obtain⟨ob,y⟩:=d8.mp a3;have fr:=(PySem.W.topRun_spec _ _ _ _ ⟨a1,J⟩ e1).2.2.2 eA ob (aI y) (by decide) (by decide) a4 y;rw[<-Y];unfold Heap.bltView Heap.nsPairs;rw[fr,y]
theorem left_goA {loose:yH}{Ya:World->α}
  (h0:∀ w:World,(be cC p w N).map (λ s=>(bF q loose (bM p.main.body) h cn s).1)=aT (expectedOf q))
  (hb:∀ w:World,(eX cC p w N).map cs7=aT (bltViewBooted,cn))
  (y:∀ w:World,(be cC p w N).map (λ s=>(bF q loose (bM p.main.body) h cn s).2.2.1)=aT cn)
  (G:∀ w:World,(be cC p w N).map (λ s=>(bF q loose (bM p.main.body) h cn s).2.2.2.1)=aT cn)
  (Y:∀ w:World,(be cC p w N).map (λ s=>(bF q loose (bM p.main.body) h cn s).2.2.2.2.1)=aT (pinGoodD (drecsOf q)))
  (Z:∀ w:World,(be cC p w N).map (λ s=>(bF q loose (bM p.main.body) h cn s).2.2.2.2.2.1)=aT (plainGoodE q (lx q loose)))
  (h3:∀ w:World,(be cC p w N).map (λ s=>(bF q loose (bM p.main.body) h cn s).2.2.2.2.2.2)=aT (plainGoodD q loose,kT q,kU q loose))
  (J:∀ w:World,(be cC p w N).map Yf=aT (Ya w)):lQ p q loose h Yf Ya N:=λ w=>by
 obtain⟨s,a,b⟩:=bL.mp (h0 w);have bl:=cc6 a (hb w);have y:=y w;have G:=G w;have h3:=h3 w;have J:=J w;have Y:=Y w;have Z:=Z w;rw[a]at y G h3 J Y Z;rw[a];exact congrArg aT (fI (fI b (fI bl (fI (aq y) (fI (aq G) (fI (aq Y) (fI (aq Z) (aq h3))))))) (aq J))
end L2
end
noncomputable section
namespace My
open PySem PySem.Spec PyProof.Rows L2
noncomputable def nmS:Stmt->Bool
 | .Assign [.Name x _] _ _=>decide (x=("__name__"))
 | _=>dt
def vq:aK:={ PySem.Challenge.pw_leasttolls_k43_whole_unrolled_words_are with main:={ (PySem.Challenge.pw_leasttolls_k43_whole_unrolled_words_are).main with body:=(PySem.Challenge.pw_leasttolls_k43_whole_unrolled_words_are).main.body.filter λ s=>!nmS s } }
set_option maxRecDepth 100000 in
set_option maxHeartbeats 0 in
theorem left0:∀ w:World,(be cC PySem.Challenge.rw_leasttolls_k43_whole_unrolled_words_are.row.prog w 6000).map (λ s=>(bF vq ["NoMaking"] (bM PySem.Challenge.rw_leasttolls_k43_whole_unrolled_words_are.row.prog.main.body) (λ s=>dY vq [] s&&dJ (cu (bZ PySem.Challenge.rw_leasttolls_k43_whole_unrolled_words_are.row)) s) cn s).1)=aT (expectedOf vq):=λ w=>by kernel_rfl
set_option maxRecDepth 100000 in
set_option maxHeartbeats 0 in
theorem leftB:∀ w:World,(eX cC PySem.Challenge.rw_leasttolls_k43_whole_unrolled_words_are.row.prog w 6000).map cs7=aT (bltViewBooted,cn):=λ w=>by kernel_rfl
set_option maxRecDepth 100000 in
set_option maxHeartbeats 0 in
theorem left1:∀ w:World,(be cC PySem.Challenge.rw_leasttolls_k43_whole_unrolled_words_are.row.prog w 6000).map (λ s=>(bF vq ["NoMaking"] (bM PySem.Challenge.rw_leasttolls_k43_whole_unrolled_words_are.row.prog.main.body) (λ s=>dY vq [] s&&dJ (cu (bZ PySem.Challenge.rw_leasttolls_k43_whole_unrolled_words_are.row)) s) cn s).2.2.1)=aT true:=λ w=>by kernel_rfl
set_option maxRecDepth 100000 in
set_option maxHeartbeats 0 in
theorem left3:∀ w:World,(be cC PySem.Challenge.rw_leasttolls_k43_whole_unrolled_words_are.row.prog w 6000).map (λ s=>(bF vq ["NoMaking"] (bM PySem.Challenge.rw_leasttolls_k43_whole_unrolled_words_are.row.prog.main.body) (λ s=>dY vq [] s&&dJ (cu (bZ PySem.Challenge.rw_leasttolls_k43_whole_unrolled_words_are.row)) s) cn s).2.2.2.1)=aT true:=λ w=>by kernel_rfl
set_option maxRecDepth 100000 in
set_option maxHeartbeats 0 in
theorem left4:∀ w:World,(be cC PySem.Challenge.rw_leasttolls_k43_whole_unrolled_words_are.row.prog w 6000).map (λ s=>(bF vq ["NoMaking"] (bM PySem.Challenge.rw_leasttolls_k43_whole_unrolled_words_are.row.prog.main.body) (λ s=>dY vq [] s&&dJ (cu (bZ PySem.Challenge.rw_leasttolls_k43_whole_unrolled_words_are.row)) s) cn s).2.2.2.2.1)=aT (pinGoodD (drecsOf vq)):=λ w=>by kernel_rfl
set_option maxRecDepth 100000 in
set_option maxHeartbeats 0 in
theorem left5:∀ w:World,(be cC PySem.Challenge.rw_leasttolls_k43_whole_unrolled_words_are.row.prog w 6000).map (λ s=>(bF vq ["NoMaking"] (bM PySem.Challenge.rw_leasttolls_k43_whole_unrolled_words_are.row.prog.main.body) (λ s=>dY vq [] s&&dJ (cu (bZ PySem.Challenge.rw_leasttolls_k43_whole_unrolled_words_are.row)) s) cn s).2.2.2.2.2.1)=aT (plainGoodE vq (lx vq ["NoMaking"])):=λ w=>by kernel_rfl
set_option maxRecDepth 100000 in
set_option maxHeartbeats 0 in
theorem left6:∀ w:World,(be cC PySem.Challenge.rw_leasttolls_k43_whole_unrolled_words_are.row.prog w 6000).map (λ s=>(bF vq ["NoMaking"] (bM PySem.Challenge.rw_leasttolls_k43_whole_unrolled_words_are.row.prog.main.body) (λ s=>dY vq [] s&&dJ (cu (bZ PySem.Challenge.rw_leasttolls_k43_whole_unrolled_words_are.row)) s) cn s).2.2.2.2.2.2)=aT (plainGoodD vq ["NoMaking"],kT vq,kU vq ["NoMaking"]):=λ w=>by kernel_rfl
inductive IsL:dD->Prop|mk:IsL PySem.Challenge.rw_leasttolls_k43_whole_unrolled_words_are
def bY8 (h:IsL l):PySem.Challenge.rw_leasttolls_k43_whole_unrolled_words_are=l:=by cases h;rfl
noncomputable def lwp:{ l:dD // IsL l }:=by
 refine⟨?p,?h⟩
 case h =>
  have e:PySem.Challenge.rw_leasttolls_k43_whole_unrolled_words_are=?p:=by
   conv=>lhs;reduce
  exact e▸IsL.mk
def ws1:gi lwp.1=true:=by k_qdec
def ws:gi PySem.Challenge.rw_leasttolls_k43_whole_unrolled_words_are=true:=by
 rw[bY8 lwp.2];exact ws1
end My
end
section
open PySem PySem.W PyProof.Rows
set_option hygiene false in
local macro_rules | `(tactic| o_head $H) => `(tactic| (refine L2.head_of (q := My.vq) (loose := ["NoMaking"]) (H := $H) (N := 6000) (L2.left_goA My.left0 My.leftB My.left1 My.left3 My.left4 My.left5 My.left6 ?my2) (by rfl) (by rfl) (by rfl) rfl (by assumption) (by decide +kernel) ⟨rfl, rfl, rfl, rfl, rfl, by decide +kernel⟩ ?_ ?_; (case my2 => exact myl2)))
set_option maxRecDepth 100000 in
set_option maxHeartbeats 0 in
noncomputable def My.GT0:(L2:Prop) ×' { G:Prop // L2->G->PySem.Challenge.rw_leasttolls_k43_whole_unrolled_words_are.Holds }:=by
 refine⟨?L2,?G,?h⟩
 case h =>
  intro myl2 g
  w_on;refine holds_law My.ws λ said=>?_;k_head;(focus w_witness2)
  exact g
set_option maxRecDepth 100000 in
set_option maxHeartbeats 0 in
theorem My.left2:My.GT0.1:=λ w=>by kernel_rfl
end
noncomputable section
namespace L2
open PySem PySem.Spec PyProof.Rows
abbrev Key:=Sum Int Str
noncomputable def aP1:Key->Value->Bool
 | .inl k,v=>mz k v
 | .inr x,v=>lS x v
noncomputable def cz5 (w:World):Key->Int
 | .inl k=>hashInt k
 | .inr x=>hashStr w x
def zO:∀ {k} {v},aP1 k v=cn->(∃ i t,k=Sum.inl i/\v=Value.int i t)\/(∃ x t,k=Sum.inr x/\v=Value.str x t)
 | .inl i,v,h=>by
  obtain⟨t,e⟩:=Value.isInt_shape h;exact .inl ⟨i,t,rfl,e⟩
 | .inr x,v,h=>by
  obtain⟨t,e⟩:=Value.isStrOf_shape h;exact .inr ⟨x,t,rfl,e⟩
def bp6  i  t :aP1 (.inl i) (.int i t)=true:=by simp[aP1,mz]
def bh8  x  t :aP1 (.inr x) (.str x t)=true:=by simp[aP1,lS]
def bY5  a b :decide ((Sum.inl a:Key)=Sum.inl b)=(a==b):=by
 by_cases e:a=b
 .subst e;simp
 .have h:¬(Sum.inl a:Key)=Sum.inl b:=λ q=>e (Sum.inl.inj q);rw[ij h];exact(beq_eq_false_iff_ne.mpr e).symm
def ck5  a b :decide ((Sum.inr a:Key)=Sum.inr b)=decide (a=b):=by
 by_cases e:a=b
 .subst e;simp
 .have h:¬(Sum.inr a:Key)=Sum.inr b:=λ q=>e (Sum.inr.inj q);rw[ij h,ij e]
def ci4  a  b :decide ((Sum.inl a:Key)=Sum.inr b)=false:=ij (λ q=>nomatch q)
def cm0  a  b :decide ((Sum.inr a:Key)=Sum.inl b)=false:=ij (λ q=>nomatch q)
def qB  prog  w :lT prog w Key where
 is:=aP1
 hash:=cz5 w
 inj:=λ v a b ha hb=>by
  rcases zO ha with⟨i,t,rfl,rfl⟩|⟨x,t,rfl,rfl⟩
  .rcases zO hb with⟨j,u,rfl,e⟩|⟨y,u,rfl,e⟩
   .injection e with e1 _;rw[e1]
   .exact nomatch e
  .rcases zO hb with⟨j,u,rfl,e⟩|⟨y,u,rfl,e⟩
   .exact nomatch e
   .injection e with e1 _;rw[e1]
 byValue:=λ k v h=>by
  rcases zO h with⟨i,t,rfl,rfl⟩|⟨x,t,rfl,rfl⟩<;>rfl
 pyHash:=λ hv h=>by
  rcases zO hv with⟨i,t,rfl,rfl⟩|⟨x,t,rfl,rfl⟩
  .exact wpAny_pyHash_int h
  .exact wpAny_pyHash_str h
 eqBool:=λ hu hv h=>by
  rcases zO hu with⟨i,t,rfl,rfl⟩|⟨x,t,rfl,rfl⟩
  .rcases zO hv with⟨j,u,rfl,rfl⟩|⟨y,u,rfl,rfl⟩
   .rw[bY5]at h;exact wpAny_eqBool_int h
   .rw[ci4]at h;exact kn i t y u _ _ _ _ h
  .rcases zO hv with⟨j,u,rfl,rfl⟩|⟨y,u,rfl,rfl⟩
   .rw[cm0]at h;exact ko x t j u _ _ _ _ h
   .rw[ck5]at h;exact wpAny_eqBool_str h
 «strs»:=λ k x t v h=>by
  rcases zO h with⟨i,u,rfl,e⟩|⟨y,u,rfl,e⟩
  .exact nomatch e
  .injection e with e1 _;subst e1;cases v<;>rfl
def aP2  prog  w  i  t :(qB prog w).is (.inl i) (.int i t)=true:=bp6 i t
def aO1  prog  w  x  t :(qB prog w).is (.inr x) (.str x t)=true:=bh8 x t
abbrev FK:=Option Key
def fIs:FK->Value->Bool
 | none,v=>match v with|.none=>cn|_=>dt
 | some k,v=>aP1 k v
def fH (w:World):FK->Int
 | none=>0xFCA86420
 | some k=>cz5 w k
def jo (h:fIs bY v=cn):v=.none:=by
 cases v with
 | none=>rfl
 | _=>exact nomatch h
def bm1 (h:Q 0xFCA86420 { s with toks:=s.toks+1 }):wpAny (model P w) A (PySem.pyHash .none) Q E s:=by
 have hT:s.TypeIs .none "NoneType":=rfl;unfold PySem.pyHash pyHashByItsType;refine al (wpAny_cRoomFor_byValue rfl ?_);refine al (wpAny_specialOf hT dT.lookup ?_)
 skip
 rw[gn (by rw[beq_builtin_none];exact aS)];refine al (wpAny_specialOf hT dT.lookup ?_)
 skip
 refine al (wpAny_callSpecialIfBoundUnlessNone?_slot hT dT (cG dT hT F.entry_NoneType_hash
   (wpAny_ret_mkInt ?_) (F.args_NoneType_hash_1 _)))
 show wpAny _ _ (if _ then _ else _) Q E _;rw[gc (by decide)];exact aF h
def bf0  prog  w :lT prog w FK where
 is:=fIs
 hash:=fH w
 inj:=λ v a b ha hb=>by
  cases a with
  | none =>
   cases jo ha;cases b with
   | none=>rfl
   | some k=>rcases zO hb with⟨_,_,_,e⟩|⟨_,_,_,e⟩<;>exact nomatch e
  | some k =>
   cases b with
   | none=>cases jo hb;rcases zO ha with⟨_,_,_,e⟩|⟨_,_,_,e⟩<;>exact nomatch e
   | some j=>exact congrArg aT ((qB prog w).inj v k j ha hb)
 byValue:=λ k v h=>by
  cases k with
  | none=>cases jo h;rfl
  | some k=>exact(qB prog w).byValue k v h
 pyHash:=λ {A E s k v Q} hv h=>by
  cases k with
  | none=>cases jo hv;exact bm1 h
  | some k=>exact(qB prog w).pyHash hv h
 eqBool:=λ {A E s a b u v Q} hu hv h=>by
  cases a with
  | none =>
   cases jo hu;cases b with
   | none=>cases jo hv;exact fk _ prog w E Q h
   | some k =>
    rcases zO hv with⟨i,t,rfl,rfl⟩|⟨x,t,rfl,rfl⟩
    .exact iW i t _ _ _ _ h
    .exact iX x t _ _ _ _ h
  | some k =>
   cases b with
   | none =>
    cases jo hv;rcases zO hu with⟨i,t,rfl,rfl⟩|⟨x,t,rfl,rfl⟩
    .exact iY i t _ _ _ _ h
    .exact iZ x t _ _ _ _ h
   | some j =>
    refine(qB prog w).eqBool hu hv ?_
    simp_all
 «strs»:=λ k x t v h=>by
  cases k with
  | none=>exact nomatch jo h
  | some k=>exact(qB prog w).strs k x t v h
abbrev NI:=Sum FK (List FK)
section
variable (P:aK) (w:World)
def NIs (h:Heap):NI->Value->Prop
 | .inl f,v=>fIs f v=cn
 | .inr l,v=>∃ b,v=.ref b/\ly (bf0 P w) h l b
def cq7 (h:Heap)(ks:List NI)(a:Addr):Prop:=∃ o its n,h.get? a=aT o/\o.cls=.type "tuple"/\o.data=.seq its n/\fm (NIs P w h) ks its.toList
end
section
variable {P:aK} {w:World} {h h':Heap}
theorem NIs.inj (hx:NIs P w h x v)(hy:NIs P w h y v):x=y:=by
 cases x with
 | inl f =>
  cases y with
  | inl g=>exact congrArg Sum.inl ((bf0 P w).inj v f g hx hy)
  | inr l =>
   obtain⟨b,rfl,_⟩:=hy;exact iF ((bf0 P w).byValue f _ hx) (by nofun)
 | inr l =>
  obtain⟨b,rfl,hb⟩:=hx;cases y with
  | inl g=>exact iF ((bf0 P w).byValue g _ hy) (by nofun)
  | inr m =>
   obtain⟨c,e,hc⟩:=hy;cases e;exact congrArg Sum.inr (hb.inj hc)
theorem NIs.all_inj:∀ {x y} {vs:yG},fm (NIs P w h) x vs->fm (NIs P w h) y vs->x=y
 | _,_,_,.nil,.nil=>rfl
 | _,_,_,.cons a p,.cons b q=>by rw[a.inj b,NIs.all_inj p q]
def cq7.inj (hx:cq7 P w h x a)(hy:cq7 P w h y a):x=y:=by
 obtain⟨o,i,n,e,_,d,p⟩:=hx;obtain⟨Z,J,Y,e',_,d',G⟩:=hy;rw[e]at e';cases e';rw[d]at d';cases d';exact NIs.all_inj p G
def NIs.keep (k:∀ b l,ly (bf0 P w) h l b->ly (bf0 P w) h' l b)(hx:NIs P w h x v):NIs P w h' x v:=by
 cases x with
 | inl f=>exact hx
 | inr l=>obtain⟨b,e,p⟩:=hx;exact⟨b,e,k _ _ p⟩
end
set_option genCtorIdx true in
set_option genInjectivity true in
inductive V where
 | N|T (b:Bool)|int (i:Int)|str (x:Str)|byt (b:Array UInt8)|flt (b:UInt64)|ref (a:Addr)|ty (n:String)
 deriving DecidableEq
noncomputable def RelV:V->Value->Prop
 | .N,u=>u=Value.none
 | .T b,u=>u=Value.bool b
 | .int i,u=>∃ t,u=Value.int i t
 | .str x,u=>∃ t,u=Value.str x t
 | .byt b,u=>∃ t,u=Value.bytes b t
 | .flt b,u=>∃ t,u=Value.float b t
 | .ref a,u=>u=Value.ref a
 | .ty n,u=>u=Value.type n
abbrev Vals:List V->List Value->Prop:=fm RelV
theorem Vals.length {us:yG}(r:Vals h us):h.length=us.length:=lU r
theorem Vals.get:∀ {h} {us:yG} {i:Nat} {x},Vals h us->h[i]?=aT x->∃ u,us[i]?=aT u/\RelV x u
 | _,_,_,_,.nil,e=>by simp at e
 | _,_,0,_,.cons r _,e=>by simp at e;subst e;exact⟨_,rfl,r⟩
 | _,_,i+1,x,.cons _ t,e=>by
  obtain⟨u,y,G⟩:=Vals.get t (by simpa using e);exact⟨u,by simpa using y,G⟩
theorem Vals.set (r:RelV x u):∀ {h} {us:yG}  i ,Vals h us->Vals (h.set i x) (us.set i u)
 | _,_,_,.nil=>.nil
 | _,_,0,.cons _ t=>.cons r t
 | _,_,i+1,.cons q t=>.cons q (Vals.set r i t)
theorem Vals.append:∀ {h ys} {us ws:yG},Vals h us->Vals ys ws->Vals (h++ys) (us++ws)
 | _,_,_,_,.nil,s=>s
 | _,_,_,_,.cons r t,s=>.cons r (Vals.append t s)
theorem Vals.take:∀ {h} {us:yG}  n ,Vals h us->Vals (h.take n) (us.take n)
 | _,_,0,_=>.nil
 | _,_,_+1,.nil=>.nil
 | _,_,n+1,.cons r t=>.cons r (Vals.take n t)
theorem Vals.drop:∀ {h} {us:yG}  n ,Vals h us->Vals (h.drop n) (us.drop n)
 | _,_,0,r=>r
 | _,_,_+1,.nil=>.nil
 | _,_,n+1,.cons _ t=>Vals.drop n t
def bv1:Option V->Option Value->Prop
 | some v,aT u=>RelV v u
 | none,bY=>True
 | _,_=>False
def KV :List (κ×V)->List (κ×Value)->Prop:=fm λ(p) (q)=>p.1=q.1/\RelV p.2 q.2
noncomputable def kV:Key->V
 | .inl i=>.int i
 | .inr x=>.str x
inductive HO where
 | J (xs:List V)
 | tp (xs:List V)
 | dK (kvs:List (Key×V))
 | own (x:Addr)
 | xd (fs:List (Str×V))
 | rng (lo hi:Int)
 | frz (o:Obj) (u:HO)
 | tbl (ps:yJ)
 | ext (C:Heap->Prop)
noncomputable abbrev HO.ctorIdx (x:HO):Nat:=HO.casesOn x (λ _=>0) (λ _=>1) (λ _=>2) (λ _=>3) (λ _=>4) (λ _ _=>5) (λ _ _=>6) (λ _=>7) (λ _=>8)
abbrev Hp:=Addr->Option HO
def fV:FK->V
 | none=>.N
 | some k=>kV k
def NAt (H:Hp):NI->V->Prop
 | .inl f,v=>v=fV f
 | .inr l,v=>∃ c,v=.ref c/\H c=aT (.tp (l.map fV))
def NK (H:Hp)(k:List NI)(b:Addr):Prop:=∃ xs,H b=aT (.tp xs)/\fm (NAt H) k xs
def NAt.mono (ht:∀ b y,H b=aT (.tp y)->H' b=aT (.tp y))(h:NAt H k v):NAt H' k v:=by
 cases k with
 | inl f=>exact h
 | inr l=>obtain⟨c,e,q⟩:=h;exact⟨c,e,ht _ _ q⟩
theorem NK.mono (ht:∀ b y,H b=aT (.tp y)->H' b=aT (.tp y))(h:NK H k b):NK H' k b:=let⟨y,e,p⟩:=h;⟨y,ht _ _ e,Paired.mono (λ _ _ z=>z.mono ht) p⟩
noncomputable def upd (H:Hp)(a:Addr)(o:HO):Hp:=λ b=>if b=a then aT o else H b
def zu :upd H a o a=aT o:=by unfold upd;rw[gc rfl]
def zr (h:b≠a):upd H a o b=H b:=by unfold upd;rw[gn h]
def zV {H:Hp}(h:H a=aT o)(h':H b=bY):a≠b:=by
 lia
section
variable (P:aK) (w:World)
def ai1 (H:Hp)(h:Heap)(a:Addr):HO->Prop
 | .J xs=>xs.length<=aR/\∃ its   n ,Vals xs its/\h.get? a=aT { cls:=.type "list",data:=.seq its.toArray n }
 | .tp xs=>xs.length<=aR/\∃ its,Vals xs its/\IsTup h a its.toArray
 | .dK kvs=>kvs.length<=aR/\(a==fJ)=dt/\∃ vs,KV kvs vs/\h.DictOf (qB P w) a vs
 | .own _=>∃ o,h.get? a=aT o
 | .xd fs=>∃ mA,h.Ns1 a mA/\∀ f,bv1 (fs.lookup f) (mA f)
 | .rng lo hi=>∃ t u v,h.get? a=aT { cls:=.type "range",data:=.fields #[.int lo t,.int hi u,.int 1 v] }
 | .frz o u=>h.get? a=aT o/\ai1 H h a u
 | .tbl ps=>h.get? a=aT { cls:=.none,data:=.fields ps }
 | .ext C=>C h/\(∃ o,h.get? a=aT o)/\∀ h1 h2:Heap,C h1->(∀ o,h1.get? a=aT o->h2.get? a=aT o)->C h2
def HOk (H:Hp)(h:Heap):Prop:=∀ a o,H a=aT o->ai1 P w H h a o
end
section
variable {P:aK} {w:World} {H H':Hp} {h h':Heap} {a:Addr} {o:HO}
theorem ai1.lt (x:ai1 P w H h a o):a<h.objs.size:=by
 cases o with
 | J xs=>obtain⟨_,_,_,_,e⟩:=x;exact aI e
 | tp xs=>obtain⟨_,_,_,p⟩:=x;exact p.lt
 | dK kvs=>obtain⟨_,_,_,_,o,_,_,e,_⟩:=x;exact aI e
 | own y=>obtain⟨_,e⟩:=x;exact aI e
 | xd fs=>obtain⟨_,⟨_,_,_,e,_⟩,_⟩:=x;exact aI e
 | rng lo hi=>obtain⟨_,_,_,e⟩:=x;exact aI e
 | frz ob u=>obtain⟨e,_⟩:=x;exact aI e
 | tbl ps=>exact aI (x)
 | ext C=>obtain⟨_,⟨_,e⟩,_⟩:=x;exact aI e
theorem fm.mapP :∀ {y} {h},fm F y h->(∀ a b,F a b->G a b)->fm G y h
 | _,_,.nil,_=>.nil
 | _,_,.cons r t,f=>.cons (f _ _ r) (fm.mapP t f)
def ai1.stay (x:ai1 P w H h a o)(k:∀ b u,(b=a\/H b=aT (.own a))->h.get? b=aT u->h'.get? b=aT u)
  (ho:∀ b,H b=aT (.own a)->H' b=aT (.own a)) (ht:∀ b G,H b=aT (.tp G)->H' b=aT (.tp G)):ai1 P w H' h' a o:=by
 induction o with
 | J G=>obtain⟨z,its,n,r,e⟩:=x;exact⟨z,its,n,r,k _ _ (.inl rfl) e⟩
 | tp G=>obtain⟨z,its,r,ob,e,c⟩:=x;exact⟨z,its,r,ob,k _ _ (.inl rfl) e,c⟩
 | dK kvs=>obtain⟨z,y,vs,r,ob,es,J,e,c⟩:=x;exact⟨z,y,vs,r,ob,es,J,k _ _ (.inl rfl) e,c⟩
 | own y=>obtain⟨ob,e⟩:=x;exact⟨ob,k _ _ (.inl rfl) e⟩
 | xd fs=>obtain⟨Y,⟨od,es,J,e,c⟩,r⟩:=x;exact⟨Y,⟨od,es,J,k _ _ (.inl rfl) e,c⟩,r⟩
 | rng lo hi=>obtain⟨t,u,v,e⟩:=x;exact⟨t,u,v,k _ _ (.inl rfl) e⟩
 | frz ob u ih=>obtain⟨e,q⟩:=x;exact⟨k _ _ (.inl rfl) e,ih q⟩
 | tbl ps =>
  have e:=x
  skip
  exact k a _ (.inl rfl) e
 | ext C=>obtain⟨p,⟨o,e⟩,st⟩:=x;exact⟨st _ _ p λ o q=>k _ _ (.inl rfl) q,⟨o,k _ _ (.inl rfl) e⟩,st⟩
theorem HOk.lt (x:HOk P w H h)(e:H a=aT o):a<h.objs.size:=(x a o e).lt
def HOk.fresh (x:HOk P w H h)(e:h.objs.size<=a):H a=none:=by
 cases q:H a with
 | none=>rfl
 | some u=>exact iF (av (x.lt q) e) (bj _)
def HOk.kept (x:HOk P w H h)(k:∀ b u,h.get? b=aT u->h'.get? b=aT u):HOk P w H h':=λ a o e =>
 (x a o e).stay (λ b u _ q=>k b u q) (λ _ q=>q) λ _ _ q=>q
def HOk.laid (x:HOk P w H h)(k:∀ b u,h.get? b=aT u->h'.get? b=aT u)(y:h.objs.size<=a)(new:ai1 P w (upd H a o) h' a o):HOk P w (upd H a o) h':=λ b u e=>by
 have hn:=x.fresh y;by_cases hb:b=a
 .subst hb;rw[zu]at e;simp_all
 .rw[zr hb]at e;exact(x b u e).stay (λ c v _ q=>k c v q) (λ c q=>by rw[zr (zV q hn)];exact q) λ c G q=>by rw[zr (zV q hn)];exact q
end
def Rd (H:Hp)(a:Addr)(u:HO):Prop:=H a=aT u\/∃ o,H a=aT (.frz o u)
def Rd.ok (r:Rd H a u)(x:HOk P w H h):ai1 P w H h a u:=by
 rcases r with r|⟨o,r⟩
 .exact x a u r
 .obtain⟨_,q⟩:=x a _ r;exact q
noncomputable def Mut:Option HO->Prop
 | some (.J _)=>True
 | some (.dK _)=>True
 | some (.ext _)=>True
 | _=>False
section
variable {P:aK} {w:World} {H:Hp} {h h':Heap} {x e:Addr} {o':HO}
def HOk.write (ok:HOk P w H h)(mu:Mut (H x))(he:e=x\/H e=aT (.own x))(k:∀ b u,b≠e->h.get? b=aT u->h'.get? b=aT u)(Z:∃ u,h'.get? e=aT u)
  (new:ai1 P w (upd H x o') h' x o'):HOk P w (upd H x o') h':=λ b u q=>by
 have G:∀ c y,H c=aT (.own y)->c≠x:=λ c y r z=>by subst z;rw[r]at mu;exact mu
 have J:∀ c Y,H c=aT (.tp Y)->c≠x:=λ c Y r z=>by subst z;rw[r]at mu;exact mu
 by_cases hb:b=x
 .subst hb;rw[zu]at q;cases q;exact new
 .rw[zr hb]at q;by_cases hbe:b=e
  .have q':H b=aT (.own x):=by
    rcases he with z|z
    .exact iF (hbe.trans z) hb
    .rw[hbe];exact z
   rw[q]at q';cases q';obtain⟨v,hv⟩:=Z;exact⟨v,by rw[hbe];exact hv⟩
  .refine(ok b u q).stay (λ c v hc r=>k c v ?_ r) (λ c r=>by rw[zr (G c b r)];exact r) λ c Y r=>by rw[zr (J c Y r)];exact r
   rcases hc with rfl|hc
   .exact hbe
   .rintro rfl
    rcases he with z|z
    .exact G c b hc z
    .rw[hc]at z;cases z;exact hb rfl
end
structure Un (fs ex:List Addr)(H H':Hp)(h h':Heap):Prop where
 keep:∀ b o,h.get? b=aT o->H b=bY->b ∉ fs->b ∉ ex->h'.get? b=aT o
 slot:∀ b o,h.get? b=aT o->H b=bY->b∈fs->b ∉ ex->∃ sl,h'.get? b=aT { o with slots:=sl }
 free:∀ b o,h.get? b=aT o->H b=bY->b ∉ ex->H' b=bY
 there:∀ b o,h.get? b=aT o->b ∉ ex->∃ o',h'.get? b=aT o'
 tups:∀ b xs,H b=aT (.tp xs)->H' b=aT (.tp xs)
 frzs:∀ b o u,H b=aT (.frz o u)->H' b=aT (.frz o u)
 tbls:∀ b ps,H b=aT (.tbl ps)->∃ more,H' b=aT (.tbl (ps++more))
section
variable {fs fs' ex ex':List Addr} {H H1 H2:Hp} {h h1 h2 h':Heap} {a x e:Addr} {o:HO}
def Un.any (u:Un fs ex H H1 h h1)(q:h.get? b=aT ob)(n:H b=bY)(hx:b ∉ ex):∃ sl,h1.get? b=aT { ob with slots:=sl }:=by
 by_cases hb:b∈fs
 .exact u.slot b ob q n hb hx
 .exact⟨ob.slots,u.keep b ob q n hb hx⟩
def Un.kept (k:∀ b u,h.get? b=aT u->h'.get? b=aT u):Un fs ex H H h h' :=
 ⟨λ b ob q _ _ _=>k b ob q,λ b ob q _ _ _=>⟨ob.slots,k b ob q⟩,λ _ _ _ n _=>n,λ b ob q _=>⟨ob,k b ob q⟩,λ _ _ q=>q,λ _ _ _ q=>q,λ _ ps q=>⟨#[],by simp_all⟩⟩
def Un.refl:Un fs ex H H h h:=Un.kept λ _ _ q=>q
def Un.laid (k:∀ b u,h.get? b=aT u->h'.get? b=aT u)(G:h.objs.size<=a)(hn:H a=bY):Un fs ex H (upd H a o) h h' where
 keep:=λ b u q _ _ _=>k b u q
 slot:=λ b u q _ _ _=>⟨u.slots,k b u q⟩
 free:=λ b u q n _=>by rw[zr (aD (av (aI q) G))];exact n
 there:=λ b u q _=>⟨u,k b u q⟩
 tups:=λ b y q=>by rw[zr (zV q hn)];exact q
 frzs:=λ b u y q=>by rw[zr (zV q hn)];exact q
 tbls:=λ b ps q=>⟨#[],by rw[zr (zV q hn),q];simp⟩
def Un.write (mu:Mut (H x))(Z:e=x\/H e=aT (.own x))(k:∀ b u,b≠e->h.get? b=aT u->h'.get? b=aT u)(y:∃ u,h'.get? e=aT u):Un fs ex H (upd H x o) h h':=by
 have hx:∀ b,H b=bY->b≠x:=λ b n z=>by subst z;rw[n]at mu;exact mu
 have hb:∀ b,H b=bY->b≠e:=λ b n z=>by
  lia
 have G:∀ b u,H b=aT u->¬ Mut (aT u)->b≠x:=λ b u q Y z=>by lia
 refine⟨λ b u q n _ _=>k b u (hb b n) q,λ b u q n _ _=>⟨u.slots,k b u (hb b n) q⟩,λ b u q n _=>by rw[zr (hx b n)];exact n,λ b u q _=>?_,
  λ b J q=>by rw[zr (G b _ q λ z=>z)];exact q,λ b u J q=>by rw[zr (G b _ q λ z=>z)];exact q,λ b ps q=>⟨#[],by rw[zr (G b _ q λ z=>z),q];simp⟩⟩
 grind
end
noncomputable def trk (h:Heap)(H:Hp):List Addr:=(ae h.objs.size).filter λ a=>(H a).isSome
def bv0 (h:Heap)(H:Hp):Heap:=PySem.W.hideAll h (trk h H)
def bo1  h  H :(bv0 h H).objs.size=h.objs.size:=PySem.W.hideAll_size _ _
def as3 (e:h.get? b=aT o)(n:H b=bY):(bv0 h H).get? b=aT o :=
 PySem.W.hideAll_get _ e λ y=>by
  have q:=(hV.mp y).2
  simp_all
def bQ1 (e:(bv0 h H).get? b=aT o):h.get? b=aT o/\H b=none:=by
 have e':=PySem.W.of_hideAll (trk h H) e;refine⟨e',?_⟩;cases q:H b with
 | none=>rfl
 | some x =>
  have y:b∈trk h H:=hV.mpr ⟨aX.mpr (aI e'),by simp[q]⟩;have z:(bv0 h H).get? b=none:=PySem.W.hideAll_none (trk h H) y;lia
noncomputable def bQ2 (g h:Heap)(L:Addr):List (Addr×Obj):=(ae h.objs.size).filterMap λ a=>if a=L\/(g.get? a).isSome=cn then bY else(h.get? a).map λ o=>(a,o)
def rest (g h:Heap)(L d:Addr):List (Addr×Obj):=(bQ2 g h L).filter λ p=>decide (p.1≠d)
structure Mod (K:af)(mg:yC)(base:Heap):Prop where
 kin:K.In base
 glob:base.Ns aV mg
 blt:∃ mb,base.Ns eA mb/\∀ x:Str,x ≠ "__name__"->mb x=bf x
 nolimit:base.NoLimit
structure Cx where
 prog:aK
 w:World
 K:af
 mg:Str->Option Value
 base:Heap
 A:aW
 N:List Str
 s₀:ah
 H₀:Hp
 env:Env
 outer:List Env
 stack:List Env
 ex:List Addr
 fn:Str->Bool
 calm:Bool
 pn:List (Addr×Obj)
 xe:Value->ah->Prop
noncomputable def frs (l:List Env):List Addr:=l.filterMap (·.frame)
abbrev Cx.fs (X:Cx):List Addr:=frs X.outer
def Vis (sc:Scope)(x:Str):Prop:=sc.names.lookup x=aT .local\/sc.names.lookup x=aT .cell\/sc.names.lookup x=aT .free
def Loc (sc:Scope)(x:Str):Prop:=sc.names.lookup x=aT .local\/sc.names.lookup x=aT .cell
def Look (env:Env)(h:Heap)(m:yC)(x:Str)(u:Value):Prop :=
 (env.kindOf x=aT .local/\m x=aT u)\/((env.kindOf x=aT .cell\/env.kindOf x=aT .free)/\∃ c,env.cells.lookup x=aT c/\h.IsCell c (aT u))
structure Cx.Ok (X:Cx):Prop where
 mod:Mod X.K X.mg X.base
 kind:X.env.scope.kind=.function
 glob:X.env.globals=aV
 blt:X.env.builtins=eA
 above:X.s₀.heap.objs.size<=X.env.locals
 inj:∀ x y c,X.env.cells.lookup x=aT c->X.env.cells.lookup y=aT c->x=y
 has:∀ x,(X.env.kindOf x=aT .cell\/X.env.kindOf x=aT .free)->∃ c,X.env.cells.lookup x=aT c
 cab:∀ x c,X.fn x=cn->X.env.cells.lookup x=aT c->X.s₀.heap.objs.size<=c
 hd:X.calm=cn->X.A.handled=bY
 frames:X.A.frames=aT X.stack
 stk:X.stack=X.outer\/(X.stack=X.env::X.outer/\X.env.frame=aT X.env.locals)
 exf:∀ b∈X.ex,b≠X.env.locals/\∀ x c,X.env.cells.lookup x=aT c->c≠b
 bs:∀ b o,X.base.get? b=aT o->X.s₀.heap.get? b=aT o/\X.H₀ b=bY
 bsz:X.base.objs.size<=X.s₀.heap.objs.size
 noex:∀ b o,X.base.get? b=aT o->b ∉ X.ex
 exfs:∀ b∈X.ex,b ∉ X.fs
 funs:X.s₀.heap.FunFrames X.base X.outer
 frf:∀ b∈X.fs,X.H₀ b=bY
structure Inv (X:Cx)(pins:yA)(W:List (Option V))(H:Hp)(s:ah):Prop where
 ok:X.Ok
 os:s.os=X.s₀.os
 bare:fZ s.gens
 base:Un X.fs X.ex X.H₀ H X.s₀.heap s.heap
 loc:∃ m,s.heap.Ns X.env.locals m/\∀(i:Nat) (x:Str) (v:V),X.N[i]?=aT x->W[i]?=aT (aT v)->Vis X.env.scope x->∃ u,RelV v u/\Look X.env s.heap m x u
 cell:∀ x c,X.env.cells.lookup x=aT c->∃ v,s.heap.IsCell c v
 free:H X.env.locals=bY
 freeC:∀ x c,X.env.cells.lookup x=aT c->H c=bY
 pin:∀ p∈X.pn++pins,s.heap.get? p.1=aT p.2/\H p.1=bY/\p.1≠X.env.locals/\p.1 ∉ X.fs/\∀ v,p.2.data≠.cell v
 hok:HOk X.prog X.w H s.heap
 len:W.length=X.N.length
section
variable {X:Cx} {pins:yA} {W:List (Option V)} {H H':Hp} {s:ah} {h':Heap}
def Cx.Ok.nofr (ok:X.Ok)(e:X.base.get? b=aT o):b ∉ X.fs:=λ hb=>by
 have:=(ok.funs.mem hb).1;lia
theorem Inv.bs (I:Inv X pins W H s):∀ b o,X.base.get? b=aT o->s.heap.get? b=aT o/\H b=none:=λ b o e =>
 ⟨I.base.keep b o (I.ok.bs b o e).1 (I.ok.bs b o e).2 (I.ok.nofr e) (I.ok.noex b o e),I.base.free b o (I.ok.bs b o e).1 (I.ok.bs b o e).2 (I.ok.noex b o e)⟩
def Inv.bk (I:Inv X pins W H s):∀ b o,X.base.get? b=aT o->s.heap.get? b=aT o:=λ b o e=>(I.bs b o e).1
theorem Inv.mod (I:Inv X pins W H s):Mod X.K X.mg X.base:=I.ok.mod
def Inv.kIn (I:Inv X pins W H s):X.K.In s.heap:=I.ok.mod.kin.keeps I.bk
theorem Inv.nolimit (I:Inv X pins W H s):s.heap.NoLimit:=I.ok.mod.nolimit.keeps I.bk
theorem Inv.lt (I:Inv X pins W H s):X.env.locals<s.heap.objs.size:=let⟨_,hn,_⟩:=I.loc;hn.lt
def Inv.sz (I:Inv X pins W H s):X.s₀.heap.objs.size<=s.heap.objs.size:=am I.ok.above (dZ I.lt)
def Inv.nofs (I:Inv X pins W H s){a:Addr}(h:s.heap.objs.size<=a):a ∉ X.fs:=λ hb=>by
 obtain⟨_,o,ho,_⟩:=I.ok.funs.mem hb;exact iF (av (aI ho) (am I.sz h)) (bj _)
def Inv.cne (I:Inv X pins W H s):∀ x c,X.env.cells.lookup x=aT c->c≠X.env.locals:=λ x c e z=>by
 obtain⟨v,o,ho,hd⟩:=I.cell x c e;obtain⟨m,⟨J,es,G,y,h,_⟩,_⟩:=I.loc;lia
theorem Inv.funs (I:Inv X pins W H s):s.heap.FunFrames X.base X.outer:=by
 have all:∀ l ,(∀ b∈frs l,b∈X.fs)->X.s₀.heap.FunFrames X.base l->s.heap.FunFrames X.base l:=by
  intro l
  induction l with
  | nil=>intro _ _;trivial
  | cons env r ih =>
   intro hs hl;obtain⟨hk,⟨L,o,y,hn,ho,hd⟩,G⟩:=hl;have h:=hs L (by unfold frs;rw[bA,y];exact aH);obtain⟨sl,e⟩:=I.base.slot L o ho (I.ok.frf L h) h λ z=>I.ok.exfs L z h;exact⟨hk,⟨L,_,y,hn,e,hd⟩,ih (λ b hb=>hs b (by unfold frs;rw[bA,y];exact aB _ hb)) G⟩
 exact all X.outer (λ _ hb=>hb) I.ok.funs
theorem Inv.stack (I:Inv X pins W H s):s.heap.FunFrames X.base X.stack:=by
 rcases I.ok.stk with e|⟨e,h⟩
 .rw[e];exact I.funs
 .rw[e];obtain⟨m,hn,_⟩:=I.loc;refine .cons (by rw[I.ok.kind];decide) h hn ?_ I.funs;exact Heap.get?_none_of_le (am I.ok.bsz I.ok.above)
def Inv.stkSub (I:Inv X pins W H s):∀ b∈frs X.stack,b∈X.env.locals::X.fs:=λ b hb=>by
 rcases I.ok.stk with e|⟨e,h⟩
 .rw[e]at hb;exact aB _ hb
 .rw[e]at hb;unfold frs at hb;rw[bA,h]at hb;exact hb
def Inv.stkFree (I:Inv X pins W H s):∀ b∈frs X.stack,H b=none:=λ b hb=>by
 rcases aL.mp (I.stkSub b hb)with e|hb
 .rw[e];exact I.free
 .obtain⟨_,o,ho,_⟩:=I.ok.funs.mem hb;exact I.base.free b o ho (I.ok.frf b hb) λ z=>I.ok.exfs b z hb
def Inv.step {ch:List Addr}(I:Inv X pins W H s)
  (y:∀ b∈ch,(b∈X.ex\/X.s₀.heap.objs.size<=b)/\b≠X.env.locals/\(∀ x c,X.env.cells.lookup x=aT c->c≠b)/\∀ p∈X.pn++pins,p.1≠b)
  (keep:∀ b o,b≠X.env.locals->b ∉ X.fs->b ∉ ch->s.heap.get? b=aT o->H b=bY->h'.get? b=aT o)
  (slot:∀ b o,b≠X.env.locals->b∈X.fs->b ∉ ch->s.heap.get? b=aT o->H b=bY->∃ sl,h'.get? b=aT { o with slots:=sl }) (free:∀ b o,b ∉ ch->s.heap.get? b=aT o->H b=bY->H' b=bY)
  (there:∀ b o,b ∉ ch->s.heap.get? b=aT o->∃ Z,h'.get? b=aT Z)
  (tups:∀ b Y,H b=aT (.tp Y)->H' b=aT (.tp Y)) (frzs:∀ b o u,H b=aT (.frz o u)->H' b=aT (.frz o u)) (tbls:∀ b ps,H b=aT (.tbl ps)->∃ more,H' b=aT (.tbl (ps++more)))
  (ns:∀ m,s.heap.Ns X.env.locals m->h'.Ns X.env.locals m) (hok:HOk X.prog X.w H' h') (hg:fZ g') :
  Inv X pins W H' { s with heap:=h',gens:=g',drawn:=d',toks:=t' }:=by
 have a0:∀ b o,X.s₀.heap.get? b=aT o->b≠X.env.locals:=λ b o e=>aD (av (aI e) I.ok.above);have J:∀ b o,X.s₀.heap.get? b=aT o->b ∉ X.ex->b ∉ ch:=λ b o e hx hb=>by
  rcases(y b hb).1 with z|z
  .exact hx z
  .exact iF (av (aI e) z) (bj _)
 have G:∀ x c,X.env.cells.lookup x=aT c->∀ v,s.heap.IsCell c v->h'.IsCell c v:=λ x c e v ⟨o,ho,hd⟩=>by
  have h:c ∉ ch:=λ z=>(y c z).2.2.1 x c e rfl;by_cases hc:c∈X.fs
  .obtain⟨sl,q⟩:=slot c o (I.cne x c e) hc h ho (I.freeC x c e);exact⟨_,q,hd⟩
  .exact⟨o,keep c o (I.cne x c e) hc h ho (I.freeC x c e),hd⟩
 refine⟨I.ok,I.os,hg,⟨λ b o e n hb hx=>?_,λ b o e n hb hx=>?_,λ b o e n hx=>?_,λ b o e hx=>?_,λ b Y e=>tups b Y (I.base.tups b Y e),λ b o Y e=>frzs b o Y (I.base.frzs b o Y e),λ b ps e=>?_⟩,?_,λ x c e=>?_,?_,λ x c e=>?_,λ p hp=>?_,hok,I.len⟩
 .exact keep b o (a0 b o e) hb (J b o e hx) (I.base.keep b o e n hb hx) (I.base.free b o e n hx)
 .obtain⟨sl,e1⟩:=I.base.slot b o e n hb hx;obtain⟨a1,e2⟩:=slot b _ (a0 b o e) hb (J b o e hx) e1 (I.base.free b o e n hx);exact⟨a1,e2⟩
 .obtain⟨Z,e1⟩:=I.base.there b o e hx;exact free b Z (J b o e hx) e1 (I.base.free b o e n hx)
 .obtain⟨Z,e1⟩:=I.base.there b o e hx;exact there b Z (J b o e hx) e1
 .obtain⟨m1,e1⟩:=I.base.tbls b ps e;obtain⟨m2,e2⟩:=tbls b _ e1;exact⟨m1++m2,by rw[e2,kq]⟩
 .obtain⟨m,hn,hl⟩:=I.loc;refine⟨m,ns m hn,λ i x v e1 e2 e3=>?_⟩;obtain⟨u,r,l⟩:=hl i x v e1 e2 e3;refine⟨u,r,?_⟩;rcases l with l|⟨k,c,e,z⟩
  .exact .inl l
  .exact .inr ⟨k,c,e,G x c e _ z⟩
 .obtain⟨v,z⟩:=I.cell x c e;exact⟨v,G x c e v z⟩
 .obtain⟨m,⟨o,_,_,ho,_⟩,_⟩:=I.loc;exact free _ o (λ z=>(y _ z).2.1 rfl) ho I.free
 .obtain⟨v,o,ho,hd⟩:=I.cell x c e;exact free c o (λ z=>(y c z).2.2.1 x c e rfl) ho (I.freeC x c e)
 .obtain⟨e,n,ne,nf,d⟩:=I.pin p hp;have h:p.1 ∉ ch:=λ z=>(y p.1 z).2.2.2 p hp rfl;exact⟨keep p.1 p.2 ne nf h e n,free p.1 p.2 h e n,ne,nf,d⟩
def Inv.un (I:Inv X pins W H s)(u:Un X.fs [] H H' s.heap h')(hok:HOk X.prog X.w H' h'):Inv X pins W H' { s with heap:=h',toks:=t' }:=by
 refine wl λ _ kk=>?_;obtain⟨m,⟨o,es,ep,ho,r⟩,_⟩:=id I.loc;obtain⟨sl,J⟩:=u.any ho I.free (by simp);exact kk $ I.step (ch:=[]) (λ _ z=>nomatch z) (λ b o _ hb _ e n=>u.keep b o e n hb (by simp)) (λ b o _ hb _ e n=>u.slot b o e n hb (by simp)) (λ b o _ e n=>u.free b o e n (by simp)) (λ b o _ e=>u.there b o e (by simp)) u.tups u.frzs u.tbls (λ m' Z=>by
  obtain⟨o',G,y,h,Y⟩:=Z;rw[ho]at h;cases h;exact⟨_,G,y,J,Y⟩) hok I.bare
def Inv.call (I:Inv X pins W H s)(u:Un (frs X.stack) ch H H' s.heap h')(hok:HOk X.prog X.w H' h')(hg:fZ g')
  (h:∀ b∈ch,(b∈X.ex\/X.s₀.heap.objs.size<=b)/\b≠X.env.locals/\(∀ x c,X.env.cells.lookup x=aT c->c≠b)/\∀ p∈X.pn++pins,p.1≠b) :
  Inv X pins W H' { s with heap:=h',gens:=g',drawn:=d',toks:=t' }:=by
 obtain⟨m,⟨o,es,ep,ho,r⟩,_⟩:=id I.loc;obtain⟨sl,G⟩:=u.any ho I.free λ z=>(h _ z).2.1 rfl;exact I.step h (λ b o G hb hc e n=>u.keep b o e n (λ z=>(aL.mp (I.stkSub b z)).elim G hb) hc) (λ b o _ _ hc e n=>u.any e n hc) (λ b o hc e n=>u.free b o e n hc) (λ b o hc e=>u.there b o e hc) u.tups u.frzs u.tbls (λ m' hm=>by
  obtain⟨o',Y,J,y,Z⟩:=hm;rw[ho]at y;cases y;exact⟨_,Y,J,G,Z⟩) hok hg
def Inv.turned (I:Inv X pins W H s)(k:∀ b o,b≠it->s.heap.get? b=aT o->h'.get? b=aT o)(hn:H it=bY)(y:it≠X.env.locals)
  (G:it∈X.ex\/X.s₀.heap.objs.size<=it) (Z:∀ x c,X.env.cells.lookup x=aT c->c≠it) (h3:∀ p∈X.pn++pins,p.1≠it):Inv X pins W H { s with heap:=h',toks:=t' }:=by
 have h:∀ b u,H b=aT u->b≠it:=λ b u e z=>by lia
 refine I.step (ch:=[it]) (λ b hb=>?_) (λ b o _ _ hc e _=>k b o (λ z=>hc (by simp[z])) e) (λ b o _ _ hc e _=>⟨o.slots,k b o (λ z=>hc (by simp[z])) e⟩) (λ _ _ _ _ n=>n)
  (λ b o hc e=>⟨o,k b o (λ z=>hc (by simp[z])) e⟩) (λ _ _ e=>e) (λ _ _ _ e=>e) (λ b ps e=>⟨#[],by simp_all⟩) (λ m Y=>?_) (λ b u e=>?_) I.bare
 .have e:=by simpa using hb
  subst e;exact⟨G,y,Z,h3⟩
 .obtain⟨o,es,J,ho,r⟩:=Y;exact⟨o,es,J,k _ o (cg y) ho,r⟩
 .refine(I.hok b u e).stay (λ c v hc q=>k c v ?_ q) (λ _ q=>q) λ _ _ q=>q;rcases hc with z|z
  .rw[z];exact h b u e
  .exact h c _ z
def Inv.tok (I:Inv X pins W H s) t :Inv X pins W H { s with toks:=t }:=I.un Un.refl I.hok
theorem Inv.kept (I:Inv X pins W H s)(k:∀ b u,s.heap.get? b=aT u->h'.get? b=aT u):Inv X pins W H { s with heap:=h',toks:=t' }:=I.un (Un.kept k) (I.hok.kept k)
theorem Inv.laid {a:Addr}(I:Inv X pins W H s)(k:∀ b u,s.heap.get? b=aT u->h'.get? b=aT u)(h:s.heap.objs.size<=a)(new:ai1 X.prog X.w (upd H a o) h' a o) :
  Inv X pins W (upd H a o) { s with heap:=h',toks:=t' }:=I.un (Un.laid k h (I.hok.fresh h)) (I.hok.laid k h new)
theorem Inv.write (I:Inv X pins W H s)(mu:Mut (H x))(y:e=x\/H e=aT (.own x))(k:∀ b u,b≠e->s.heap.get? b=aT u->h'.get? b=aT u)(h:∃ u,h'.get? e=aT u)
  (new:ai1 X.prog X.w (upd H x o) h' x o):Inv X pins W (upd H x o) { s with heap:=h',toks:=t' }:=I.un (Un.write mu y k h) (I.hok.write mu y k h new)
def Inv.pins_of (I:Inv X pins W H s)(h:∀ p∈y,s.heap.get? p.1=aT p.2/\H p.1=bY/\p.1≠X.env.locals/\p.1 ∉ X.fs/\∀ v,p.2.data≠.cell v):Inv X y W H s :=
 ⟨I.ok,I.os,I.bare,I.base,I.loc,I.cell,I.free,I.freeC,λ p G=>(bN.mp G).elim (λ z=>I.pin p (ir _ z)) (h p),I.hok,I.len⟩
def aW3 {N:yH}(hN:N.Nodup){ j:Nat}(a:N[i]?=aT x)(b:N[j]?=aT x):i=j:=by
 obtain⟨h,e1⟩:=ab.mp a;obtain⟨y,e2⟩:=ab.mp b;exact(List.getElem_inj hN).mp (e1.trans e2.symm)
def aG8 (I:Inv X pins W H s)(hN:X.N.Nodup)(hi:X.N[i]?=aT x)(hx:Loc X.env.scope x)(r:RelV v u)
  (h:∀ s',Inv X pins (W.set i (aT v)) H s'->(∃ a,ci a s.heap s'.heap/\(a=X.env.locals\/X.env.cells.lookup x=aT a))->Q () s') (hf:autoParam (X.fn x=cn\/X.env.scope.names.lookup x=aT .local) Zq0._auto_1):wpAny M A (fF X.env x u) Q E s:=by
 obtain⟨m,hn,hl⟩:=id I.loc;have a2:(X.env.scope.kind==.class||(X.env.scope.kind==.module&&X.env.locals != X.env.globals))=false:=by rw[I.ok.kind];rfl
 have a0:i < W.length:=by rw[I.len];exact(ab.mp hi).1
 have cne:=I.cne;have G:∀ {a:Addr} {h':Heap},(∃ o,s.heap.get? a=aT o/\H a=bY)->ci a s.heap h'->HOk X.prog X.w H h':=λ {a h'} ha hs b ob e=>by
  obtain⟨_,_,J⟩:=ha;refine(I.hok b ob e).stay (λ c w' hc q=>(hs.2 c ?_).trans q) (λ _ q=>q) λ _ _ q=>q;lia
 rcases hx with hk|hk
 .refine ig hk hn (λ h' a4 hs=>?_) a2;obtain⟨oL,_,_,a5,_⟩:=id hn;refine h _ ⟨I.ok,I.os,I.bare,⟨λ b o e n hb hx=>?_,λ b o e n hb hx=>?_,I.base.free,λ b o e hx=>?_,I.base.tups,I.base.frzs,I.base.tbls⟩,⟨_,a4,λ j y v' e1 e2 e3=>?_⟩,λ y c e=>?_,I.free,I.freeC,λ p hp=>?_,G ⟨oL,a5,I.free⟩ hs,by simpa using I.len⟩ ⟨_,hs,.inl rfl⟩
  .exact(hs.2 b (aD (av (aI e) I.ok.above))).trans (I.base.keep b o e n hb hx)
  .obtain⟨sl,e1⟩:=I.base.slot b o e n hb hx;exact⟨sl,(hs.2 b (aD (av (aI e) I.ok.above))).trans e1⟩
  .obtain⟨o',e1⟩:=I.base.there b o e hx;exact⟨o',(hs.2 b (aD (av (aI e) I.ok.above))).trans e1⟩
  .by_cases hj:j=i
   .subst hj;rw[hi]at e1;cases e1;rw[a7 a0]at e2;cases e2;exact⟨u,r,.inl ⟨hk,by simp⟩⟩
   .rw[bq (cg hj)]at e2;obtain⟨u',r',q⟩:=hl j y v' e1 e2 e3;refine⟨u',r',?_⟩;rcases q with⟨k,e⟩|⟨k,c,e,z⟩
    .refine .inl ⟨k,?_⟩;have:y≠x:=λ e=>hj (aW3 hN e1 (e▸hi));simp[this,e]
    .exact .inr ⟨k,c,e,z.sameBut hs (cne y c e)⟩
  .obtain⟨w',z⟩:=I.cell y c e;exact⟨w',z.sameBut hs (cne y c e)⟩
  .obtain⟨e,n,ne,nf,d⟩:=I.pin p hp;exact⟨(hs.2 p.1 ne).trans e,n,ne,nf,d⟩
 .have Y:X.fn x=true:=by
   lia
  obtain⟨c,hc⟩:=I.ok.has x (.inl hk);obtain⟨w',z⟩:=I.cell x c hc;refine iu I.ok.kind hk hc z (λ h' a1 hs=>?_);obtain⟨oc,a3,Z⟩:=id z;refine h { s with heap:=h' } ⟨I.ok,I.os,I.bare,⟨λ b o e n hb hx=>?_,λ b o e n hb hx=>?_,I.base.free,λ b o e hx=>?_,I.base.tups,I.base.frzs,I.base.tbls⟩,⟨m,hn.sameBut hs (cg (cne x c hc)),λ j y v' e1 e2 e3=>?_⟩,λ y c' e=>?_,I.free,I.freeC,λ p hp=>?_,G ⟨oc,a3,I.freeC x c hc⟩ hs,by simpa using I.len⟩ ⟨c,hs,.inr hc⟩
  .exact(hs.2 b (aD (av (aI e) (I.ok.cab x c Y hc)))).trans (I.base.keep b o e n hb hx)
  .obtain⟨sl,e1⟩:=I.base.slot b o e n hb hx;exact⟨sl,(hs.2 b (aD (av (aI e) (I.ok.cab x c Y hc)))).trans e1⟩
  .obtain⟨o',e1⟩:=I.base.there b o e hx;exact⟨o',(hs.2 b (aD (av (aI e) (I.ok.cab x c Y hc)))).trans e1⟩
  .by_cases hj:j=i
   .subst hj;rw[hi]at e1;cases e1;rw[a7 a0]at e2;cases e2;exact⟨u,r,.inr ⟨.inl hk,c,hc,a1⟩⟩
   .rw[bq (cg hj)]at e2;obtain⟨u',r',q⟩:=hl j y v' e1 e2 e3;refine⟨u',r',?_⟩;rcases q with q|⟨k,c',e,z'⟩
    .exact .inl q
    .refine .inr ⟨k,c',e,z'.sameBut hs ?_⟩
     rintro rfl
     exact hj (aW3 hN e1 (I.ok.inj _ _ _ e hc▸hi))
  .by_cases hcc:c'=c
   .subst hcc;exact⟨_,a1⟩
   .obtain⟨w2,z2⟩:=I.cell y c' e;exact⟨w2,z2.sameBut hs hcc⟩
  .obtain⟨e,n,ne,nf,d⟩:=I.pin p hp;refine⟨(hs.2 p.1 ?_).trans e,n,ne,nf,d⟩
   grind
def as6 (I:Inv X pins W H s)(hN:X.N.Nodup)(G:X.N[i]?=aT x)(hx:Loc X.env.scope x)(r:RelV v u)
  (h:∀ s',Inv X pins (W.set i (aT v)) H s'->Q () s') (y:autoParam (X.fn x=cn\/X.env.scope.names.lookup x=aT .local) Zq0._auto_1):wpAny M A (fF X.env x u) Q E s :=
 aG8 I hN G hx r (λ s' J _=>h s' J) y
def Inv.call' (I:Inv X pins W H s)(ho:s'.os=s.os)(u:Un (frs X.stack) ch H H' s.heap s'.heap)(hok:HOk X.prog X.w H' s'.heap)(y:fZ s'.gens)
  (h:∀ b∈ch,(b∈X.ex\/X.s₀.heap.objs.size<=b)/\b≠X.env.locals/\(∀ x c,X.env.cells.lookup x=aT c->c≠b)/\∀ p∈X.pn++pins,p.1≠b):Inv X pins W H' s':=by
 obtain⟨h',g',d',t',G⟩:=s';have e:=ho;subst e;exact I.call u hok y h
end
abbrev XK:=Value->Option Addr->Hp->Prop
abbrev St:=List (Option V)
abbrev VK:=V->Hp->Prop
abbrev TE:=St->Hp->VK->Prop
abbrev TT:=St->Hp->(Bool->Hp->Prop)->Prop
abbrev TA:=St->Hp->(List V->Hp->Prop)->Prop
structure Ends where
 nx:St->Hp->Prop
 rt:VK
 bk:St->Hp->Prop:=λ _ _=>False
 ct:St->Hp->Prop:=λ _ _=>False
abbrev TS:=Ends->St->Hp->Prop
def EP (X:Cx)(pins:yA)(W:St)(Q:VK)(u:Value)(s':ah):Prop:=∃ v H',Inv X pins W H' s'/\RelV v u/\Q v H'
def TP (X:Cx)(pins:yA)(W:St)(Q:Bool->Hp->Prop)(b:Bool)(s':ah):Prop:=∃ H',Inv X pins W H' s'/\Q b H'
def AP (X:Cx)(pins:yA)(W:St)(Q:List V->Hp->Prop)(us:yG)(s':ah):Prop:=∃ vs H',Inv X pins W H' s'/\Vals vs us/\Q vs H'
def SP (X:Cx)(pins:yA)(D:Ends)(f:Flow)(s':ah):Prop :=
 match f with
 | .next=>∃ W' H',Inv X pins W' H' s'/\D.nx W' H'
 | .brk=>∃ W' H',Inv X pins W' H' s'/\D.bk W' H'
 | .cont=>∃ W' H',Inv X pins W' H' s'/\D.ct W' H'
 | .ret u=>∃ v W' H',Inv X pins W' H' s'/\RelV v u/\D.rt v H'
def PE (X:Cx)(e:Expr)(t:TE):Prop :=
 ∀ pins   s  (W:St)  H   Q ,Inv X pins W H s->t W H Q->wpAny (model X.prog X.w) X.A (eval e X.env) (EP X pins W Q) X.xe s
def PT (X:Cx)(e:Expr)(t:TT):Prop :=
 ∀ pins   s  (W:St)  H   Q ,Inv X pins W H s->t W H Q->wpAny (model X.prog X.w) X.A (eC e X.env (eval e X.env)) (TP X pins W Q) X.xe s
def PW (X:Cx)(e:Expr)(t:TT):Prop :=
 ∀ whole   pins   s  (W:St)  H   Q ,Inv X pins W H s->t W H Q->wpAny (model X.prog X.w) X.A (eC e X.env whole) (TP X pins W Q) X.xe s
def PW.pt (h:PW X e t):PT X e t:=h _
def PA (X:Cx)(es:yK)(t:TA):Prop :=
 ∀ pos   pins   s  (W:St)  H   Q ,Inv X pins W H s->t W H Q->wpAny (model X.prog X.w) X.A (spliced (eN pos (bh es X.env))) (AP X pins W Q) X.xe s
def PS (X:Cx)(st:Stmt)(t:TS):Prop :=
 ∀ pins   s  (W:St)  H   D ,Inv X pins W H s->t D W H->wpAny (model X.prog X.w) X.A (exec st X.env) (SP X pins D) X.xe s
def PSs (X:Cx)(st:yL)(t:TS):Prop :=
 ∀ pins   s  (W:St)  H   D ,Inv X pins W H s->t D W H->wpAny (model X.prog X.w) X.A (execs st X.env) (SP X pins D) X.xe s
def thn {M}{A}{E}{s}(h:wpAny M A t Q E s)(G:∀ a s,Q a s->y a s):wpAny M A t y E s:=cr h G λ _ _ x=>x
section
variable {X:Cx}
def bin (ha:PE X a Y)(hb:PE X b tb){W:St}{R:V->V->Hp->Prop}(I:Inv X G W H s)(h:Y W H λ x J=>tb W J λ y H2=>R x y H2)
  {f:Value->Value->Sem α}
  (hf:∀ v u s2 x y H2,Inv X G W H2 s2->RelV x v->RelV y u->R x y H2->wpAny (model X.prog X.w) X.A (f v u) Q X.xe s2) :
  wpAny (model X.prog X.w) X.A (eval a X.env) (λ v s₁=>wpAny (model X.prog X.w) X.A (eval b X.env) (λ u s₂=>wpAny (model X.prog X.w) X.A (f v u) Q X.xe s₂) X.xe s₁) X.xe s:=by
 refine thn (ha G s W H _ I h) λ v s1 ⟨x,J,I1,r1,Z⟩=>?_;refine thn (hb G s1 W J _ I1 Z) λ u s2 ⟨y,H2,I2,r2,q2⟩=>?_;exact hf v u s2 x y H2 I2 r1 r2 q2
def bI7 (i:Nat):TE:=λ W H Q=>∃ v,W[i]?=aT (aT v)/\Q v H
def tC (v:V):TE:=λ _ H Q=>Q v H
def bl6 {pos}(hN:X.N[i]?=aT x)(hv:Vis X.env.scope x)(hd:autoParam ((x==("__debug__":Str))=dt) Zq1._auto_1)(G:autoParam ((x==("__classdict__":Str))=dt) Zq1._auto_1):PE X (.Name x pos) (bI7 i):=by
 intro y s W H Q I h;refine wl λ _ kk=>?_;obtain⟨v,e,h⟩:=h;obtain⟨m,hn,hl⟩:=I.loc;obtain⟨u,r,l⟩:=hl i x v hN e hv;have fin:EP X y W Q u s:=⟨v,H,I,r,h⟩
 refine kk ?_;rcases l with⟨hk,J⟩|⟨hk,c,hc,hcell⟩
 .exact lz (iy I.ok.kind hk hn J fin) hd
 .rcases hk with hk|hk
  .exact lz (i0 I.ok.kind hk hc hcell fin) hd
  .exact lz (wpAny_loadName_free I.ok.kind hk hc hcell fin G) hd
def ce7 :PE X (.Constant (.int i) j pos) (tC (.int i)):=λ _ _ _ H _ I h=>wpAny_Constant_int ⟨.int i,H,I.tok _,⟨_,rfl⟩,h⟩
def cr0 :PE X (.Constant (.bool b) j pos) (tC (.T b)):=λ _ _ _ H _ I h=>Constant_bool ⟨.T b,H,I,rfl,h⟩
def cn7 :PE X (.Constant .none j pos) (tC .N):=λ _ _ _ H _ I h=>ka ⟨.N,H,I,rfl,h⟩
def cn3 :PE X (.Constant (.str x) j pos) (tC (.str x)):=λ _ _ _ H _ I h=>Calls.Constant_str ⟨.str x,H,I.tok _,⟨_,rfl⟩,h⟩
def Gl (X:Cx)(x:Str):Prop:=X.env.kindOf x=aT .globalImplicit
def aC9 {W:St}(I:Inv X y W H s)(G:Gl X x)(J:X.mg x=aT u)(h:Q u s)
  (hd:autoParam ((x==("__debug__":Str))=dt) Zq1._auto_1):wpAny (model X.prog X.w) X.A (eval (.Name x pos) X.env) Q E s :=
 fK I.ok.kind G (Calls.loadGlobal_global (by rw[I.ok.glob];exact I.mod.glob.keeps I.bk) J h) hd
def aA3 {E}{W:St}{pos}(I:Inv X y W H s)(G:Gl X x)(Z:X.mg x=bY)(hv:bf x=aT u)(h:Q u s)
  (hn:autoParam (x ≠ "__name__") Zq1._auto_1) (hd:autoParam ((x==("__debug__":Str))=dt) Zq1._auto_1):wpAny (model X.prog X.w) X.A (eval (.Name x pos) X.env) Q E s:=by
 obtain⟨mb,J,Y⟩:=I.mod.blt;exact fK I.ok.kind G (Calls.loadGlobal_builtin (by rw[I.ok.glob];exact I.mod.glob.keeps I.bk) Z (by rw[I.ok.blt];exact J.keeps I.bk) ((Y x hn).trans hv) h) hd
def bL7 (y:Gl X x)(G:X.mg x=aT u)(r:RelV v u)(hd:autoParam ((x==("__debug__":Str))=dt) Zq1._auto_1):PE X (.Name x pos) (tC v) :=
 λ _ _ _ H _ I h=>aC9 I y G ⟨v,H,I,r,h⟩ hd
def bV5 {pos}(y:Gl X x)(G:X.mg x=bY)(hv:bf x=aT u)(r:RelV v u)(hn:autoParam (x ≠ "__name__") Zq1._auto_1)(hd:autoParam ((x==("__debug__":Str))=dt) Zq1._auto_1):PE X (.Name x pos) (tC v) :=
 λ _ _ _ H _ I h=>aA3 I y G hv ⟨v,H,I,r,h⟩ hn hd
variable {a b:Expr} {ta tb:TE} {pos:Pos}
def PC (X:Cx)(op:CmpOp)(a b:Expr)(t:TE):Prop :=
 ∀ pins   s  (W:St)  H   Q ,Inv X pins W H s->t W H Q ->
  wpAny (model X.prog X.w) X.A (eval a X.env) (λ v s₁=>wpAny (model X.prog X.w) X.A (eval b X.env) (λ u s₂=>wpAny (model X.prog X.w) X.A (cH op v u) (EP X pins W Q) X.xe s₂) X.xe s₁) X.xe s
def aW7  b (h:op≠.In)(y:op≠.NotIn):dm op b=false:=by
 have e1:(op==CmpOp.In)=false:=by lia
 have e2:(op==CmpOp.NotIn)=false:=by lia
 cases b<;>simp[dm,e1,e2]
def cy6 (ta:TE):TE:=λ W H Q=>ta W H λ x H1=>Q (.T (decide (x=.N))) H1
def cf2 (ta:TE):TE:=λ W H Q=>ta W H λ x H1=>Q (.T (!decide (x=.N))) H1
def RelV.none_iff (r:RelV x v):(v==Value.none)=decide (x=.N):=by
 cases x with
 | N=>cases r;rfl
 | T _=>cases r;rfl
 | int _=>obtain⟨t,rfl⟩:=r;rfl
 | str _=>obtain⟨t,rfl⟩:=r;rfl
 | byt _=>obtain⟨t,rfl⟩:=r;rfl
 | flt _=>obtain⟨t,rfl⟩:=r;rfl
 | ref _=>cases r;rfl
 | ty _=>cases r;rfl
def bI5 (ha:PE X a ta):PC X .Is a (.Constant .none j pos') (cy6 ta):=by
 intro y s W H Q I h;refine thn (ha y s W H _ I h) λ v s1 ⟨x,Y,J,r1,G⟩=>?_;exact ka (is_none_gen ⟨.T _,Y,J,by rw[r1.none_iff];rfl,G⟩)
def bk6 (ha:PE X a ta):PC X .IsNot a (.Constant .none j pos') (cf2 ta):=by
 intro y s W H Q I h;refine thn (ha y s W H _ I h) λ v s1 ⟨x,Y,J,r1,G⟩=>?_;exact ka (isnot_none_gen ⟨.T _,Y,J,by rw[r1.none_iff];rfl,G⟩)
def tB (t:TE):TT:=λ W H Q=>t W H λ x H1=>∃ c,x=.T c/\Q c H1
def bG8 (h:PC X op a b t)(G:autoParam (dm op b=dt) Zq2._auto_1):PE X (.Compare a [op] [b] pos) t:=λ y s W H Q I hw=>wpAny_Compare1 (h y s W H Q I hw) G
def bE2 (h:PC X op a b t)(G:autoParam (dm op b=dt) Zq2._auto_1):PT X (.Compare a [op] [b] pos) (tB t):=by
 intro y s W H Q I hw;refine ii (thn (h y s W H _ I hw) λ v s1 G=>thn G λ u s2 Y=>thn Y λ c s3 ⟨x,H1,Z,r1,J⟩=>?_) G;obtain⟨d,rfl,q⟩:=J;cases r1;exact bI ⟨H1,Z,q⟩
def bX4 (h:PE X e t)(he:autoParam (∀ y,eC e X.env y=(do let v <- y;standAt e.pos;kH [v] (truthy v))) Zq3._auto_1):PT X e (tB t):=by
 intro G s W H Q I hw;refine isTrue_plain (thn (h G s W H _ I hw) λ v s1 ⟨x,Z,Y,r1,J⟩=>?_) (he _);obtain⟨d,rfl,q⟩:=J;cases r1;exact bI ⟨Z,Y,q⟩
variable {tA tB':TT} {rest:yK}
def cw9 (t u:TT):TT:=λ W H Q=>t W H λ c H1=>if c=cn then u W H1 Q else Q dt H1
def tOr (t u:TT):TT:=λ W H Q=>t W H λ c H1=>if c=cn then Q cn H1 else u W H1 Q
def cy0 (t:TT):TT:=λ W H Q=>t W H λ c H1=>Q (!c) H1
def bN2 (ha:PT X a tA):PW X (.BoolOp .And [a] pos) tA:=by
 intro G y s W H Q I h;refine isTrue_and (thn (ha y s W H Q I h) λ c s1 e=>?_);cases c with
 | true=>exact isTrue_and_nil e
 | false=>exact e
def cm6 (ha:PT X a tA):PW X (.BoolOp .Or [a] pos) tA:=by
 intro G y s W H Q I h;refine isTrue_or (thn (ha y s W H Q I h) λ c s1 e=>?_);cases c with
 | false=>exact isTrue_or_nil e
 | true=>exact e
def bH9 (ha:PT X a tA)(hb:PW X (.BoolOp .And (b::rest) pos) tB'):PW X (.BoolOp .And (a::b::rest) pos) (cw9 tA tB'):=by
 intro Z y s W H Q I h;refine isTrue_and (thn (ha y s W H _ I h) λ c s1 ⟨Y,J,G⟩=>?_);cases c with
 | true=>exact hb Z y s1 W Y Q J G
 | false=>exact⟨Y,J,G⟩
def cj1 (ha:PT X a tA)(hb:PW X (.BoolOp .Or (b::rest) pos) tB'):PW X (.BoolOp .Or (a::b::rest) pos) (tOr tA tB'):=by
 intro Z y s W H Q I h;refine isTrue_or (thn (ha y s W H _ I h) λ c s1 ⟨Y,J,G⟩=>?_);cases c with
 | true=>exact⟨Y,J,G⟩
 | false=>exact hb Z y s1 W Y Q J G
def ck9 (ha:PT X a tA):PT X (.UnaryOp .Not a pos) (cy0 tA):=by
 intro y s W H Q I h;exact isTrue_not (ha y s W H (λ c G=>Q (!c) G) I h)
def cg5 (ta tb:TE):TE:=λ W H Q=>ta W H λ x H1=>∃ c,x=.T c/\if c=cn then tb W H1 Q else Q (.T dt) H1
def cy9 (ta tb:TE):TE:=λ W H Q=>ta W H λ x H1=>∃ c,x=.T c/\if c=cn then Q (.T cn) H1 else tb W H1 Q
def cb5 (ta:TE):TE:=λ W H Q=>ta W H λ x H1=>∃ c,x=.T c/\Q (.T (!c)) H1
def bI0 (h:PE X a t):PE X (.BoolOp op [a] pos) t:=λ y s W H Q I hw=>BoolOp_one (h y s W H Q I hw)
def bF7 (ha:PE X a ta)(hb:PE X (.BoolOp .And (b::rest) pos) tb):PE X (.BoolOp .And (a::b::rest) pos) (cg5 ta tb):=by
 intro y s W H Q I h;refine BoolOp_and (thn (ha y s W H _ I h) λ v s1 ⟨x,Y,J,r1,G⟩=>?_);obtain⟨c,rfl,G⟩:=G;cases r1;refine bI ?_;cases c with
 | true=>exact hb y s1 W Y Q J G
 | false=>exact⟨.T dt,Y,J,rfl,G⟩
def cc5 (ha:PE X a ta)(hb:PE X (.BoolOp .Or (b::rest) pos) tb):PE X (.BoolOp .Or (a::b::rest) pos) (cy9 ta tb):=by
 intro y s W H Q I h;refine BoolOp_or (thn (ha y s W H _ I h) λ v s1 ⟨x,Y,J,r1,G⟩=>?_);obtain⟨c,rfl,G⟩:=G;cases r1;refine bI ?_;cases c with
 | false=>exact hb y s1 W Y Q J G
 | true=>exact⟨.T cn,Y,J,rfl,G⟩
def cc0 (ha:PE X a ta):PE X (.UnaryOp .Not a pos) (cb5 ta):=by
 intro y s W H Q I h;refine UnaryOp_ (thn (ha y s W H _ I h) λ v s1 ⟨x,Y,J,r1,G⟩=>?_);obtain⟨c,rfl,G⟩:=G;cases r1;exact not_of (bI ⟨.T (!c),Y,J,rfl,G⟩)
def tIf (t:TT)(ta tb:TE):TE:=λ W H Q=>t W H λ c H1=>if c=cn then ta W H1 Q else tb W H1 Q
def bw9 (hc:PT X c tA)(ha:PE X a ta)(hb:PE X b tb):PE X (.IfExp c a b pos) (tIf tA ta tb):=by
 intro y s W H Q I h;refine wpAny_IfExp (thn (hc y s W H _ I h) λ d s1 ⟨Y,J,G⟩=>?_);cases d with
 | true=>exact ha y s1 W Y Q J G
 | false=>exact hb y s1 W Y Q J G
end
def SqL (K:af)(H:Hp)(a:Addr)(xs:List V):Prop :=
 Rd H a (.J xs) \/
  ∃(o:Obj) (its:yJ) (n:Nat),K.lookup a=aT o/\o.cls=.type "list"/\o.dict=bY/\o.data=.seq its n/\its.size<=aR/\Vals xs its.toList
def SqT (K:af)(H:Hp)(a:Addr)(xs:List V):Prop :=
 Rd H a (.tp xs) \/
  ∃(o:Obj) (its:yJ) (n:Nat),K.lookup a=aT o/\o.cls=.type "tuple"/\o.data=.seq its n/\its.size<=aR/\Vals xs its.toList
noncomputable def cB1:Value->Option V
 | .none=>aT .N
 | .bool b=>aT (.T b)
 | .int i _=>aT (.int i)
 | .str x _=>aT (.str x)
 | .bytes b _=>aT (.byt b)
 | .float b _=>aT (.flt b)
 | .ref a=>aT (.ref a)
 | .type n=>aT (.ty n)
 | _=>bY
def RelV.abs (r:RelV x u):cB1 u=aT x:=by
 cases x with
 | N=>cases r;rfl
 | T _=>cases r;rfl
 | int _=>obtain⟨t,rfl⟩:=r;rfl
 | str _=>obtain⟨t,rfl⟩:=r;rfl
 | byt _=>obtain⟨t,rfl⟩:=r;rfl
 | flt _=>obtain⟨t,rfl⟩:=r;rfl
 | ref _=>cases r;rfl
 | ty _=>cases r;rfl
def RelV.inj (r:RelV x u)(q:RelV y u):x=y:=aq (r.abs.symm.trans q.abs)
theorem Vals.inj:∀ {h ys} {us:yG},Vals h us->Vals ys us->h=ys
 | _,_,_,.nil,.nil=>rfl
 | _,_,_,.cons r t,.cons r' t'=>by rw[r.inj r',Vals.inj t t']
section
variable {X:Cx} {pins:yA} {W:St} {H:Hp} {s:ah} {a:Addr} {xs ys:List V}
def SqL.of {K}(h:H a=aT (.J xs)):SqL K H a xs:=.inl (.inl h)
def SqT.of {K}(h:H a=aT (.tp xs)):SqT K H a xs:=.inl (.inl h)
def Inv.list (I:Inv X pins W H s)(h:SqL X.K H a xs):∃ its,Vals xs its/\PlainL s.heap a its.toArray/\xs.length<=aR:=by
 rcases h with h|⟨o,its,n,hk,hc,hd,hs,hz,r⟩
 .obtain⟨z,its,n,r,e⟩:=h.ok I.hok;exact⟨its,r,⟨_,n,e,rfl,rfl,rfl⟩,z⟩
 .refine⟨its.toList,r,⟨o,n,I.kIn a o hk,hc,hd,by simp_all⟩,?_⟩;have e:=r.length
  simp_all
def Inv.tuple (I:Inv X pins W H s)(h:SqT X.K H a xs):∃ its,Vals xs its/\IsTup s.heap a its.toArray/\xs.length<=aR:=by
 rcases h with h|⟨o,its,n,hk,hc,hs,hz,r⟩
 .obtain⟨z,its,r,p⟩:=h.ok I.hok
  grind
 .refine⟨its.toList,r,⟨o,I.kIn a o hk,hc,n,by simp_all⟩,?_⟩;have e:=r.length
  simp_all
def Inv.list_inj (I:Inv X pins W H s)(h:SqL X.K H a xs)(h':SqL X.K H a ys):xs=ys:=by
 obtain⟨its,r,⟨o,n,e,_,_,d⟩,_⟩:=I.list h;obtain⟨its',y,⟨J,G,e',_,_,d'⟩,_⟩:=I.list h';rw[e]at e';cases e';rw[d]at d';injection d' with d1 _;have:=by simpa using congrArg kI d1
 subst this;exact r.inj y
def Inv.tuple_inj (I:Inv X pins W H s)(h:SqT X.K H a xs)(h':SqT X.K H a ys):xs=ys:=by
 obtain⟨its,r,⟨o,e,_,n,d⟩,_⟩:=I.tuple h;obtain⟨its',y,⟨J,e',_,G,d'⟩,_⟩:=I.tuple h';rw[e]at e';cases e';rw[d]at d';injection d' with d1 _;have:=by simpa using congrArg kI d1
 subst this;exact r.inj y
end
noncomputable abbrev Cx.wish (X:Cx)(E:Value->ah->Prop):Cx:={ X with xe:=E }
noncomputable abbrev Cx.nox (X:Cx):Cx:=X.wish λ _ _=>False
theorem Cx.Ok.wish {X:Cx}(ok:X.Ok)(E:Value->ah->Prop):(X.wish E).Ok :=
 ⟨ok.mod,ok.kind,ok.glob,ok.blt,ok.above,ok.inj,ok.has,ok.cab,ok.hd,ok.frames,ok.stk,ok.exf,ok.bs,ok.bsz,ok.noex,ok.exfs,ok.funs,ok.frf⟩
def Cx.Ok.unwish {X:Cx}{E:Value->ah->Prop}(ok:(X.wish E).Ok):X.Ok :=
 ⟨ok.mod,ok.kind,ok.glob,ok.blt,ok.above,ok.inj,ok.has,ok.cab,ok.hd,ok.frames,ok.stk,ok.exf,ok.bs,ok.bsz,ok.noex,ok.exfs,ok.funs,ok.frf⟩
section
variable {X:Cx} {pins:yA} {W:St} {H:Hp} {s:ah} {E:Value->ah->Prop}
theorem Inv.wish (I:Inv X pins W H s)(E:Value->ah->Prop):Inv (X.wish E) pins W H s:=⟨I.ok.wish E,I.os,I.bare,I.base,I.loc,I.cell,I.free,I.freeC,I.pin,I.hok,I.len⟩
theorem Inv.unwish (I:Inv (X.wish E) pins W H s):Inv X pins W H s:=⟨I.ok.unwish,I.os,I.bare,I.base,I.loc,I.cell,I.free,I.freeC,I.pin,I.hok,I.len⟩
theorem SP.unwish (h:SP (X.wish E) pins D f s'):SP X pins D f s':=by
 cases f with
 | next=>obtain⟨W',H',I,q⟩:=h;exact⟨W',H',I.unwish,q⟩
 | brk=>obtain⟨W',H',I,q⟩:=h;exact⟨W',H',I.unwish,q⟩
 | cont=>obtain⟨W',H',I,q⟩:=h;exact⟨W',H',I.unwish,q⟩
 | ret u=>obtain⟨v,W',H',I,r,q⟩:=h;exact⟨v,W',H',I.unwish,r,q⟩
theorem PSs.nox {st}(h:PSs X.nox st t):PSs X st t:=λ y s W H D I hw =>
 cr (h y s W H D (I.wish _) hw) (λ _ _ q=>q.unwish) λ _ _ z=>bG z
end
section
variable {X:Cx} {st:Stmt} {rest:yL} {t u:TS} {e:Expr} {te:TE} {pos:Pos}
def ce1:TS:=λ D W H=>D.nx W H
noncomputable def cx0 (t u:TS):TS:=λ D W H=>t { D with nx:=u D } W H
def aP7:PSs X [] ce1:=λ _ _ W H _ I h=>hZ ⟨W,H,I,h⟩
set_option tactic.hygienic true in
def as0 (J:PS X st t)(G:PSs X rest u):PSs X (st::rest) (cx0 t u):=by
 intro y s W H D I h;refine wpAny_execs_cons (thn (J y s W H { D with nx:=u D } I h) λ f s1 q=>?_);cases f with
 | next =>
  obtain⟨W',H',Y,q⟩:=q;exact G y s1 W' H' D Y q
 | ret v=>exact q
 | brk=>exact q
 | cont=>exact q
def Inv.quiet {W:St}(I:Inv X h W H s):interactive X.env=false:=by simp[interactive,I.ok.kind]
def cg1 (te:TE):TS:=λ D W H=>te W H λ _ H1=>D.nx W H1
def bP8 (Z:PE X e te)(hs:autoParam (fG e bY pos.line X.env=pure dt) Zq4._auto_1):PS X (.Expr e pos) (cg1 te):=by
 intro y s W H D I h;exact wpAny_Expr_any (thn (Z y s W H _ I h) λ v s1 ⟨x,Y,J,r1,G⟩=>⟨W,Y,J,G⟩) I.quiet hs
def cz2 (te:TE):TS:=λ D W H=>te W H D.rt
def bi9 (Z:PE X e te):PS X (.Return (aT e) pos) (cz2 te):=by
 intro y s W H D I h;exact wpAny_Return_some (thn (Z y s W H _ I h) λ v s1 ⟨x,Y,J,r1,G⟩=>⟨x,W,Y,J,r1,G⟩)
def cx7 (c:TT)(t u:TS):TS:=λ D W H=>c W H λ b H1=>if b=cn then t D W H1 else u D W H1
def cq4 (hc:PT X c Y)(ha:PSs X a t)(hb:PSs X b u):PS X (.If c a b pos) (cx7 Y t u):=by
 intro y s W H D I h;refine wpAny_If (thn (hc y s W H _ I h) λ d s1 ⟨Z,J,G⟩=>?_);cases d with
 | true=>exact ha y s1 W Z D J G
 | false=>exact hb y s1 W Z D J G
def cg3:TS:=λ _ _ _=>False
def bC8:PS X st cg3:=λ _ _ _ _ _ _ h=>h.elim
end
abbrev TG:=V->St->Hp->(St->Hp->Prop)->Prop
abbrev TGs:=List V->St->Hp->(St->Hp->Prop)->Prop
def PG (X:Cx)(target:Expr)(t:TG):Prop :=
 ∀ pins   s  (W:St)  H   v   u   Q ,Inv X pins W H s->RelV v u->t v W H Q ->
  wpAny (model X.prog X.w) X.A (gN target X.env u) (λ _ s'=>∃ W' H',Inv X pins W' H' s'/\Q W' H') X.xe s
def PGs (X:Cx)(ts:yK)(t:TGs):Prop :=
 ∀ pins   s  (W:St)  H   vs  (us:yG)  Q ,Inv X pins W H s->Vals vs us->t vs W H Q ->
  wpAny (model X.prog X.w) X.A (assignInOrder ((cX ts X.env).map (·.2)) us) (λ _ s'=>∃ W' H',Inv X pins W' H' s'/\Q W' H') X.xe s
abbrev co2:=V->V->V->Hp->(Hp->Prop)->Prop
def ct0 (X:Cx)(t:co2):Prop :=
 ∀ pins   s  (W:St)  H   o i v   ov iv u   Q ,Inv X pins W H s->RelV o ov->RelV i iv->RelV v u->t o i v H Q ->
  wpAny (model X.prog X.w) X.A (setItem ov iv u) (λ _ s'=>∃ H',Inv X pins W H' s'/\Q H') X.xe s
abbrev TIp:=V->V->Hp->VK->Prop
def PIp (X:Cx)(op:lA)(t:TIp):Prop :=
 ∀ pins   s  (W:St)  H   x y   v u   Q ,Inv X pins W H s->RelV x v->RelV y u->t x y H Q ->
  wpAny (model X.prog X.w) X.A (inplaceOp op v u) (EP X pins W Q) X.xe s
section
variable {X:Cx} {pos:Pos}
def aH6 (i:Nat):TG:=λ v W H Q=>Q (W.set i (aT v)) H
def bl9 (hN:X.N.Nodup)(J:X.N[i]?=aT x)(hx:Loc X.env.scope x)(G:autoParam (X.fn x=cn\/X.env.scope.names.lookup x=aT .local) Zq0._auto_1):PG X (.Name x pos) (aH6 i):=by
 intro y s W H v u Q I r h;exact kJ (as6 I hN J hx r (λ s' Y=>⟨_,H,Y,h⟩) G)
def cy4:TGs:=λ vs W H Q=>vs=[]/\Q W H
def cn4 (t:TG)(u:TGs):TGs:=λ vs W H Q=>∃ v r,vs=v::r/\t v W H λ W' H'=>u r W' H' Q
def bQ4:PGs X [] cy4:=by
 intro y s W H vs us Q I r h;obtain⟨e,h⟩:=h;subst e;cases r;exact assignInOrder_nil ⟨W,H,I,h⟩
def bA1 (G:PG X e t)(Z:PGs X es u)
  (hs:autoParam ((cX (e::es) X.env).map (·.2)=gN e X.env::(cX es X.env).map (·.2)) Zq4._auto_1):PGs X (e::es) (cn4 t u):=by
 intro y s W H vs us Q I r h;obtain⟨v,vr,e1,h⟩:=h;subst e1;cases r with
 | cons r rr =>
  rw[hs];refine assignInOrder_cons (thn (G y s W H _ _ _ I r h) λ _ s1 ⟨W1,H1,Y,J⟩=>?_);exact Z y s1 W1 H1 _ _ Q Y rr J
def ct5 (K:af)(n:Nat)(t:TGs):TG:=λ v W H Q=>∃ a xs,v=.ref a/\SqT K H a xs/\xs.length=n/\t xs W H Q
def bZ4 {k}(hc:X.calm=cn)(h:PGs X es t)
  (hn:autoParam ((cX es X.env).length=n) Zq4._auto_1) (G:autoParam ((cX es X.env).findIdx? (·.1)=bY) Zq4._auto_1):PG X (.Tuple es k pos) (ct5 X.K n t):=by
 intro y s W H v u Q I r hw;refine wl λ _ kk=>?_;obtain⟨a,Z,e1,hq,hl,hw⟩:=hw;subst e1;cases r;obtain⟨its,J,ht,hz⟩:=I.tuple hq;refine kk ?_;refine assign_Tuple_tuple (I.ok.hd hc) ht (by simp[hn,<-hl,J.length]) G λ h' hx=>?_;have Y:=I.kept (t':=s.toks) λ b o e=>hx b o (aD (aI e)) e;exact h y _ W H Z _ Q Y (by simp_all) hw
def cw8 (to ti:TE)(t:co2):TG:=λ v W H Q=>to W H λ o H1=>ti W H1 λ i H2=>t o i v H2 λ H3=>Q W H3
def ca0 (ho:PE X o to)(hi:PE X i Z)(hs:ct0 X t)
  (ha:autoParam (∀ v,gN (.Subscript o i pos) X.env v=(do
   let J <- kH [v] (eval o X.env)
   let Y <- kH [v,J] (eval i X.env)
   standAt pos
   kH [v,J,Y] (setItem J Y v)
   release [v,J,Y] [])) Zq3._auto_1):PG X (.Subscript o i pos) (cw8 to Z t):=by
 intro G s W H v u Q I r h;rw[ha];refine al (dL (thn (ho G s W H _ I h) λ J s1 ⟨x,H1,I1,r1,q1⟩=>?_));refine al (dL (thn (hi G s1 W H1 _ I1 q1) λ Y s2 ⟨y,H2,I2,r2,q2⟩=>?_));refine al (kb (al (dL (thn (hs G s2 W H2 x y v J Y u _ I2 r1 r2 r q2) λ _ s3 ⟨H3,I3,q3⟩=>?_))));exact wpAny_release ⟨W,H3,I3,q3⟩
def bz9 (te:TE)(g:TG):TS:=λ D W H=>te W H λ x H1=>g x W H1 D.nx
def bH5 (he:PE X e G)(Y:PG X tg g)(hs:autoParam (swapsWithSole [tg] e pos.line X.env=pure dt) Zq4._auto_1)(hw:autoParam (ke [tg] e X.env=pure bY) Zq4._auto_1)
  (Z:autoParam ((cX [tg] X.env).map (·.2)=[gN tg X.env]) Zq4._auto_1):PS X (.Assign [tg] e pos) (bz9 G g):=by
 intro y s W H D I h;refine wpAny_Assign_stores (thn (he y s W H _ I h) λ v s1 ⟨x,H1,I1,r1,J⟩=>?_) hs hw;rw[Z];exact thn (Y y s1 W H1 x v _ I1 r1 J) λ _ s2 q=>q
def bI2 (hN:X.N.Nodup)(hi:X.N[i]?=aT x)(hx:Loc X.env.scope x)(he:PE X e Y)(hs:autoParam (fG e (aT (.Name x G)) pos.line X.env=pure dt) Zq4._auto_1)(hf:autoParam (X.fn x=cn\/X.env.scope.names.lookup x=aT .local) Zq0._auto_1) :
  PS X (.Assign [.Name x G] e pos) (bz9 Y (aH6 i)):=by
 intro J s W H D I h;refine wpAny_Assign_Name (thn (he J s W H _ I h) λ v s1 ⟨y,H1,I1,r1,Z⟩=>?_) hs;exact as6 I1 hN hi hx r1 (λ s2 I2=>⟨_,H1,I2,Z⟩) hf
def cy3 (i:Nat)(te:TE)(ti:TIp):TS:=λ D W H=>∃ x,W[i]?=aT (aT x)/\te W H λ y H1=>ti x y H1 λ z H2=>D.nx (W.set i (aT z)) H2
def cg9 (hN:X.N.Nodup)(hi:X.N[i]?=aT x)(hx:Loc X.env.scope x)(he:PE X e Y)(ho:PIp X op Z)(hf:autoParam (X.fn x=cn\/X.env.scope.names.lookup x=aT .local) Zq0._auto_1) :
  PS X (.AugAssign (.Name x J) op e pos) (cy3 i Y Z):=by
 intro G s W H D I h;refine wl λ _ kk=>?_;obtain⟨v,e1,h⟩:=h;obtain⟨m,hn,hl⟩:=I.loc;have vis:Vis X.env.scope x:=by rcases hx with k|k;exact .inl k;exact .inr (.inl k)
 obtain⟨u,r,l⟩:=hl i x v hi e1 vis;refine kk ?_;refine wpAny_AugAssign_Name ?_;have go:wpAny (model X.prog X.w) X.A (eval e X.env) (λ w s₂=>wpAny (model X.prog X.w) X.A (inplaceOp op u w) (λ r s₃=>wpAny (model X.prog X.w) X.A (fF X.env x r) (λ _=>SP X G D .next) X.xe s₃) X.xe s₂) X.xe s:=by
  refine thn (he G s W H _ I h) λ w s1 ⟨y,H1,I1,r1,q1⟩=>?_;refine thn (ho G s1 W H1 v y u w _ I1 r r1 q1) λ z s2 ⟨zv,H2,I2,r2,q2⟩=>?_;exact as6 I2 hN hi hx r2 (λ s3 I3=>⟨_,H2,I3,q2⟩) hf
 rcases l with⟨hk,hm⟩|⟨hk,c,hc,hcell⟩
 .exact iy I.ok.kind hk hn hm go
 .rcases hk with hk|hk
  .exact i0 I.ok.kind hk hc hcell go
  .rcases hx with k|k
   .have:X.env.scope.names.lookup x=aT .free:=hk
    simp_all
   .have:X.env.scope.names.lookup x=aT .free:=hk
    simp_all
def ipI (f:Int->Int->Int):TIp:=λ x y H Q=>∃ i j,x=.int i/\y=.int j/\Q (.int (f i j)) H
def bZ1:PIp X .Add (ipI λ i j=>i+j):=by
 intro G s W H x y v u Q I r1 J h;obtain⟨i,j,e1,e2,q⟩:=h;subst e1;subst e2;obtain⟨t,rfl⟩:=r1;obtain⟨t',rfl⟩:=J;exact iadd_int ⟨.int _,H,I.tok _,⟨_,rfl⟩,q⟩
end
section
variable {X:Cx} {pos:Pos}
def bF0 (c:TT)(tb:TS):TS:=λ D W H=>∃ Ww:Nat->St->Hp->Prop,(∃ m,Ww m W H)/\∀ m W H,Ww m W H ->
 c W H λ b H1=>if b=cn then ∃ N,(∀ W' H',N W' H'->∃ m',m'<m/\Ww m' W' H')/\tb { D with nx:=N,ct:=N,bk:=D.nx } W H1 else D.nx W H1
set_option tactic.hygienic true in
def bB5 (hp:PassesOwn (model X.prog X.w) X.A X.env X.xe)(hc:PT X c tc)(hb:PSs X body tb):PS X (.While c body [] pos) (bF0 tc tb):=by
 intro y s W H D I h;obtain⟨Ww,⟨m0,w0⟩,turn⟩:=h;refine wpAny_While (codeAny_whileLoop (λ n s'=>∃ W' H',Inv X y W' H' s'/\Ww n W' H') ?_ m0 ⟨W,H,I,w0⟩)
 rintro n s1 ⟨W1,H1,I1,w1⟩
 refine c8 hp (thn (hc y s1 W1 H1 _ I1 (turn n W1 H1 w1)) λ b s2 ⟨H2,I2,q2⟩=>?_);cases b with
 | true =>
  obtain⟨N,hN,q2⟩:=q2;rw[gc rfl];refine c8 hp (thn (hb y s2 W1 H2 _ I2 q2) λ f s3 q3=>?_);cases f with
  | next =>
   obtain⟨W3,G,I3,J⟩:=q3;obtain⟨m',Z,Y⟩:=hN W3 G J;exact⟨m',Z,W3,G,I3,Y⟩
  | cont =>
   obtain⟨W3,G,I3,J⟩:=q3;obtain⟨m',Z,Y⟩:=hN W3 G J;exact⟨m',Z,W3,G,I3,Y⟩
  | brk=>exact q3
  | ret v=>exact q3
 | false =>
  rw[gn aS];exact hZ ⟨W1,H2,I2,q2⟩
end
structure It where
 go:Nat->Hp->Prop
 yld:Nat->Hp->V->Hp->Prop
 stop:Nat->Hp->Prop
def FpOk (X:Cx)(pins:yA)(H:Hp)(b:Addr):Prop :=
 H b=bY/\b≠X.env.locals/\b ∉ X.fs/\(b∈X.ex\/X.s₀.heap.objs.size<=b)/\(∀ x c,X.env.cells.lookup x=aT c->c≠b)/\∀ p∈X.pn++pins,p.1≠b
def Inv.fpOk {W:St}{b:Addr}(I:Inv X h W H s)(hb:s.heap.objs.size<=b)(hn:H' b=bY):FpOk X h H' b:=by
 refine⟨hn,cS (av I.lt hb),I.nofs hb,.inr (am I.sz hb),λ x c e z=>?_,λ p y z=>?_⟩
 .obtain⟨v,q⟩:=I.cell x c e;exact iF (av q.lt (by rw[z];exact hb)) (bj _)
 .exact iF (av (aI (I.pin p y).1) (by rw[z];exact hb)) (bj _)
structure Turn (P:aK)(w:World)(K:af)(tg:Expr)(J:It)(fp:List Addr)(it:Addr)(tn:Nat->Heap->Prop):Prop where
 mem:it∈fp
 obj:∀ i h,tn i h->∀ b∈fp,∃ o,h.get? b=aT o/\∀ v,o.data≠.cell v
 keep:∀ i h h',tn i h->(∀ b∈fp,∀ o,h.get? b=aT o->h'.get? b=aT o)->tn i h'
 item:∀(X:Cx),X.prog=P->X.w=w->X.K=K->X.calm=cn->∀(i:Nat) (pins:yA) (s:ah) (W:St) (H:Hp) (E:Value->ah->Prop),Inv X pins W H s->(∀ b∈fp,FpOk X pins H b)->tn i s.heap->J.go i H ->
  wpAny (model P w) X.A (iz (.ref it)) (λ r s1=>∃ u,r=aT u /\
   wpAny (model P w) X.A (fq tg (.ref it) u) (λ _ s2=>∃ x H',Inv X pins W H' s2/\RelV x u/\J.yld i H x H'/\tn (i+1) s2.heap/\∀ b∈fp,H' b=bY) E s1) E s
 done:∀(X:Cx),X.prog=P->X.w=w->X.K=K->X.calm=cn->∀(i:Nat) (pins:yA) (s:ah) (W:St) (H:Hp) (E:Value->ah->Prop),Inv X pins W H s->(∀ b∈fp,FpOk X pins H b)->tn i s.heap->J.stop i H ->
  wpAny (model P w) X.A (iz (.ref it)) (λ r s1=>r=bY/\Inv X pins W H s1) E s
 self:∀(A:aW) (i:Nat) (s:ah) (Q:Value->ah->Prop) (E:Value->ah->Prop),tn i s.heap->Q (.ref it) s->wpAny (model P w) A (kW (.ref it)) Q E s
abbrev TI:=St->Hp->(It->Hp->Prop)->Prop
def PIE (X:Cx)(pins:yA)(W:St)(tg:Expr)(R:It->Hp->Prop)(itv:Value)(s2:ah):Prop :=
 ∃(it:Addr) (fp:List Addr) (tn:Nat->Heap->Prop) (J:It) (H':Hp),itv=.ref it/\Inv X pins W H' s2/\Turn X.prog X.w X.K tg J fp it tn/\tn 0 s2.heap/\(∀ b∈fp,FpOk X pins H' b)/\R J H'
def PI (X:Cx)(tg iter:Expr)(wi:TI):Prop :=
 ∀ pins   s  (W:St)  H   R ,Inv X pins W H s->wi W H R ->
  wpAny (model X.prog X.w) X.A (eval iter X.env) (λ v s1=>wpAny (model X.prog X.w) X.A (kW v) (PIE X pins W tg R) X.xe s1) X.xe s
def bz4 (ho : s.heap.get? it = aT o) (hc : o.cls = .type n) (hd : o.data = .fields vs)
    (hn : ["enumerate", "zip", "dict_itemiterator", "dict_reverseitemiterator", "odict_iterator", "itertools.zip_longest", "itertools.pairwise"].contains n = dt) (hQ : Q () s) : wpAny M A (fq tg (.ref it) u) Q E s := by
  unfold fq;cases tg <;> first
    | exact aF hQ
    | (cases u <;> first
        | exact aF hQ
        | (refine al (wpAny_load ho ?_)
           rw[hc, hd];show wpAny M A (if(["enumerate", "zip", "dict_itemiterator", "dict_reverseitemiterator", "odict_iterator", "itertools.zip_longest", "itertools.pairwise"].contains n && vs[0]? == aT (cL _)) = cn then _ else _) Q E s;rw[gn (by lia)];exact aF hQ))
noncomputable def Itl (K:af)(a:Addr):It :=
 ⟨λ i H=>∃ xs x,SqL K H a xs/\xs[i]?=aT x,λ i H x H'=>H'=H/\∀ xs,SqL K H a xs->xs[i]?=aT x,λ i H=>∃ xs,SqL K H a xs/\xs.length<=i⟩
noncomputable def Itt (K:af)(a:Addr):It :=
 ⟨λ i H=>∃ xs x,SqT K H a xs/\xs[i]?=aT x,λ i H x H'=>H'=H/\∀ xs,SqT K H a xs->xs[i]?=aT x,λ i H=>∃ xs,SqT K H a xs/\xs.length<=i⟩
noncomputable def Itr (lo:Int)(n:Nat):It:=⟨λ i _=>i<n,λ i H x H'=>H'=H/\x=.int (lo+i),λ i _=>n<=i⟩
def bt4 {K} a it :Turn P w K tg (Itl K a) [it] it (λ i h=>h.IsListIter it a i) where
 mem:=by simp
 obj:=λ i h st b hb=>by
  have e:=by simpa using hb
  subst e;obtain⟨o,e,c,d⟩:=st;exact⟨o,e,λ v z=>by rw[d]at z;cases z⟩
 keep:=λ i h h' st k=>st.at λ o e=>k it (by simp) o e
 item:=by
  intro X hP hw hK hc i y s W H E I J st hg;subst hP hw hK;obtain⟨xs,x,hq,hx⟩:=hg;obtain⟨its,Z,p,hz⟩:=I.list hq;obtain⟨u,hu,ru⟩:=Z.get hx;obtain⟨Y,f1,f2,f3,f4,f5⟩:=J it (by simp);refine wpAny_pyNext_list_item st p.isList (by simpa using hu) λ h' G sb=>?_;have I1:=I.turned (t':=s.toks) (λ b o hb e=>(sb.2 b hb).trans e) Y f1 f3 f4 f5;obtain⟨o,e,c,d⟩:=id G;exact⟨u,rfl,bz4 e c d (by decide) ⟨x,H,I1,ru,⟨rfl,λ ys hy=>by rw[I.list_inj hy hq];exact hx⟩,G,λ b hb=>(J b hb).1⟩⟩
 done:=by
  intro X hP hw hK hc i y s W H E I J st hg;subst hP hw hK;obtain⟨xs,hq,hx⟩:=hg;obtain⟨its,Z,p,hz⟩:=I.list hq;obtain⟨Y,f1,f2,f3,f4,f5⟩:=J it (by simp);have hl:=Z.length;exact wpAny_pyNext_list_end (I.ok.hd hc) st p.isList (by simp;lia) λ h' eb=>⟨rfl,I.turned (λ b o hb e=>eb b o hb e) Y f1 f3 f4 f5⟩
 self:=λ _ _ _ _ _ st h=>wpAny_pyIter_listiter st h
def ba9 {K} a it :Turn P w K tg (Itt K a) [it] it (λ i h=>h.IsTupleIter it a i) where
 mem:=by simp
 obj:=λ i h st b hb=>by
  have e:=by simpa using hb
  subst e;obtain⟨o,e,c,d⟩:=st;exact⟨o,e,λ v z=>by rw[d]at z;cases z⟩
 keep:=λ i h h' st k=>st.at λ o e=>k it (by simp) o e
 item:=by
  intro X hP hw hK hc i y s W H E I J st hg;subst hP hw hK;obtain⟨xs,x,hq,hx⟩:=hg;obtain⟨its,Z,p,hz⟩:=I.tuple hq;obtain⟨u,hu,ru⟩:=Z.get hx;obtain⟨Y,f1,f2,f3,f4,f5⟩:=J it (by simp);refine wpAny_pyNext_tuple_item st (p) (by simpa using hu) λ h' G sb=>?_;have I1:=I.turned (t':=s.toks) (λ b o hb e=>(sb.2 b hb).trans e) Y f1 f3 f4 f5;obtain⟨o,e,c,d⟩:=id G;exact⟨u,rfl,bz4 e c d (by decide) ⟨x,H,I1,ru,⟨rfl,λ ys hy=>by rw[I.tuple_inj hy hq];exact hx⟩,G,λ b hb=>(J b hb).1⟩⟩
 done:=by
  intro X hP hw hK hc i y s W H E I J st hg;subst hP hw hK;obtain⟨xs,hq,hx⟩:=hg;obtain⟨its,Z,p,hz⟩:=I.tuple hq;obtain⟨Y,f1,f2,f3,f4,f5⟩:=J it (by simp);have hl:=Z.length;exact wpAny_pyNext_tuple_end (I.ok.hd hc) st (p) (by simp;omega) λ h' eb=>⟨rfl,I.turned (λ b o hb e=>eb b o hb e) Y f1 f3 f4 f5⟩
 self:=λ _ _ _ _ _ st h=>wpAny_pyIter_tupleiter st h
def aZ8 {K} it  Y  n :Turn P w K tg (Itr Y n) [it] it (λ i h=>IsRangeIter h it (Y+(i)*1) ((n) - (i)) 1) where
 mem:=by simp
 obj:=λ i h st b hb=>by
  simp_all
 keep:=λ i h h' st k=>k it (by simp) _ st
 item:=by
  intro X hP hw hK hc i y s W H E I J st hg;subst hP hw hK;obtain⟨Z,f1,f2,f3,f4,f5⟩:=J it (by simp);have Ww:=Walks.range (prog:=X.prog) (w:=X.w) (I.ok.hd hc) it Y 1 n;refine Ww.item i s _ _ hg st λ v h' tk hv G kk=>?_;obtain⟨t,rfl⟩:=hv;have I1:Inv X y W H { s with heap:=h',toks:=tk }:=I.turned (λ b o hb e=>kk b o (by simp_all) e) Z f1 f3 f4 f5;refine⟨_,rfl,bz4 G rfl rfl (by decide) ⟨.int (Y+i),H,I1,⟨t,?_⟩,⟨rfl,rfl⟩,G,λ b hb=>(J b hb).1⟩⟩;lia
 done:=by
  intro X hP hw hK hc i y s W H E I J st hg;subst hP hw hK;obtain⟨Z,f1,f2,f3,f4,f5⟩:=J it (by simp);exact wpAny_pyNext_range_end (I.ok.hd hc) st (by have:n<=i:=hg;lia) λ h' eb=>⟨rfl,I.turned (λ b o hb e=>eb b o hb e) Z f1 f3 f4 f5⟩
 self:=λ _ _ _ _ _ st h=>wpAny_pyIter_rangeiter st h
section
variable {X:Cx} {tg:Expr}
def bU4 (K:af)(tl:TE):TI:=λ W H R=>tl W H λ x H1=>∃ a,x=.ref a/\(∃ xs,SqL K H1 a xs)/\R (Itl K a) H1
def cw5 (K:af)(tl:TE):TI:=λ W H R=>tl W H λ x H1=>∃ a,x=.ref a/\(∃ xs,SqT K H1 a xs)/\R (Itt K a) H1
def bK4 (hl:PE X l J):PI X tg l (bU4 X.K J):=by
 intro y s W H R I h;refine thn (hl y s W H _ I h) λ v s1 ⟨x,Z,G,r1,Y⟩=>?_;refine wl λ _ kk=>?_;obtain⟨a,e,⟨xs,hq⟩,q⟩:=Y;subst e;cases r1;obtain⟨its,rv,p,hz⟩:=G.list hq;refine kk ?_;refine dQ p.isList ?_;refine⟨s1.heap.objs.size,[s1.heap.objs.size],_,_,Z,rfl,G.kept λ b o e=>aj _ e,bt4 a _,⟨_,aM _ rfl,rfl,rfl⟩,λ b hb=>?_,q⟩;have e:=by simpa using hb
 subst e;exact G.fpOk (ai _) (G.hok.fresh (ai _))
def cd2 (hl:PE X l J):PI X tg l (cw5 X.K J):=by
 intro y s W H R I h;refine thn (hl y s W H _ I h) λ v s1 ⟨x,Z,G,r1,Y⟩=>?_;refine wl λ _ kk=>?_;obtain⟨a,e,⟨xs,hq⟩,q⟩:=Y;subst e;cases r1;obtain⟨its,rv,p,hz⟩:=G.tuple hq;refine kk ?_;refine kr (p) ?_;refine⟨s1.heap.objs.size,[s1.heap.objs.size],_,_,Z,rfl,G.kept λ b o e=>aj _ e,ba9 a _,⟨_,aM _ rfl,rfl,rfl⟩,λ b hb=>?_,q⟩;have e:=by simpa using hb
 subst e;exact G.fpOk (ai _) (G.hok.fresh (ai _))
def bz7 {W:St}(I:Inv X G W H s)(Y:-(2^62)<=h)(Z:h<2^62)(h3:-(2^62)<=y)(h4:y<2^62)
  (q:R (Itr h (y - h).toNat) H):wpAny (model X.prog X.w) X.A (kW (.ref s.heap.objs.size)) (PIE X G W tg R) E { s with heap:=s.heap.push { cls:=.type "range",data:=.fields #[.int h t,.int y u,.int 1 v] },toks:=tk }:=by
 refine wpAny_pyIter_range (IsRange.new ..) (small_one Y Z h3 h4) ?_;have J:Inv X G W H { s with heap:=s.heap.push { cls:=.type "range",data:=.fields #[.int h t,.int y u,.int 1 v] },toks:=tk }:=I.kept λ b o e=>aj _ e;refine⟨(s.heap.push { cls:=.type "range",data:=.fields #[.int h t,.int y u,.int 1 v] }).objs.size,[(s.heap.push { cls:=.type "range",data:=.fields #[.int h t,.int y u,.int 1 v] }).objs.size],_,_,H,rfl,
  J.kept (t':=tk) λ b o e=>aj _ e,aZ8 _ h (y - h).toNat,?_,λ b hb=>?_,q⟩
 .have e1:h+((0:Nat):Int)*1=h:=by simp
  have e2:(((y - h).toNat:Nat):Int) - ((0:Nat):Int)=lY h y 1:=by rw[rangeSize_one];lia
  show IsRangeIter _ _ (h+((0:Nat):Int)*1) ((((y - h).toNat:Nat):Int) - ((0:Nat):Int)) 1;rw[e1,e2];exact aM _ rfl
 .have e:b=(s.heap.push { cls:=.type "range",data:=.fields #[.int h t,.int y u,.int 1 v] }).objs.size:=by simp_all
  subst e;exact J.fpOk (ai _) (J.hok.fresh (ai _))
def ck2 (ta:TA):TI:=λ W H R=>ta W H λ vs H1=>∃ j,vs=[.int j]/\-(2^62)<=j/\j<2^62/\R (Itr 0 j.toNat) H1
def bf3 (Y:Gl X "range")(hm:X.mg "range"=bY)(ha:PA X [a] J)(hs:autoParam (bh [a] X.env=[(dt,eval a X.env)]) Zq4._auto_1):PI X tg (.Call (.Name "range" p) [a] [] pos) (ck2 J):=by
 intro y s W H R I h;refine Call_ (aA3 I Y hm boot_range (dR (thn (ha pos y s W H _ I h) λ us s1 ⟨vs,H1,Z,r1,G⟩=>?_) hs rfl));obtain⟨j,e,G,q2,q⟩:=G;subst e;cases r1 with
 | cons r rr =>
  cases rr;obtain⟨t,rfl⟩:=r;exact call_range_1 (bz7 Z (by lia) (by lia) G q2 (by simp_all))
def cx9 (wi:TI)(g:TG)(tb:TS):TS:=λ D W H=>wi W H λ J H1=>∃ Ww:Nat->Nat->St->Hp->Prop,(∃ m,Ww 0 m W H1)/\∀ i m W H,Ww i m W H ->
 (J.stop i H/\D.nx W H)\/(J.go i H/\∃ N,(∀ W' H',N W' H'->∃ m',m'<m/\Ww (i+1) m' W' H')/\∀ x H',J.yld i H x H'->g x W H' λ W2 H2=>tb { D with nx:=N,ct:=N,bk:=D.nx } W2 H2)
noncomputable def aH8 (fp:List Addr)(h:Heap):List (Addr×Obj):=fp.filterMap λ b=>(h.get? b).map λ o=>(b,o)
def jV (hb:b∈y)(e:h.get? b=aT o):(b,o)∈aH8 y h:=cI.mpr ⟨b,hb,by rw[e];rfl⟩
def bu8 (G:p∈aH8 y h):p.1∈y/\h.get? p.1=aT p.2:=by
 obtain⟨b,hb,e⟩:=cI.mp G;cases q:h.get? b with
 | none=>simp_all
 | some o =>
  rw[q]at e;have e':=aq e;subst e';exact⟨hb,q⟩
def Inv.pinned {W:St}(I:Inv X h W H s)(J:∀ b∈y,FpOk X h H b)(ho:∀ b∈y,∃ o,s.heap.get? b=aT o/\∀ v,o.data≠.cell v):Inv X (h++aH8 y s.heap) W H s :=
 I.pins_of λ p Z=>(bN.mp Z).elim (λ z=>I.pin p (bw _ z)) λ z=>by
  refine wl λ _ kk=>?_;obtain⟨hb,e⟩:=bu8 z;obtain⟨G,f1,Y,_⟩:=J p.1 hb;obtain⟨o,e',d⟩:=ho p.1 hb;rw[e]at e';cases e';exact kk ⟨e,G,f1,Y,d⟩
def Inv.unpinned {W:St}(I:Inv X (h++G) W H s):Inv X h W H s:=I.pins_of λ p y=>I.pin p (bw _ (ir _ y))
def cn0 (hp:PassesOwn (model X.prog X.w) X.A X.env X.xe)(hc:X.calm=cn)(hi:PI X tg iter wi)(hg:PG X tg g)(hb:PSs X body tb)
  (hs:autoParam (∀ x,dS iter X.env x=pure x) Zq3._auto_1):PS X (.For tg iter body [] pos) (cx9 wi g tb):=by
 intro y s W H D I h;refine wpAny_For (thn (hi y s W H _ I h) λ v s1 h1=>thn h1 λ b0 s2 h2=>?_) hs;refine wl λ _ kk=>?_;obtain⟨it,fp,tn,J,H2,e,I2,T,a6,f2,Ww,⟨m0,w0⟩,turn⟩:=h2;subst e;have a0:∀ {H'},(∀ b∈fp,H' b=bY)->∀ b∈fp,FpOk X y H' b:=λ hn b hb=>⟨hn b hb,(f2 b hb).2⟩
 refine kk ?_;refine codeAny_forLoop_any (λ n s'=>∃ i W' H',Inv X y W' H' s'/\tn i s'.heap/\(∀ b∈fp,H' b=bY)/\Ww i n W' H') ?_ m0 ⟨0,W,H2,I2,a6,λ b hb=>(f2 b hb).1,w0⟩
 rintro n s3 ⟨i,W3,H3,I3,a2,a3,w3⟩
 rcases turn i n W3 H3 w3 with⟨stop,qn⟩|⟨go,N,hN,step⟩
 .refine c8 hp (thn (T.done X rfl rfl rfl hc i y s3 W3 H3 X.xe I3 (a0 a3) a2 stop) λ r s4 ⟨hr,I4⟩=>?_);subst hr;exact hZ ⟨W3,H3,I4,qn⟩
 .refine c8 hp (thn (T.item X rfl rfl rfl hc i y s3 W3 H3 X.xe I3 (a0 a3) a2 go) λ r s4 ⟨u,hr,h4⟩=>?_);subst hr;refine c8 hp (thn h4 λ _ s5 ⟨x,H5,I5,r5,y5,a1,a5⟩=>?_);have a4:=I5.pinned (a0 a5) (T.obj _ _ a1);refine c8 hp (thn (hg _ s5 W3 H5 x u _ a4 r5 (step x H5 y5)) λ _ s6 ⟨W6,H6,I6,q6⟩=>?_);refine c8 hp (thn (hb _ s6 W6 H6 _ I6 q6) λ f s7 q7=>?_);have Y:∀ {W7} {Z},Inv X (y++aH8 fp s5.heap) W7 Z s7->N W7 Z->∃ m,m<n/\∃ i W' H',Inv X y W' H' s7/\tn i s7.heap/\(∀ b∈fp,H' b=bY)/\Ww i m W' H':=λ {W7 Z} G n7=>by
   obtain⟨m',hm,w7⟩:=hN W7 Z n7;refine⟨m',hm,i+1,W7,Z,G.unpinned,T.keep _ _ _ a1 λ b hb o e=>(G.pin (b,o) (bw _ (bw _ (jV hb e)))).1,λ b hb=>?_,w7⟩;obtain⟨o,e,d⟩:=T.obj _ _ a1 b hb;exact(G.pin (b,o) (bw _ (bw _ (jV hb e)))).2.1
  cases f with
  | next=>obtain⟨W7,Z,G,n7⟩:=q7;exact Y G n7
  | cont=>obtain⟨W7,Z,G,n7⟩:=q7;exact Y G n7
  | brk=>obtain⟨W7,Z,G,q7⟩:=q7;exact⟨W7,Z,G.unpinned,q7⟩
  | ret v=>refine wl λ _ kk=>?_;obtain⟨x7,W7,Z,G,r7,q7⟩:=q7;exact kk ⟨x7,W7,Z,G.unpinned,r7,q7⟩
end
abbrev R2:=V->V->Hp->VK->Prop
def OpR (X:Cx)(f:Value->Value->Sem Value)(r:R2):Prop :=
 ∀ pins   s  (W:St)  H   x y   v u   Q ,Inv X pins W H s->RelV x v->RelV y u->r x y H Q ->
  wpAny (model X.prog X.w) X.A (f v u) (EP X pins W Q) X.xe s
def UnR (X:Cx)(f:Value->Sem Value)(r:V->Hp->VK->Prop):Prop :=
 ∀ pins   s  (W:St)  H   x   v   Q ,Inv X pins W H s->RelV x v->r x H Q ->
  wpAny (model X.prog X.w) X.A (f v) (EP X pins W Q) X.xe s
def ai0 (X:Cx)(f:Value)(r:List V->Hp->VK->Prop):Prop :=
 ∀ pins   s  (W:St)  H   xs  (us:yG)  Q ,Inv X pins W H s->Vals xs us->r xs H Q ->
  wpAny (model X.prog X.w) X.A (call f us) (EP X pins W Q) X.xe s
def tOp (r:R2)(ta tb:TE):TE:=λ W H Q=>ta W H λ x H1=>tb W H1 λ y H2=>r x y H2 Q
def tUn (r:V->Hp->VK->Prop)(ta:TE):TE:=λ W H Q=>ta W H λ x H1=>r x H1 Q
def rI (Cc:Int->Int->Prop)(g:Int->Int->V):R2:=λ x y H Q=>∃ i j,x=.int i/\y=.int j/\Cc i j/\Q (g i j) H
def rI0 (g:Int->Int->V):R2:=λ x y H Q=>∃ i j,x=.int i/\y=.int j/\Q (g i j) H
def rU (g:Int->V):V->Hp->VK->Prop:=λ x H Q=>∃ i,x=.int i/\Q (g i) H
section
variable {X:Cx} {a b c:Expr} {ta tb tc:TE} {pos:Pos}
def cv5 (ha:PE X a ta)(hb:PE X b tb){W:St}{R:V->V->Hp->Prop}(I:Inv X G W H s)
  (h:ta W H λ x J=>tb W J λ y H2=>R x y H2) {f:Value->Value->Sem Value}
  (hf:∀ v u s2 x y H2,Inv X G W H2 s2->RelV x v->RelV y u->R x y H2->wpAny (model X.prog X.w) X.A (f v u) Q X.xe s2) :
  wpAny (model X.prog X.w) X.A (eval a X.env) (λ v s₁=>wpAny (model X.prog X.w) X.A (eval b X.env) (λ u s₂=>wpAny (model X.prog X.w) X.A (f v u) Q X.xe s₂) X.xe s₁) X.xe s:=by
 refine thn (ha G s W H _ I h) λ v s1 ⟨x,J,Z,r1,Y⟩=>?_;refine thn (hb G s1 W J _ Z Y) λ u s2 ⟨y,H2,I2,r2,q2⟩=>?_;exact hf v u s2 x y H2 I2 r1 r2 q2
def cr9 (ho:OpR X (cF op) r)(ha:PE X a ta)(hb:PE X b tb):PE X (.BinOp a op b pos) (tOp r ta tb):=by
 intro G s W H Q I h;exact wpAny_BinOp (cv5 ha hb I h λ v u s2 x y H2 I2 Y J q=>ho G s2 W H2 x y v u Q I2 Y J q)
def cv0 (ho:UnR X (unaryOp op) r)(ha:PE X a ta):PE X (.UnaryOp op a pos) (tUn r ta):=by
 intro y s W H Q I h;exact UnaryOp_ (thn (ha y s W H _ I h) λ v s1 ⟨x,Y,J,r1,G⟩=>ho y s1 W Y x v Q J r1 G)
def opI {g:Int->Int->Int}
  (rule:∀(i j:Int) (t u:Tok) (s:ah) (Q:Value->ah->Prop) (E:Value->ah->Prop),Cc i j->Q (.int (g i j) s.toks) { s with toks:=s.toks+1 }->wpAny (model X.prog X.w) X.A (f (.int i t) (.int j u)) Q E s) :
  OpR X f (rI Cc λ i j=>.int (g i j)):=by
 intro G s W H x y v u Q I J Y h;obtain⟨i,j,rfl,rfl,hc,q⟩:=h;obtain⟨t,rfl⟩:=J;obtain⟨t',rfl⟩:=Y;exact rule i j t t' s _ _ hc ⟨.int (g i j),H,I.tok _,⟨_,rfl⟩,q⟩
def cz3 {g:Int->Int->Int}
  (rule:∀(i j:Int) (t u:Tok) (s:ah) (Q:Value->ah->Prop) (E:Value->ah->Prop),Q (.int (g i j) s.toks) { s with toks:=s.toks+1 }->wpAny (model X.prog X.w) X.A (f (.int i t) (.int j u)) Q E s) :
  OpR X f (rI0 λ i j=>.int (g i j)):=by
 intro G s W H x y v u Q I Y J h;obtain⟨i,j,rfl,rfl,q⟩:=h;obtain⟨t,rfl⟩:=Y;obtain⟨t',rfl⟩:=J;exact rule i j t t' s _ _ ⟨.int (g i j),H,I.tok _,⟨_,rfl⟩,q⟩
def cp5 {g:Int->Int->Bool}
  (rule:∀(i j:Int) (t u:Tok) (s:ah) (Q:Value->ah->Prop) (E:Value->ah->Prop),Q (.bool (g i j)) s->wpAny (model X.prog X.w) X.A (f (.int i t) (.int j u)) Q E s) :
  OpR X f (rI0 λ i j=>.T (g i j)):=by
 intro G s W H x y v u Q I Y J h;obtain⟨i,j,rfl,rfl,q⟩:=h;obtain⟨t,rfl⟩:=Y;obtain⟨t',rfl⟩:=J;exact rule i j t t' s _ _ ⟨.T (g i j),H,I,rfl,q⟩
def cy2 (i j:Int):Prop:=0<=j/\j<=1000000/\i.natAbs<2^64
def cp0 (i j:Int):Prop:=(-(2^64)<i/\i<2^64)\/(-(2^64)<j/\j<2^64)
def cp0.ok (h:cp0 i j):IntMulOk i j:=by
 rcases h with⟨y,G⟩|⟨y,G⟩
 .exact .of_left (intBits_le_64 y G)
 .exact .of_right (intBits_le_64 y G)
def aZ9  k :(0:Int)<=2^k:=by
 rw[two_pow_cast];exact Int.natCast_nonneg _
def ci6:OpR X (cF .Add) (rI0 λ i j=>.int (i+j)):=cz3 λ _ _ _ _ _ _ _ q=>add_int q
def ca8:OpR X (cF .Sub) (rI0 λ i j=>.int (i - j)):=cz3 λ _ _ _ _ _ _ _ q=>sub_int q
def cg6:OpR X (cF .Mod) (rI (λ _ j=>0<j) λ i j=>.int (i % j)):=opI λ i j _ _ _ _ _ hc q=>by
 have h:=hc;exact mod_int' (by lia) (by rw[Int.fmod_eq_emod_of_nonneg i (by lia)];exact q)
def ck8:OpR X (cF .Pow) (rI cy2 λ i j=>.int (i^j.toNat)):=opI λ _ _ _ _ _ _ _ hc q=>pow_int_small hc.1 hc.2.1 hc.2.2 q
def ch5:OpR X (cF .LShift) (rI cy2 λ i j=>.int (i*2^j.toNat)):=opI λ _ _ _ _ _ _ _ hc q=>lshift_int_small hc.1 hc.2.1 hc.2.2 q
def cm5:OpR X (cF .RShift) (rI (λ _ j=>0<=j) λ i j=>.int (i / 2^j.toNat)):=opI λ i j _ _ _ _ _ hc q =>
 rshift_int hc (by rw[fL i (aZ9 _)];exact q)
def unI {g:Int->Int}
  (rule:∀(i:Int) (t:Tok) (s:ah) (Q:Value->ah->Prop) (E:Value->ah->Prop),Q (.int (g i) s.toks) { s with toks:=s.toks+1 }->wpAny (model X.prog X.w) X.A (f (.int i t)) Q E s) :
  UnR X f (rU λ i=>.int (g i)):=by
 intro y s W H x v Q I G h;obtain⟨i,rfl,q⟩:=h;obtain⟨t,rfl⟩:=G;exact rule i t s _ _ ⟨.int (g i),H,I.tok _,⟨_,rfl⟩,q⟩
def cb4:UnR X (unaryOp .USub) (rU λ i=>.int (-i)):=unI λ _ _ _ _ _ q=>neg_int q
end
section
variable {X:Cx} {a b c:Expr} {ta tb tc:TE} {pos:Pos}
def ci0 {W:St}(I:Inv X h W H s)(q:Q (.T k) H)(e:k=y):EP X h W Q (.bool y) s:=by
 subst e;exact⟨.T k,H,I,rfl,q⟩
def cq3:OpR X (cH .Lt) (rI0 λ i j=>.T (decide (i<j))):=cp5 λ _ _ _ _ _ _ _ q=>lt_int q
def cv6:OpR X (cH .LtE) (rI0 λ i j=>.T (decide (i<=j))):=cp5 λ _ _ _ _ _ _ _ q=>le_int q
def cu5:OpR X (cH .Gt) (rI0 λ i j=>.T (decide (j<i))):=cp5 λ _ _ _ _ _ _ _ q=>gt_int q
def cw6:OpR X (cH .GtE) (rI0 λ i j=>.T (decide (j<=i))):=cp5 λ _ _ _ _ _ _ _ q=>ge_int q
def bu1 (ho:OpR X (cH op) r)(ha:PE X a ta)(hb:PE X b tb)(Z:dm op b=dt):PE X (.Compare a [op] [b] pos) (tOp r ta tb):=by
 intro G s W H Q I h;exact wpAny_Compare1 (cv5 ha hb I h λ v u s2 x y H2 I2 Y J q=>ho G s2 W H2 x y v u Q I2 Y J q) Z
def bL6 (t:TE):TT:=λ W H Q=>t W H λ x H'=>∃ k,x=.T k/\Q k H'
def br1 (ho:OpR X (cH op) r)(ha:PE X a ta)(hb:PE X b tb)(hm:dm op b=dt):PT X (.Compare a [op] [b] pos) (bL6 (tOp r ta tb)):=by
 intro G s W H Q I h;refine ii (thn (ha G s W H _ I h) λ v s1 ⟨x,H1,I1,r1,Z⟩=>thn (hb G s1 W H1 _ I1 Z) λ u s2 ⟨y,H2,I2,r2,q2⟩ =>
  thn (ho G s2 W H2 x y v u _ I2 r1 r2 q2) λ c s3 ⟨z,Y,I3,J,k,e,q3⟩=>?_) hm
 subst e;cases J;exact bI ⟨Y,I3,q3⟩
def bk8 (r r':R2)(ta tb tc:TE):TE:=λ W H Q=>ta W H λ x H1=>tb W H1 λ y H2=>r x y H2 λ z H3=>∃ k,z=.T k /\
 (if k=cn then tc W H3 λ w' H4=>r' y w' H4 Q else Q (.T dt) H3)
def bD9 (ho:OpR X (cH op) r)(Y:OpR X (cH J) Z)(ha:PE X a ta)(hb:PE X b tb)(hc:PE X c tc)
  (hm:autoParam (lZ [op,J] [b,c]=dt) Zq5._auto_1):PE X (.Compare a [op,J] [b,c] pos) (bk8 r Z ta tb tc):=by
 intro G s W H Q I h;refine Compare_chain (thn (ha G s W H _ I h) λ v s1 ⟨x,H1,I1,r1,q1⟩=>chain_link (thn (hb G s1 W H1 _ I1 q1) λ u s2 ⟨y,H2,I2,r2,q2⟩ =>
  thn (ho G s2 W H2 x y v u _ I2 r1 r2 q2) λ d s3 ⟨z,H3,I3,r3,k,e,q3⟩=>?_)) hm
 subst e;cases r3;refine bI ?_;cases k with
 | false=>exact ite_ff ⟨.T dt,H3,I3,rfl,q3⟩
 | true=>exact ite_tt (chain_last (thn (hc G s3 W H3 _ I3 q3) λ w' s4 ⟨z',H4,I4,r4,q4⟩=>Y G s4 W H4 y z' u w' Q I4 r2 r4 q4))
def bB6 (ho:OpR X (cH op) r)(Y:OpR X (cH J) Z)(ha:PE X a ta)(hb:PE X b tb)(hc:PE X c tc)
  (hm:autoParam (lZ [op,J] [b,c]=dt) Zq5._auto_1):PT X (.Compare a [op,J] [b,c] pos) (bL6 (bk8 r Z ta tb tc)):=by
 intro G s W H Q I h;refine isTrue_chain (thn (ha G s W H _ I h) λ v s1 ⟨x,H1,I1,r1,q1⟩=>test_link (thn (hb G s1 W H1 _ I1 q1) λ u s2 ⟨y,H2,I2,r2,q2⟩ =>
  thn (ho G s2 W H2 x y v u _ I2 r1 r2 q2) λ d s3 ⟨z,H3,I3,r3,k,e,q3⟩=>?_)) hm
 subst e;cases r3;refine bI ?_;cases k with
 | false =>
  refine wl λ _ kk=>?_;obtain⟨k',e',q'⟩:=q3;cases e';exact kk $ ite_ff ⟨H3,I3,q'⟩
 | true =>
  refine ite_tt (test_last (thn (hc G s3 W H3 _ I3 q3) λ w' s4 ⟨z',H4,I4,r4,q4⟩=>thn (Y G s4 W H4 y z' u w' _ I4 r2 r4 q4) λ d' s5 ⟨z2,H5,I5,r5,k2,e2,q5⟩=>?_));subst e2;cases r5;exact bI ⟨H5,I5,q5⟩
def ax4:(aR)<2^63:=by rw[f6];decide
def aZ7:OpR X (cF .Add) (λ x y H Q=>∃ i j,x=.str i/\y=.str j/\i.length+j.length<=aR/\Q (.str (i++j)) H):=by
 intro G s W H x y v u Q I Y J h;obtain⟨i,j,rfl,rfl,hz,q⟩:=h;obtain⟨t,rfl⟩:=Y;obtain⟨t',rfl⟩:=J;exact add_str (λ t' tk=>⟨.str (i++j),H,I.tok _,⟨_,rfl⟩,q⟩) hz
def j9 {us:yG}(r:Vals [x] us):∃ u,us=[u]/\RelV x u:=by
 cases r with
 | cons r1 r2=>cases r2;exact⟨_,rfl,r1⟩
def bO4 {us:yG}(r:Vals [x,y] us):∃ u w',us=[u,w']/\RelV x u/\RelV y w':=by
 cases r with
 | cons r1 r2 =>
  cases r2 with
  | cons r3 r4=>cases r4;exact⟨_,_,rfl,r1,r3⟩
def bx9:ai0 X (.builtin "abs") (λ y H Q=>∃ i,y=[.int i]/\Q (.int (if i<0 then -i else i)) H):=by
 intro G s W H y us Q I r h;obtain⟨i,rfl,q⟩:=h;obtain⟨u,rfl,t,rfl⟩:=j9 r;exact call_abs_int λ u tk=>⟨.int (if i<0 then -i else i),H,I.tok _,⟨_,rfl⟩,q⟩
def bo7 (hc:X.calm=cn):ai0 X (.builtin "max") (λ y H Q=>∃ i j,y=[.int i,.int j]/\Q (.int (if j > i then j else i)) H):=by
 intro G s W H y us Q I r h;obtain⟨i,j,rfl,q⟩:=h;obtain⟨u,w',rfl,⟨t,rfl⟩,⟨t',rfl⟩⟩:=bO4 r;refine max_two_ints (I.ok.hd hc) λ h' tk k=>⟨_,H,I.kept k,?_,q⟩
 by_cases hj:j > i
 .rw[gc hj,gc hj];exact⟨_,rfl⟩
 .rw[gn hj,gn hj];exact⟨_,rfl⟩
def br8 (hc:X.calm=cn):ai0 X (.builtin "min") (λ y H Q=>∃ i j,y=[.int i,.int j]/\Q (.int (if j<i then j else i)) H):=by
 intro G s W H y us Q I r h;obtain⟨i,j,rfl,q⟩:=h;obtain⟨u,w',rfl,⟨t,rfl⟩,⟨t',rfl⟩⟩:=bO4 r;refine min_two_ints (I.ok.hd hc) λ h' tk k=>⟨_,H,I.kept k,?_,q⟩
 by_cases hj:j<i
 .rw[gc hj,gc hj];exact⟨_,rfl⟩
 .rw[gn hj,gn hj];exact⟨_,rfl⟩
def br0:ai0 X (.type "int") (λ y H Q=>(∃ i,y=[.int i]/\Q (.int i) H)\/∃ k,y=[.T k]/\Q (.int (if k then 1 else 0)) H):=by
 intro G s W H y us Q I r h;rcases h with⟨i,rfl,q⟩|⟨k,rfl,q⟩
 .obtain⟨u,rfl,t,rfl⟩:=j9 r;exact call_int_int ⟨.int i,H,I,⟨_,rfl⟩,q⟩
 .obtain⟨u,rfl,r1⟩:=j9 r;cases r1;exact call_int_bool ⟨.int (if k then 1 else 0),H,I.tok _,⟨_,rfl⟩,q⟩
end
structure ObjM (h:Heap)(x dx Cc:Addr)(mA:yC):Prop where
 obj:h.get? x=aT (lf Cc dx)
 ns:h.Ns1 dx mA
 ne:dx≠x
set_option tactic.hygienic true in
def bp3 {h:Heap}{J:yC}(n:h.Ns1 Y J):∃ od,h.get? Y=aT od/\∀ name,iA name od=aT (J name):=by
 obtain⟨o,es,ep,ho,hd,hk,_,hm⟩:=n;refine⟨o,ho,λ name=>?_⟩;have e:=hm name;unfold nsFind findBy at e;rw[<-Array.find?_toList]at e;unfold iA;rw[hd];dsimp only;split
 .simp_all
 .rename_i q;rw[q]at e;have a:es.toList.any (·.refKey)=false:=by
   rw[List.any_eq_false];intro y hy;obtain⟨z,t,G⟩:=hk y (Array.mem_toList_iff.mp hy);simp[DictEntry.refKey,G]
  simp_all
def ObjM.look (I:ObjM h x G Cc y):∃ od,PySem.W.InstAt h x (lf Cc G) Cc (aT od)/\∀ name,iA name od=aT (y name) :=
 let⟨od,ho,hl⟩:=bp3 I.ns
 ⟨od,⟨I.obj,rfl,rfl,ho⟩,hl⟩
section
variable {prog:aK} {w:World} {A:aW} {E:Value->ah->Prop} {s:ah} {K:af} {x dx Cc f:Addr} {mA:yC} {name:Str} {v:Value}
end
def bv1.some_of (r:bv1 (aT v) o):∃ u,o=aT u/\RelV v u:=by
 cases o with
 | none=>exact(r).elim
 | some u=>exact⟨u,rfl,r⟩
section
variable {P:aK} {w:World} {H H':Hp} {h h':Heap} {a Cc dx:Addr} {fs fs':List (Str×V)}
end
structure Cls (K:af)(Cc:Addr):Prop where
 pg:kX K Cc Str.empty=cn
 hd:PySem.W.hasDictIn K Cc=cn
 po:PySem.W.plainOver K Cc=cn
 sa:lB K (.ref Cc) "__setattr__"=aT (aT (.builtin "object.__setattr__"))
def Cls.get {K}(c:Cls K Cc) f :kX K Cc f=true:=c.pg
section
variable {X:Cx} {pins:yA} {W:St} {H:Hp} {s:ah} {a Cc dx:Addr} {fs:List (Str×V)} {f:Str} {v:V} {A:aW} {E:Value->ah->Prop}
end
section
variable {X:Cx} {o e value:Expr} {f:Str} {pos pos' tpos:Pos} {ta tv:TE}
end
section
variable {X:Cx} {pins:yA} {W:St} {H:Hp} {s:ah} {A:aW} {E:Value->ah->Prop} {Q:Value->ah->Prop} {c:Value} {b:Bool}
inductive TyOf (K:af)(H:Hp):V->Value->Prop where
 | N:TyOf K H .N (.type "NoneType")
 | T (x:Bool):TyOf K H (.T x) (.type "bool")
 | int (i:Int):TyOf K H (.int i) (.type "int")
 | str (x:Str):TyOf K H (.str x) (.type "str")
 | flt (x:UInt64):TyOf K H (.flt x) (.type "float")
 | J {a:Addr} {xs:List V} (e:H a=aT (.J xs)):TyOf K H (.ref a) (.type "list")
 | frz {a:Addr} {o:Obj} {xs:List V} (e:H a=aT (.frz o (.J xs))):TyOf K H (.ref a) (.type "list")
 | tp {a:Addr} {xs:List V} (e:H a=aT (.tp xs)):TyOf K H (.ref a) (.type "tuple")
 | dK {a:Addr} {kvs:List (Key×V)} (e:H a=aT (.dK kvs)):TyOf K H (.ref a) (.type "dict")
def jI (I:Inv X pins W H s)(G:RelV x u)(Z:TyOf X.K H x t)(e:cY X.K t c=aT b)(h:∀ tk,Q (.bool b) { s with toks:=tk }) :
  wpAny (model X.prog X.w) A (call (.builtin "isinstance") [u,c]) Q E s:=by
 cases Z with
 | N=>cases(show u=Value.none from G);exact cj PySem.W.kitx_none I.kIn True.intro e (λ z=>nomatch z) h
 | T y=>cases(show u=Value.bool y from G);exact cj PySem.W.kitx_bool I.kIn True.intro e (λ z=>nomatch z) h
 | int i=>obtain⟨t,q⟩:=(show ∃ t,u=Value.int i t from G);cases q;exact cj PySem.W.kitx_int I.kIn True.intro e (λ z=>nomatch z) h
 | str y=>obtain⟨t,q⟩:=(show ∃ t,u=Value.str y t from G);cases q;exact cj PySem.W.kitx_str I.kIn True.intro e (λ z=>nomatch z) h
 | flt y=>obtain⟨t,q⟩:=(show ∃ t,u=Value.float y t from G);cases q;exact cj PySem.W.kitx_float I.kIn True.intro e (λ z=>nomatch z) h
 | @J a xs ea =>
  cases(show u=Value.ref a from G);obtain⟨_,_,n,_,J⟩:=(show ai1 X.prog X.w H s.heap a (.J xs)from I.hok a _ ea)
  exact cj kK I.kIn ⟨_,J,rfl⟩ e (λ z=>nomatch z) h
 | @frz a ob xs ea =>
  cases(show u=Value.ref a from G);obtain⟨_,_,_,n,_,J⟩:=(show ai1 X.prog X.w H s.heap a (.frz ob (.J xs))from I.hok a _ ea)
  exact cj kK I.kIn ⟨_,J,rfl⟩ e (λ z=>nomatch z) h
 | @tp a xs ea =>
  cases(show u=Value.ref a from G);obtain⟨_,_,_,p⟩:=(show ai1 X.prog X.w H s.heap a (.tp xs)from I.hok a _ ea)
  obtain⟨o,J,Y,_⟩:=p;exact cj kt I.kIn ⟨o,J,Y⟩ e (λ z=>nomatch z) h
 | @dK a kvs ea =>
  cases(show u=Value.ref a from G);obtain⟨_,_,vs,_,p⟩:=(show ai1 X.prog X.w H s.heap a (.dK kvs)from I.hok a _ ea)
  obtain⟨o,es,ep,J,Y,_⟩:=p;exact cj PySem.W.kitx_dict I.kIn ⟨o,J,Y.1⟩ e (λ z=>nomatch z) h
end
structure Room (k:Nat)(A:aW):Prop where
 hd:A.handled=bY
 dp:A.depth+3*k+5<recursionLimit
 un:A.units+16*k+200<cLine
def Room.mono (r:Room k A)(h:j<=k):Room j A:=⟨r.hd,by have:=r.dp;lia,by have:=r.un;lia⟩
theorem Room.deeper (r:Room (k+1) A) env :Room k (A.deeper env) :=
 ⟨r.hd,by have:=r.dp;show A.depth+1+3*k+5<_;lia,by have:=r.un;show A.units+3+16*k+200<_;lia⟩
theorem Room.in1 (r:Room (k+1) A):Room k A.in1 :=
 ⟨r.hd,by have:=r.dp;lia,by have:=r.un;lia⟩
theorem Room.depth (r:Room k A):A.depth<recursionLimit:=by have:=r.dp;lia
theorem Room.units (r:Room k A):A.units+64<cLine:=by have:=r.un;lia
def Room.units0 (r:Room k A):A.units<cLine:=by have:=r.un;lia
def bu9:TA:=λ _ H Q=>Q [] H
def az6 (ta:TE)(tr:TA):TA:=λ W H Q=>ta W H λ x H1=>tr W H1 λ xs H2=>Q (x::xs) H2
section
variable {X:Cx} {e:Expr} {es:yK} {te:TE} {t:TA} {pos:Pos}
def aj5:PA X [] bu9:=λ _ _ _ _ H Q I h=>Calls.spliced_nil ⟨[],H,I,.nil,h⟩
def qL (ha:PE X e te)(J:PA X es t)(hs:autoParam (bh (e::es) X.env=(dt,eval e X.env)::bh es X.env) Zq4._auto_1):PA X (e::es) (az6 te t):=by
 intro pos y s W H Q I h;rw[hs]
 skip
 refine Calls.spliced_cons (thn (ha y s W H _ I h) λ u s1 ⟨x,H1,Z,r1,G⟩=>?_);exact thn (J pos y s1 W H1 _ Z G) λ us s2 ⟨Y,H2,I2,r2,q2⟩=>⟨x::Y,H2,I2,.cons r1 r2,q2⟩
def cx1 (t:TA):TE:=λ W H Q=>t W H λ xs H1=>xs.length<=aR/\∀ p,H1 p=bY->Q (.ref p) (upd H1 p (.tp xs))
def cA6 (t:TA):TE:=λ W H Q=>t W H λ xs H1=>xs.length<=aR/\∀ p,H1 p=bY->Q (.ref p) (upd H1 p (.J xs))
def cc9 (h:PA X es t):PE X (.Tuple es x1 pos) (cx1 t):=by
 intro y s W H Q I hq;refine wpAny_Tuple_spliced (thn (h pos y s W H _ I hq) λ us s1 ⟨Y,J,G,r,z,q⟩=>⟨by rw[<-r.length];exact z,?_⟩);have Z:=G.hok.fresh (ai _);refine⟨.ref s1.heap.objs.size,upd J s1.heap.objs.size (.tp Y),G.laid (λ b u e=>aj _ e) (ai _) ?_,rfl,q _ Z⟩;exact⟨z,us,r,⟨_,aM _ rfl,rfl,_,rfl⟩⟩
def bG3 (h:PA X es t):PE X (.List es pos) (cA6 t):=by
 intro y s W H Q I hq;refine wpAny_List_spliced (thn (h pos y s W H _ I hq) λ us s1 ⟨Y,J,G,r,z,q⟩=>⟨by rw[<-r.length];exact z,?_⟩);have Z:=G.hok.fresh (ai _);refine⟨.ref s1.heap.objs.size,upd J s1.heap.objs.size (.J Y),G.laid (λ b u e=>aj _ e) (ai _) ?_,rfl,q _ Z⟩;exact⟨z,us,0,r,aM _ rfl⟩
end
abbrev Sp:=List V->Hp->VK->XK->Prop
abbrev CXT:=List Env->Hp->ah->XK->Value->ah->Prop
structure Env0 (P:aK)(w:World)(K:af)(mg:yC)(base:Heap)(A:aW)(outer:List Env)(s:ah)(H:Hp):Prop where
 frames:A.frames=aT outer
 mod:Mod K mg base
 bs:∀ b o,base.get? b=aT o->s.heap.get? b=aT o/\H b=bY
 bsz:base.objs.size<=s.heap.objs.size
 funs:s.heap.FunFrames base outer
 frf:∀ b∈frs outer,H b=bY
 hok:HOk P w H s.heap
 bare:fZ s.gens
def CE (outer:List Env)(P:aK)(w:World)(H:Hp)(s:ah)(Q:VK)(u:Value)(s':ah):Prop :=
 ∃ v H',s'.os=s.os/\fZ s'.gens/\Un (frs outer) [] H H' s.heap s'.heap/\HOk P w H' s'.heap/\RelV v u/\Q v H'
def CR (CX:CXT)(outer:List Env)(P:aK)(w:World)(H:Hp)(s:ah)(Q:VK)(E:XK)(r:lC)(s':ah):Prop :=
 match r with
 | .ok (.ret u)=>CE outer P w H s Q u s'
 | .ok _=>False
 | .error e=>CX outer H s E e s'
structure FnOk (P:aK)(w:World)(K:af)(mg:yC)(base:Heap)(CX:CXT)(k:Nat)(f:Addr)(fd:bH)(ps:yH)(sp:Sp):Prop where
 len:∀ vs H Q E,sp vs H Q E->vs.length=ps.length
 run:∀(A:aW) (outer:List Env) (s:ah) (H:Hp) (args:Args) (us:yG) (vs:List V) (Q:VK) (E:XK),Room k A->Env0 P w K mg base A outer s H->ls s fd args (ps.zip us)->Vals vs us->sp vs H Q E ->
  f7 (model P w) A (.call (.ref f) args) (CR CX outer P w H s Q E) s
def FnOk.imp {K}(F:FnOk P w K mg base J k f Y ps sp)
  (h:∀ vs H Q E,G vs H Q E->sp vs H Q E):FnOk P w K mg base J k f Y ps G :=
 ⟨λ vs H Q E q=>F.len vs H Q E (h _ _ _ _ q),λ A y s H args us vs Q E Z he hb hv hs=>F.run A y s H args us vs Q E Z he hb hv (h _ _ _ _ hs)⟩
section
variable {X:Cx} {pins:yA} {W:St} {H:Hp} {s s':ah}
def Inv.env0 (I:Inv X pins W H s):Env0 X.prog X.w X.K X.mg X.base X.A X.stack s H :=
 ⟨I.ok.frames,I.ok.mod,I.bs,am I.ok.bsz I.sz,I.stack,I.stkFree,I.hok,I.bare⟩
def Inv.after (I:Inv X pins W H s)(h:CE X.stack X.prog X.w H s Q u s'):EP X pins W Q u s':=by
 obtain⟨v,H',os,bare,un,hok,r,q⟩:=h;obtain⟨G,g,d,t,y⟩:=s';obtain rfl:y=s.os:=os;exact⟨v,H',I.call un hok bare (λ b z=>iF z (by simp)),r,q⟩
end
def aY7 (sp:Sp)(dvs:List V)(E:XK)(t:TA):TE:=λ W H Q=>t W H λ vs H1=>sp (vs++dvs) H1 Q E
def Binds (K:af)(fd:bH)(ps:yH)(ds:yG):Prop :=
 ∀ s   us ,K.In s.heap->(us++ds).length=ps.length->ls s fd ⟨us,[]⟩ (ps.zip (us++ds))
def Binds.all {K}(h:∀ us:List Value,us.length=ps.length->eO y ⟨us,[]⟩=pure (ps.zip us)):Binds K y ps []:=λ s us _ hl=>by
 rw[bu]at hl ⊢;exact .of_eq (h us hl)
def aS8 (CX:CXT)(X:Cx)(E:XK):Prop:=∀ pins  (W:St)  H   s   e   s' ,Inv X pins W H s->CX X.stack H s E e s'->X.xe e s'
section
variable {X:Cx} {CX:CXT} {k:Nat} {f Cc:Addr} {fd:bH} {ps:yH} {sp:Sp} {dvs:List V} {ds:yG} {E:XK} {x m:Str} {p pos apos:Pos} {e o:Expr} {es:yK} {ta:TE} {t:TA}
def bF4 {W:St}{us:yG}(F:FnOk X.prog X.w X.K X.mg X.base CX k f fd ps sp)(J:Room k X.A)(hb:Binds X.K fd ps ds)(hd:Vals dvs ds)(hx:aS8 CX X E)
  (I:Inv X y W H s) (r:Vals vs us) (h:sp (vs++dvs) H Q E):wpAny (model X.prog X.w) X.A (call (.ref f) us) (EP X y W Q) X.xe s:=by
 have G:Vals (vs++dvs) (us++ds):=r.append hd;have hl:(us++ds).length=ps.length:=by rw[<-G.length];exact F.len _ _ _ _ h
 refine lD (fy (F.run X.A X.stack s H ⟨us,[]⟩ (us++ds) (vs++dvs) Q E J I.env0 (hb s us I.kIn hl) G h) λ r s' hq=>?_);cases r with
 | error e=>exact hx y W H s e s' I hq
 | ok fl =>
  cases fl with
  | ret u=>exact I.after hq
  | next=>exact bG hq
  | brk=>exact bG hq
  | cont=>exact bG hq
def bS8 (F:FnOk X.prog X.w X.K X.mg X.base CX k f fd ps sp)(hr:Room k X.A)(Z:Gl X x)(hm:X.mg x=aT (.ref f))(hk:cM X.K (.ref f)=cn)(hb:Binds X.K fd ps ds)(hd:Vals dvs ds)(hx:aS8 CX X E)
  (ha:PA X (e::es) t) (J:autoParam ((x==("__debug__":Str))=dt) Zq1._auto_1) (he:autoParam (bh (e::es) X.env=(dt,eval e X.env)::bh es X.env) Zq4._auto_1) (G:autoParam ((eN pos (bh es X.env)).any (·.1)=dt) Zq4._auto_1) :
  PE X (.Call (.Name x p) (e::es) [] pos) (aY7 sp dvs E t):=by
 intro y s W H Q I h;refine cJ (aC9 I Z hm ?_ J);refine ku I.ok.mod.kin hk (thn (ha pos y s W H _ I h) λ us s1 ⟨vs,H1,Y,r,q⟩=>⟨Y.kIn,?_⟩) he G;exact bF4 F hr hb hd hx Y r q
def bC3 (F:FnOk X.prog X.w X.K X.mg X.base CX k f fd ps sp)(Y:Room k X.A)(J:Gl X x)(Z:X.mg x=aT (.ref f))(hk:cM X.K (.ref f)=cn)(hb:Binds X.K fd ps ds)(hd:Vals dvs ds)(hx:aS8 CX X E)
  (y:autoParam ((x==("__debug__":Str))=dt) Zq1._auto_1):PE X (.Call (.Name x p) [] [] pos) (aY7 sp dvs E bu9):=by
 intro G s W H Q I h;refine cJ (aC9 I J Z ?_ y);exact PySem.W.callWith_K0 I.kIn hk (bF4 F Y hb hd hx I .nil h)
structure Mk (K:af)(Cc f:Addr):Prop where
 makes:PySem.W.makesIn K Cc=cn
 init:lB K (.ref Cc) "__init__"=aT (aT (.ref f))
 fn:PySem.W.isFn K (.ref f)=cn
 kp:cM K (.ref Cc)=cn
end
section
variable {X:Cx} {CX:CXT} {k:Nat} {f Cc:Addr} {fd:bH} {ps ks:yH} {sp:Sp} {E:XK} {x m:Str} {p pos apos kpos:Pos} {e o:Expr} {es:yK} {kws:List lu} {te ta:TE} {t tk:TA} {nm:Option Str}
variable {g:List Value->List Value->List Value} {gV:List V->List V->List V}
end
structure FnScope (N P:yH)(sc:Scope):Prop where
 kind:sc.kind=.function
 co:sc.isCoroutine=dt
 gen:sc.isGenerator=dt
 nd:N.Nodup
 pre:N.take P.length=P
 par:∀ x∈P,sc.names.lookup x=aT .local\/sc.names.lookup x=aT .cell
 nofree:∀ y∈sc.names,y.2≠.free
def Zsc {N P:yH}{sc:Scope}(a:autoParam (sc.kind=.function) Zq4._auto_1)(b:autoParam (sc.isCoroutine=dt) Zq4._auto_1)(c:autoParam (sc.isGenerator=dt) Zq4._auto_1)(d:autoParam (N.Nodup) Zq8._auto_1)(e:autoParam (N.take P.length=P) Zq4._auto_1)(f:autoParam (∀ x∈P,sc.names.lookup x=aT .local\/sc.names.lookup x=aT .cell) Zq8._auto_1)(g:autoParam (∀ y∈sc.names,y.2≠.free) Zq8._auto_1):FnScope N P sc:=⟨a,b,c,d,e,f,g⟩
theorem aM1 {eZ}:∀ {binds} {m:yC},(∀ v,(x,v) ∉ binds)->bindL eZ binds m x=m x
 | [],_,_=>rfl
 | (n,v)::r,m,h=>by
  unfold bindL;rw[aM1 λ w hw=>h w (aB _ hw)];split
  .have:x≠n:=by rintro rfl;exact h v aH
   simp[this]
  .rfl
theorem aK0 {eZ}:∀ {binds} {m:yC},(∀ v,(x,v) ∉ binds)->bindC eZ binds m x=m x
 | [],_,_=>rfl
 | (n,v)::r,m,h=>by
  unfold bindC;rw[aK0 λ w hw=>h w (aB _ hw)];split
  .rfl
  .have:x≠n:=by rintro rfl;exact h v aH
   simp[this]
theorem av6 {eZ}:∀ {P:yH} {vs:yG} {i:Nat} {m:yC},P.Nodup->P[i]?=aT x->vs[i]?=aT v->eZ x=aT .local ->
  bindL eZ (P.zip vs) m x=aT v
 | [],_,_,_,_,h,_,_=>by simp at h
 | _::_,[],_,_,_,_,h,_=>by simp at h
 | p::P,w::vs,0,m,nd,h1,h2,hk=>by
  simp at h1 h2;subst h1;subst h2;show bindL eZ ((p,w)::P.zip vs) m p=_;unfold bindL;rw[aM1 λ v hv=>(dE.mp nd).1 (eh hv).1,gc hk];simp
 | p::P,w::vs,i+1,m,nd,h1,h2,hk=>by
  skip
  unfold bindL;exact av6 (dE.mp nd).2 (by simpa using h1) (by simpa using h2) hk
theorem av4 {eZ}:∀ {P:yH} {vs:yG} {i:Nat} {m:yC},P.Nodup->P[i]?=aT x->vs[i]?=aT v->eZ x≠aT .local ->
  bindC eZ (P.zip vs) m x=aT v
 | [],_,_,_,_,h,_,_=>by simp at h
 | _::_,[],_,_,_,_,h,_=>by simp at h
 | p::P,w::vs,0,m,nd,h1,h2,hk=>by
  simp at h1 h2;subst h1;subst h2;show bindC eZ ((p,w)::P.zip vs) m p=_;unfold bindC;rw[aK0 λ v hv=>(dE.mp nd).1 (eh hv).1,gn hk];simp
 | p::P,w::vs,i+1,m,nd,h1,h2,hk=>by
  skip
  unfold bindC;exact av4 (dE.mp nd).2 (by simpa using h1) (by simpa using h2) hk
noncomputable def ao0 (N:yH)(vs:List V):St:=vs.map aT++ak (N.length - vs.length) bY
noncomputable def bw1 (CX:CXT)(P:aK)(w:World)(K:af)(mg:yC)(base:Heap)(N:yH)(qual:Str)(scope:Scope)(f:Addr)(cd:Value)(A:aW)(outer:List Env)(s:ah)(H:Hp)(E:XK):Cx where
 prog:=P
 w:=w
 K:=K
 mg:=mg
 base:=base
 A:=A.deeper (fM qual scope s.heap.objs.size f cd)
 N:=N
 s₀:=s
 H₀:=H
 env:=fM qual scope s.heap.objs.size f cd
 outer:=outer
 stack:=fM qual scope s.heap.objs.size f cd::outer
 ex:=[]
 calm:=cn
 fn:=λ _=>cn
 pn:=[]
 xe:=λ e s'=>wpAny (model P w) (A.deeper (fM qual scope s.heap.objs.size f cd)) (leaving (fM qual scope s.heap.objs.size f cd) e) (λ _ s''=>CX outer H s E e s'') (λ e' s''=>CX outer H s E e' s'') s'
def qM {sc:Scope}(h:sc.names.lookup x=aT .cell):∃ c,(aP n sc.names []).lookup x=aT c:=by
 have q:=gO sc.names n [] (.inl h);exact d8.mp q
def bl2 {K:af}{us:yG}{vs:List V}
  (S:FnScope N ps scope) (hd:A.handled=bY) (Y:Env0 P w K mg base A G s H) (hl:vs.length=ps.length) (r:Vals vs us)
  (x:f8 s s.heap.objs.size (bindL (fM qual scope s.heap.objs.size f cd).kindOf (ps.zip us) λ _=>bY) (aP (s.heap.objs.size+1) scope.names []) (bindC (fM qual scope s.heap.objs.size f cd).kindOf (ps.zip us) λ _=>bY) s1) :
  Inv (bw1 CX P w K mg base N qual scope f cd A G s H E) [] (ao0 N vs) H s1:=by
 have a1:ps.length<=N.length:=by have:=congrArg iB S.pre;grind
 obtain⟨h1,tk,rfl,hk⟩:=x.done;have Z:∀ b:Addr,b ∉ (bw1 CX P w K mg base N qual scope f cd A G s H E).ex:=λ b z=>iF (show b∈([]:List Addr)from z) (by simp);refine⟨⟨Y.mod,S.kind,rfl,rfl,ai _,λ y z c h1 J=>?_,λ y hy=>?_,λ y c _ h=>?_,λ _=>hd,iC Y.frames,.inr ⟨rfl,rfl⟩,λ b z=>iF z (Z b),Y.bs,Y.bsz,λ b _ _=>Z b,λ b z=>iF z (Z b),Y.funs,Y.frf⟩,
  rfl,Y.bare,Un.kept hk,⟨_,x.toInCall.ns,λ i y v h1 J h3=>?_⟩,λ y c h=>⟨_,x.cell y c h⟩,Y.hok.fresh (ai _),λ y c h=>?_,λ p hp=>iF (show p∈([]:yA)from hp) (by simp),Y.hok.kept hk,?_⟩
 .exact gP x.apart (aE h1) (aE J)
 .have hy:scope.names.lookup y=aT .cell\/scope.names.lookup y=aT .free:=hy;rcases hy with hy|hy
  .exact qM hy
  .exact iF rfl (S.nofree _ (aE hy))
 .exact dZ (x.above y c (aE h))
 .have hi:i<vs.length:=by
   unfold ao0 at J;by_cases hi:i<vs.length
   .exact hi
   .rw[ag (by simpa using hi)]at J;rw[gz]at J;split at J<;>cases J
  have ha:vs[i]?=aT v:=by
   unfold ao0 at J;rw[ax (by simpa using hi),ao]at J;cases e:vs[i]? with
   | none=>rw[e]at J;cases J
   | some a=>rw[e]at J;cases J;rfl
  obtain⟨u,hu,rv⟩:=r.get ha;have hp:ps[i]?=aT y:=by
   rw[<-S.pre,dq (by lia)];exact h1
  have a0:ps.Nodup:=by rw[<-S.pre];exact S.nd.sublist (List.take_sublist _ _)
  refine⟨u,rv,?_⟩;rcases S.par y (aC hp)with k|k
  .exact .inl ⟨k,av6 a0 hp hu k⟩
  .obtain⟨c,e⟩:=qM (n:=s.heap.objs.size+1) k;refine .inr ⟨.inl k,c,e,?_⟩;have q:=x.cell y c e;rw[av4 a0 hp hu (by show scope.names.lookup y≠_;rw[k];decide)]at q;exact q
 .exact Y.hok.fresh (dZ (x.above y c (aE h)))
 .unfold ao0;show _=N.length
  simp_all
set_option tactic.hygienic true in
def cm1 {K:af}{body:yL}{dV kV a0 pm G ct oc:Value}{an od:yI}
  {a3:yE} (lk:K.lookup f=aT ⟨oc,od,.func (dz name qual params body scope dV kV a0 pm an G ct),a3⟩) (a4:fN K G qual=cn) (S:FnScope N ps scope)
  (len:∀ vs H Q E,sp vs H Q E->vs.length=ps.length)
  (Y:∀(A:aW) (h:List Env) (s:ah) (H:Hp) (vs:List V) (Q:VK) (E:XK),Room k (A.deeper (fM qual scope s.heap.objs.size f G))->sp vs H Q E ->
   ∃ t,PSs (bw1 CX P w K mg base N qual scope f G A h s H E) body t/\t { nx:=λ _ H'=>Q .N H',rt:=Q } (ao0 N vs) H) :
  FnOk P w K mg base CX (k+1) f (dz name qual params body scope dV kV a0 pm an G ct) ps sp:=by
 refine⟨len,λ A h s H args us vs Q E hr e0 hb r a1=>?_⟩;have hl:=len _ _ _ _ a1;have KX:K.In s.heap:=e0.mod.kin.keeps λ b o e=>(e0.bs b o e).1;have a2:s.heap.NoLimit:=e0.mod.nolimit.keeps λ b o e=>(e0.bs b o e).1;have Z:∀ y∈ps.zip us,scope.names.lookup y.1=aT .local\/(scope.names.lookup y.1=aT .cell/\((aP (s.heap.objs.size+1) scope.names []).lookup y.1).isSome=cn):=λ⟨n,v⟩ hy=>by
  rcases S.par n (eh hy).1 with q|q
  .exact .inl q
  .exact .inr ⟨q,gO _ _ _ (.inl q)⟩
 refine ik hr.depth (KX _ _ lk) rfl S.co S.gen rfl (PySem.W.codeRec_of KX a4) (hb _ _ _ _ ?_);refine wpAny_newFunctionEnv_cells S.kind Z λ env he s1 x=>?_;subst he;refine⟨a2.keeps x.toInCall.keep,codeAny_func ?_⟩;obtain⟨t,ht,hq⟩:=Y A h s H vs Q E (hr.deeper _) a1;have I:Inv (bw1 CX P w K mg base N qual scope f G A h s H E) [] (ao0 N vs) H s1:=bl2 S hr.hd e0 hl r x;refine cr (ht [] s1 (ao0 N vs) H _ I hq) (λ fl s' hs=>?_) λ e s' hs=>hs;have fin:∀ {W':St} {H':Hp} {v:V} {u:Value},Inv (bw1 CX P w K mg base N qual scope f G A h s H E) [] W' H' s'->RelV v u->Q v H'->CE h P w H s Q u s' :=
  λ {W' H' v u} J rv q=>⟨v,H',J.os,J.bare,J.base,J.hok,rv,q⟩
 cases fl with
 | ret u =>
  obtain⟨v,W',H',J,rv,q⟩:=hs;exact fin J rv q
 | next =>
  obtain⟨W',H',J,q⟩:=hs;exact fin (v:=V.N) (u:=Value.none) J rfl q
 | brk =>
  obtain⟨_,_,_,q⟩:=hs
  simp_all
 | cont =>
  obtain⟨_,_,_,q⟩:=hs
  simp_all
section
variable {X:Cx} {x:Str} {p pos:Pos} {e:Expr} {es:yK} {t:TA} {id T:String} {r:List V->Hp->VK->Prop}
def tCB (r:List V->Hp->VK->Prop)(t:TA):TE:=λ W H Q=>t W H λ vs H1=>r vs H1 Q
def aF5 (hc:ai0 X (.builtin id) r)(Z:Gl X x)(hm:X.mg x=bY)(hv:bf x=aT (.builtin id))(ha:PA X (e::es) t)(hn:autoParam (x ≠ "__name__") Zq1._auto_1)(J:autoParam ((x==("__debug__":Str))=dt) Zq1._auto_1)
  (he:autoParam (bh (e::es) X.env=(dt,eval e X.env)::bh es X.env) Zq4._auto_1) (G:autoParam ((eN pos (bh es X.env)).any (·.1)=dt) Zq4._auto_1):PE X (.Call (.Name x p) (e::es) [] pos) (tCB r t):=by
 intro y s W H Q I h;refine cJ (aA3 I Z hm hv ?_ hn J);exact PyProof.Rows.callWith_builtin1 (thn (ha pos y s W H _ I h) λ us s1 ⟨vs,H1,I1,r1,Y⟩=>hc y s1 W H1 vs us Q I1 r1 Y) he G
def at6 (hc:ai0 X (.type T) r)(Z:Gl X x)(hm:X.mg x=bY)(hv:bf x=aT (.type T))(ha:PA X (e::es) t)(hn:autoParam (x ≠ "__name__") Zq1._auto_1)(J:autoParam ((x==("__debug__":Str))=dt) Zq1._auto_1)
  (he:autoParam (bh (e::es) X.env=(dt,eval e X.env)::bh es X.env) Zq4._auto_1) (G:autoParam ((eN pos (bh es X.env)).any (·.1)=dt) Zq4._auto_1):PE X (.Call (.Name x p) (e::es) [] pos) (tCB r t):=by
 intro y s W H Q I h;refine cJ (aA3 I Z hm hv ?_ hn J);exact dR (thn (ha pos y s W H _ I h) λ us s1 ⟨vs,H1,I1,r1,Y⟩=>hc y s1 W H1 vs us Q I1 r1 Y) he G
end
end L2
end
noncomputable section
namespace HT
open PySem PyProof.Rows
section
open PySem.SeqAt
open PySem.AutoSeq1 (wpAny_loadPart')
open PySem.MeetsSeq PySem.MeetsSeq2 PySem.MeetsSeq3
end
section
variable {prog:aK} {w:World} {A:aW} {E:Value->ah->Prop} {s:ah}
def cat_tup {vs ws:yG}(ht:IsTup s.heap t vs.toArray)(hb:IsTup s.heap b ws.toArray)(hv:vs≠[])
  (h1:ws=[]->Q (.ref t) s) (h2:ws≠[]->Q (.ref s.heap.objs.size) { s with heap:=s.heap.push { cls:=.type "tuple",data:=.seq (vs++ws).toArray } })
  (hsz:vs.length+ws.length<=aR):wpAny (model prog w) A (cF .Add (.ref t) (.ref b)) Q E s:=by
 refine wl λ _ kk=>?_;obtain⟨⟨cls,dd,data,sl⟩,ho,hc,n,hd⟩:=id ht;obtain⟨⟨a0,G,Z,Y⟩,h,J,n2,y⟩:=id hb;simp only at hc hd J y;subst hc hd J y;have e:vs.toArray++ws.toArray=(vs++ws).toArray:=by simp
 refine kk ?_;by_cases hw:ws=[]
 .exact kL ⟨_,ho,rfl⟩ ⟨_,h,rfl⟩ gA kg eP eG (d9 _ _)
   (tuple_addW1 t b vs.toArray ws.toArray n n2 dd G sl Y (by simpa using hv) (by simp[hw])) ⟨ho,h,h1 hw⟩
 .refine kL ⟨_,ho,rfl⟩ ⟨_,h,rfl⟩ gA kg eP eG (d9 _ _)
   (tuple_addW2 t b vs.toArray ws.toArray n n2 dd G sl Y (by simpa using hv) (by simp_all) (by simp_all)) ⟨ho,h,?_⟩
  rw[e];exact h2 hw
noncomputable def sIx (n d:Nat):Option Int->Nat
 | none=>d
 | some v=>if v<0 then(v+(n)).toNat else min v.toNat n
def sIx_le  n d (hd:d<=n) o :sIx n d o<=n:=by
 cases o with
 | none=>exact hd
 | some v =>
  show(if v<0 then(v+(n)).toNat else min v.toNat n)<=n;by_cases hv:v<0
  .rw[gc hv];lia
  .rw[gn hv];exact gB _ _
def clip_eq  v (n d:Nat):(if v<0 then max (v+(n:Int)) 0 else min v (n))=((sIx n d (aT v))):=by
 show(if v<0 then max (v+(n)) 0 else min v (n))=(((if v<0 then(v+(n)).toNat else min v.toNat n)));lia
def adjust_gen  h y (n:Nat):d5 h y 1 (n)=(((sIx n 0 h):Int),((sIx n n y):Int)):=by
 have G:=by omega
 unfold d5;simp only[if_false];refine fI ?_ ?_
 .cases h with
  | none=>rfl
  | some v=>exact clip_eq v n 0
 .cases y with
  | none=>rfl
  | some v=>exact clip_eq v n n
def places_gen (i j:Nat):c7 (i) (j) 1=j - i:=by
 unfold c7;lia
def slicePart_ (p:gj v o)(h:Q o s):wpAny (model prog w) A (lh v) Q E s:=by
 cases p with
 | none=>exact slicePart_none h
 | int i t=>exact slicePart_int h
def sliceApplied_gen {Q:Int×Int×Nat->ah->Prop}(hs:s.heap.IsSliceOf sl vl vu .none)(pl:gj vl y)(pu:gj vu J)
  (h:Q (((sIx n 0 y:Nat):Int),1,sIx n n J - sIx n 0 y) s):wpAny (model prog w) A (fO (.ref sl) (pure (n))) Q E s:=by
 obtain⟨os,G,Z,Y⟩:=id hs;unfold fO lO;refine al (al (cD G Y rfl (al (cD G Y rfl (al (cD G Y rfl (aF ?_)))))));refine al (slicePart_none ?_)
 skip
 rw[gn (by decide)];refine al (slicePart_ pl (al (slicePart_ pu (al (aF ?_)))));show wpAny _ _ (match d5 y J 1 (n)with|(y,J)=>pure (y,(1:Int),c7 y J 1)) _ _ s;rw[adjust_gen y J n];show wpAny _ _ (pure (((sIx n 0 y):Int),(1),c7 ((sIx n 0 y)) ((sIx n n J)) 1)) _ _ s;rw[places_gen];exact aF h
def pick_gen (h:yJ)(i k:Nat):((ae k).filterMap λ(m:Nat)=>h[((i)+(m:Int)*1).toNat]?).toArray=((h.toList.drop i).take k).toArray:=by
 have e:(λ(m:Nat)=>h[((i)+(m:Int)*1).toNat]?)=λ m=>h[i+m]?:=by
  grind
 rw[e];have:=pick_run h i k;rw[eD]at this;have e2:((λ x=>h[x]?) ∘ λ x=>i+x)=λ m=>h[i+m]?:=rfl;lia
def getItem_tuple_cut {y:yJ}(ht:IsTup s.heap t y)(hs:s.heap.IsSliceOf sl vl vu .none)(pl:gj vl J)(pu:gj vu Y)
  (hw:¬(sIx y.size 0 J=0/\sIx y.size y.size Y=y.size))
  (h:Q (.ref s.heap.objs.size) { s with heap:=s.heap.push { cls:=.type "tuple",data:=.seq ((y.toList.drop (sIx y.size 0 J)).take (sIx y.size y.size Y - sIx y.size 0 J)).toArray } })
  (hsz:y.size<=aR):wpAny (model prog w) A (gQ (.ref t) (.ref sl)) Q E s:=by
 have G:sizeOk (.seq ((y.toList.drop (sIx y.size 0 J)).take (sIx y.size y.size Y - sIx y.size 0 J)).toArray):=by
  show((y.toList.drop (sIx y.size 0 J)).take (sIx y.size y.size Y - sIx y.size 0 J)).toArray.size<=aR;rw[aA,br,fc,fx];omega
 have hj:sIx y.size y.size Y<=y.size:=sIx_le _ _ (ai _) Y;obtain⟨os,a1,a2,a3⟩:=id hs;have Z:s.TypeIs (.ref sl) "slice":=⟨os,a1,a2⟩
 unfold gQ
 try with_reducible refine dL ?_
 first|refine al (aF ?_)|skip
 refine al (kM ht.typeIs (by decide) ?_);refine al (cw (name:=bX "__getitem__") ht.typeIs bz
  (cG bz ht.typeIs i3 ?_ (kx _ _)))
 show wpAny _ _ (dU (.ref t) >>= _) _ _ s;refine al (kh ht ?_);refine al (gR Z ?_);rw[gc (by decide)];refine al (sliceApplied_gen hs pl pu ?_);have a0:¬((((sIx y.size 0 J:Nat):Int)==0&&(1:Int)==1&&(sIx y.size y.size Y - sIx y.size 0 J)==y.size)=cn):=by
  lia
 show wpAny _ _ (if(((sIx y.size 0 J:Nat):Int)==0&&(1:Int)==1&&(sIx y.size y.size Y - sIx y.size 0 J)==y.size)=cn then _ else _) _ _ s;rw[gn a0,pick_gen]
 first
  | exact al (m:=dr _) (bJ (aF ⟨_,rfl,aF h⟩) G)
  | exact al (m:=dr _) (bJ (al (aF (aF ⟨_,rfl,aF h⟩))) G)
  | exact al (al (m:=dr _) (bJ (aF (aF ⟨_,rfl,aF h⟩)) G))
  | exact al (al (m:=dr _) (bJ (aF ⟨_,rfl,aF h⟩) G))
end
end HT
noncomputable section
namespace L2
open PySem PySem.Spec PyProof.Rows
abbrev TO:=St->Hp->(Option Int->Hp->Prop)->Prop
def PO (X:Cx)(e:Option Expr)(t:TO):Prop :=
 ∀ pins   s  (W:St)  H   Q ,Inv X pins W H s->t W H Q ->
  wpAny (model X.prog X.w) X.A (evalPart e X.env) (λ u s'=>∃ o H',Inv X pins W H' s'/\gj u o/\Q o H') X.xe s
noncomputable def aQ8:TO:=λ _ H Q=>Q bY H
noncomputable def bn8 (t:TE):TO:=λ W H Q=>t W H λ x H1=>∃ i,x=.int i/\Q (aT i) H1
section
variable {X:Cx} {e:Expr} {te:TE} {lo hi:Option Expr} {tl th:TO} {pos p2:Pos}
def bJ4:PO X bY aQ8:=by
 intro y s W H Q I h;rw[evalPart_none];exact aF ⟨bY,H,I,.none,h⟩
def bW4 (h:PE X e te):PO X (aT e) (bn8 te):=by
 intro y s W H Q I hw;rw[evalPart_some];refine thn (h y s W H _ I hw) λ u s1 ⟨x,Y,J,r1,G⟩=>?_;obtain⟨i,rfl,q⟩:=G;obtain⟨t,rfl⟩:=r1;exact⟨aT i,Y,J,.int i t,q⟩
def SlR (X:Cx)(r:V->Option Int->Option Int->Hp->VK->Prop):Prop :=
 ∀ pins   s  (W:St)  H   x   v vl vu   lo hi   sl   Q ,Inv X pins W H s->RelV x v->s.heap.IsSliceOf sl vl vu .none->gj vl lo->gj vu hi->r x lo hi H Q ->
  ∃ T id,typeLookup (.type T) "__getitem__"=pure (aT (.builtin id))/\s.TypeIs v T/\wpAny (model X.prog X.w) X.A (gQ v (.ref sl)) (EP X pins W Q) X.xe s
def tSl (r:V->Option Int->Option Int->Hp->VK->Prop)(te:TE)(tl th:TO):TE:=λ W H Q=>te W H λ x H1=>tl W H1 λ l H2=>th W H2 λ u H3=>r x l u H3 Q
def bv5 (hr:SlR X r)(he:PE X e te)(hl:PO X lo tl)(hu:PO X hi th):PE X (.Subscript e (.Slice lo hi bY p2) pos) (tSl r te tl th):=by
 intro y s W H Q I h;refine Subscript_ (thn (he y s W H _ I h) λ v s1 ⟨x,H1,Z,r1,Y⟩=>?_);refine wpAny_Slice (thn (hl y s1 W H1 _ Z Y) λ vl s2 ⟨l,H2,I2,J,q2⟩=>thn (hu y s2 W H2 _ I2 q2) λ vu s3 ⟨u,G,I3,pu,q3⟩=>?_);rw[evalPart_none];refine aF ?_;have I4:Inv X y W G { s3 with heap:=s3.heap.push { cls:=.type "slice",data:=.fields #[vl,vu,.none] } }:=I3.kept λ b ob q=>aj _ q;obtain⟨T,id,hT,ht,hg⟩:=hr y { s3 with heap:=s3.heap.push { cls:=.type "slice",data:=.fields #[vl,vu,.none] } } W G x v vl vu l u s3.heap.objs.size Q I4 r1 (mH ..) J pu q3
 skip
 exact tail_any ht hT hg (by with_unfolding_all rfl)
noncomputable def ba8 (xs:List V)(lo hi:Option Int):List V:=(xs.drop (HT.sIx xs.length 0 lo)).take (HT.sIx xs.length xs.length hi - HT.sIx xs.length 0 lo)
def av5  h  G y :(ba8 h G y).length<=h.length:=by
 unfold ba8;rw[br,fc];lia
def cC3 (K:af):V->Option Int->Option Int->Hp->VK->Prop:=λ x lo hi H Q=>∃ a xs,x=.ref a/\SqT K H a xs /\
 ¬(HT.sIx xs.length 0 lo=0/\HT.sIx xs.length xs.length hi=xs.length)/\∀ p,H p=bY->Q (.ref p) (upd H p (.tp (ba8 xs lo hi)))
def ca7:SlR X (cC3 X.K):=by
 intro Z s W H x v vl vu J Y sl Q I rx hs pl pu h;refine wl λ _ kk=>?_;obtain⟨a,G,rfl,hx,hw,q⟩:=h;cases rx;obtain⟨its,r,ht,hz⟩:=I.tuple hx;have y:its.toArray.size=G.length:=by rw[aA];exact r.length.symm
 refine kk ⟨"tuple",_,bz.lookup,ht.typeIs,?_⟩;refine HT.getItem_tuple_cut ht hs pl pu (by rw[y];exact hw) ?_ (by rw[y];exact hz);rw[y];refine⟨.ref s.heap.objs.size,_,I.laid (λ b ob q=>aj _ q) (ai _) ?_,rfl,q _ (I.hok.fresh (ai _))⟩;exact⟨am (av5 G J Y) hz,_,(r.drop (HT.sIx G.length 0 J)).take (HT.sIx G.length G.length Y - HT.sIx G.length 0 J),kY _ _⟩
def cs2 (K:af):R2:=λ x y H Q=>∃ a b xs ys,x=.ref a/\y=.ref b/\SqT K H a xs/\SqT K H b ys/\xs≠[]/\xs.length+ys.length<=aR /\
 (ys=[]->Q (.ref a) H)/\(ys≠[]->∀ p,H p=bY->Q (.ref p) (upd H p (.tp (xs++ys))))
def Vals.nil_iff {us:yG}(r:Vals h us):us=[]↔h=[]:=by
 cases r with
 | nil=>simp
 | cons _ _=>simp
def bV9:OpR X (cF .Add) (cs2 X.K):=by
 intro J s W H x y v u Q I rx ry h;refine wl λ _ kk=>?_;obtain⟨a,b,xs,ys,rfl,rfl,ha,hb,hx,hz,Z,q2⟩:=h;cases rx;cases ry;obtain⟨its,r1,p1,_⟩:=I.tuple ha;obtain⟨Y,G,p2,_⟩:=I.tuple hb;refine kk ?_;refine HT.cat_tup p1 p2 (λ z=>hx (r1.nil_iff.mp z)) (λ z=>⟨.ref a,H,I,rfl,Z (G.nil_iff.mp z)⟩) (λ z=>?_) (by rw[<-r1.length,<-G.length];exact hz);refine⟨.ref s.heap.objs.size,_,I.laid (λ b ob q=>aj _ q) (ai _) ?_,rfl,q2 (λ w=>z (G.nil_iff.mpr w)) _ (I.hok.fresh (ai _))⟩;exact⟨by simp_all,_,r1.append G,kY _ _⟩
end
noncomputable def ixN (n:Nat)(i:Int):Option Nat:=if 0<=i then(if i<n then aT i.toNat else bY)else if -(n)<=i then aT (i+n).toNat else bY
def atI {α:Type}(xs:List α)(i:Int):Option α:=(ixN xs.length i).bind λ j=>xs[j]?
def bf5 (h:ixN n i=aT j):seqIndex? i n=aT j/\j<n/\-(n)<=i/\i<n:=by
 unfold ixN at h;by_cases h0:0<=i
 .rw[gc h0]at h;by_cases h1:i<n
  .rw[gc h1]at h;have e:=aq h;exact⟨by rw[lb h0 h1,e],by lia,by lia,h1⟩
  .rw[gn h1]at h;cases h
 .rw[gn h0]at h;by_cases h1:-(n)<=i
  .rw[gc h1]at h;have e:=aq h;exact⟨by rw[kN (by lia) h1,e],by lia,h1,by lia⟩
  .rw[gn h1]at h;cases h
def aN5 (h:atI y i=aT v):∃ j,seqIndex? i y.length=aT j/\y[j]?=aT v/\j<y.length/\-(y.length)<=i/\i<y.length:=by
 unfold atI at h;cases e:ixN y.length i with
 | none=>simp_all
 | some j =>
  rw[e]at h;obtain⟨G,J,h3,Y⟩:=bf5 e;exact⟨j,G,h,J,h3,Y⟩
def bi7 (b:Expr):Prop:=∀ o i,subscripted b dt o i=operate [o,i] (gQ o i)
def IxR (X:Cx)(r:R2):Prop :=
 ∀ value slice   pins   s  (W:St)  H   x y   v u   Q ,Inv X pins W H s->RelV x v->RelV y u->r x y H Q ->
  subscripted slice dt v u=operate [v,u] (gQ v u)->wpAny (model X.prog X.w) X.A (subscriptTail value slice v u) (EP X pins W Q) X.xe s
def MtR (X:Cx)(id:String)(r:V->List V->Hp->VK->Prop):Prop :=
 ∀ pins   s  (W:St)  H   x   xs   v  (us:yG)  Q ,Inv X pins W H s->RelV x v->Vals xs us->r x xs H Q ->
  wpAny (model X.prog X.w) X.A (call (.builtin id) (v::us)) (EP X pins W Q) X.xe s
section
variable {X:Cx} {a b:Expr} {ta tb:TE} {pos:Pos}
def ct7 (Y:IxR X r)(ha:PE X a ta)(hb:PE X b tb)(hs:bi7 b):PE X (.Subscript a b pos) (tOp r ta tb):=by
 intro G s W H Q I h;exact Subscript_ (cv5 ha hb I h λ v u s2 x y H2 I2 Z J q=>Y a b G s2 W H2 x y v u Q I2 Z J q (hs _ _))
def cz7 (K:af):R2:=λ x y H Q=>∃ p xs i v,x=.ref p/\y=.int i/\SqL K H p xs/\atI xs i=aT v/\Q v H
def cy8 (K:af):R2:=λ x y H Q=>∃ p xs i v,x=.ref p/\y=.int i/\SqT K H p xs/\atI xs i=aT v/\Q v H
def cA3:R2:=λ x y H Q=>∃ z i c,x=.str z/\y=.int i/\z.length<=aR/\atI z.cps.toList i=aT c/\Q (.str ⟨#[c]⟩) H
def bS5:IxR X (cz7 X.K):=by
 intro Z a1 G s W H x y v u Q I rx ry h hs;obtain⟨p,xs,i,z,rfl,rfl,hq,he,q⟩:=h;cases rx;obtain⟨t,rfl⟩:=ry;obtain⟨its,r,Y,hz⟩:=I.list hq;obtain⟨j,J,h2,h3,h4,h5⟩:=aN5 he;obtain⟨w,ew,a0⟩:=r.get h2;have hl:=r.length;have hn:=ax4;have fin:EP X G W Q w s:=⟨z,H,I,a0,q⟩
 by_cases h0:0<=i
 .have hj:=by
   rw[lb h0 h5]at J;exact aq J
  exact item_listR Y.isList h0 (by lia) (by rw[hj];simpa using ew) fin hs
 .have hj:(i+(its.toArray.size)).toNat=j:=by
   rw[kN (by lia) h4]at J;rw[aA,<-hl];exact aq J
  exact gS Y.isList.typeIs kO.lookup
   (wpAny_getItem_list_neg Y.isList (by omega) (by rw[aA]<;>lia) (by lia) (by rw[hj];simpa using ew) ⟨rfl,fin⟩) hs
def ix_tup:IxR X (cy8 X.K):=by
 intro J Z G s W H x y v u Q I rx ry h hs;obtain⟨p,xs,i,z,rfl,rfl,hq,he,q⟩:=h;cases rx;obtain⟨t,rfl⟩:=ry;obtain⟨its,r,pl,hz⟩:=I.tuple hq;obtain⟨j,h1,h2,h3,h4,h5⟩:=aN5 he;obtain⟨w,ew,Y⟩:=r.get h2;have hl:=r.length;have hn:=ax4;have fin:EP X G W Q w s:=⟨z,H,I,Y,q⟩
 exact gS pl.typeIs bz.lookup
  (getItem_tuple pl (by lia) (by lia) (by rw[aA,<-hl];exact h1) (by simpa using ew) ⟨rfl,fin⟩) hs
def ix_str:IxR X cA3:=by
 intro G J Z s W H x y v u Q I rx ry h hs;refine wl λ _ kk=>?_;obtain⟨z,i,c,rfl,rfl,hz,he,q⟩:=h;obtain⟨t,rfl⟩:=rx;obtain⟨t',rfl⟩:=ry;obtain⟨j,Y,h2,h3,h4,h5⟩:=aN5 he;have hl:z.cps.toList.length=z.length:=by simp[Str.length]
 rw[hl]at Y h4 h5;have hn:=ax4;exact kk $ tail_any (lE s z t) slot_str_getitem.lookup (getItem_str (by
  lia) (by simp_all) ⟨.str ⟨#[c]⟩,H,I.tok _,⟨_,rfl⟩,q⟩) hs
def aZ6 (its:yG) n j  u :gT (·.setIfInBounds j u) { cls:=.type "list",data:=.seq its.toArray n }={ cls:=.type "list",data:=.seq (its.set j u).toArray n }:=by
 simp[gT]
def Inv.lst {W:St}(I:Inv X y W H s)(h:H p=aT (.J G)) :
  ∃(its:yG) (n:Nat),Vals G its/\s.heap.get? p=aT { cls:=.type "list",data:=.seq its.toArray n }/\G.length<=aR:=by
 obtain⟨z,its,n,r,e⟩:=I.hok p _ h;exact⟨its,n,r,e,z⟩
def Inv.lstUpd {W:St}{its its':yG}(I:Inv X y W H s)(h:H p=aT (.J Y))
  (ho:s.heap.get? p=aT { cls:=.type "list",data:=.seq its.toArray n }) (J:f { cls:=.type "list",data:=.seq its.toArray n }={ cls:=.type "list",data:=.seq its'.toArray G }) (r:Vals ys its') (hz:ys.length<=aR)  t  :
  Inv X y W (upd H p (.J ys)) { s with heap:=s.heap.update p f,toks:=t }:=by
 have e:(s.heap.update p f).get? p=aT { cls:=.type "list",data:=.seq its'.toArray G }:=by
  rw[dN f ho (by rw[J]<;>rfl),J]
 refine I.write (by rw[h];trivial) (.inl rfl) (λ b u hb q=>(b7 _ _ (cg hb)).trans q) ⟨_,e⟩ ?_;exact⟨hz,its',G,r,e⟩
def cs1:V->V->V->Hp->(Hp->Prop)->Prop:=λ o i v H Q=>∃ p xs k j,o=.ref p/\i=.int k/\H p=aT (.J xs)/\ixN xs.length k=aT j/\Q (upd H p (.J (xs.set j v)))
def bv7:ct0 X cs1:=by
 intro y s W H o i v ov iv u Q I ro ri rv h;obtain⟨p,xs,k,j,rfl,rfl,J,hj,q⟩:=h;cases ro;obtain⟨t,rfl⟩:=ri;obtain⟨its,n,r,ho,hz⟩:=I.lst J;obtain⟨G,h2,h3,Z⟩:=bf5 hj;have hl:=r.length;have hn:=ax4;have Y :=
  I.lstUpd J ho (aZ6 its n j u) (r.set rv j) (by rw[bE];exact hz) s.toks
 by_cases h0:0<=k
 .have hk:=by
   rw[lb h0 Z]at G;exact aq G
  exact PySem.W.ki_setAt ho h0 (by lia) (by rw[aA,<-hl];exact Z) (by rw[hk];exact⟨_,Y,q⟩)
 .have hk:(k+(its.toArray.size)).toNat=j:=by
   rw[kN (by lia) h3]at G;rw[aA,<-hl];exact aq G
  exact PySem.W.ki_setBack ho (by omega) (by rw[aA,<-hl];exact h3) (by lia) (by rw[hk];exact⟨_,Y,q⟩)
def aG7  y G  n :(eJ y G bY n).1=((HT.sIx n 0 y))/\(eJ y G bY n).2.1=((HT.sIx n n G))/\(eJ y G bY n).2.2=1:=by
 refine⟨?_,?_,rfl⟩
 .cases y with
  | none=>simp[eJ,HT.sIx]
  | some i =>
   simp only[eJ,HT.sIx,kZ,if_true];by_cases h:i<0
   .simp only[h,if_true]<;>lia
   .simp only[h,if_false]<;>lia
 .cases G with
  | none=>simp[eJ,HT.sIx]
  | some i =>
   simp only[eJ,HT.sIx,kZ,if_true];by_cases h:i<0
   .simp only[h,if_true]<;>omega
   .simp only[h,if_false]<;>omega
def aF7 (its:yG) h y :slicePick its.toArray h y bY=((its.drop (HT.sIx its.length 0 h)).take (HT.sIx its.length its.length y - HT.sIx its.length 0 h)).toArray:=by
 obtain⟨G,J,h3⟩:=aG7 h y its.toArray.size;unfold slicePick;rw[G,J,h3];simp only[sliceRange_one,pick_run]<;>rfl
def cz1 (K:af):V->Option Int->Option Int->Hp->VK->Prop:=λ x lo hi H Q=>∃ a xs,x=.ref a/\SqL K H a xs/\∀ p,H p=bY->Q (.ref p) (upd H p (.J (ba8 xs lo hi)))
def bK2:SlR X (cz1 X.K):=by
 intro Z s W H x v vl vu J Y sl Q I rx hs pl pu h;refine wl λ _ kk=>?_;obtain⟨a,y,rfl,hx,q⟩:=h;cases rx;obtain⟨its,r,ht,hz⟩:=I.list hx;have G:=r.length;refine kk ⟨"list",_,kO.lookup,ht.isList.typeIs,?_⟩;refine wpAny_getItem_list_slice ht.isList hs pl pu .none (by simp) ?_ (by simp_all);rw[aF7,<-G];refine⟨.ref s.heap.objs.size,_,I.laid (λ b ob q=>aj _ q) (ai _) ?_,rfl,q _ (I.hok.fresh (ai _))⟩;exact⟨am (av5 y J Y) hz,_,0,(r.drop (HT.sIx y.length 0 J)).take (HT.sIx y.length y.length Y - HT.sIx y.length 0 J),aM _ rfl⟩
def aG9:ai0 X (.builtin "len") (λ Y H Q=>∃ p ys,Y=[.ref p]/\(SqL X.K H p ys\/SqT X.K H p ys)/\Q (.int ys.length) H):=by
 intro Z s W H Y us Q I r h;obtain⟨p,ys,rfl,hq,q⟩:=h;obtain⟨u,rfl,rx⟩:=j9 r;cases rx;have hn:=ax4;rcases hq with hq|hq
 .obtain⟨its,G,J,hz⟩:=I.list hq;have y:=G.length;exact Calls.call_len_list J.isList (by grind) ⟨.int ys.length,H,I.tok _,⟨s.toks+1,by grind⟩,q⟩
 .obtain⟨its,G,J,hz⟩:=I.tuple hq;have y:=G.length;exact len_tuple J (by grind) ⟨.int ys.length,H,I.tok _,⟨s.toks+1,by grind⟩,q⟩
def aM6:ai0 X (.builtin "len") (λ y H Q=>∃ z,y=[.str z]/\z.length<=aR/\Q (.int z.length) H):=by
 intro G s W H y us Q I r h;obtain⟨z,rfl,hz,q⟩:=h;obtain⟨u,rfl,t,rfl⟩:=j9 r;have hn:=ax4;exact len_str (by lia) ⟨.int z.length,H,I.tok _,⟨_,rfl⟩,q⟩
def ai0.or (h:ai0 X f r)(h':ai0 X f J):ai0 X f (λ G H Q=>r G H Q\/J G H Q):=by
 intro y s W H G us Q I Y q;rcases q with q|q
 .exact h y s W H G us Q I Y q
 .exact h' y s W H G us Q I Y q
def aM3:ai0 X (.type "list") (λ xs H Q=>∃ p ys,xs=[.ref p]/\(SqL X.K H p ys\/SqT X.K H p ys)/\∀ l,H l=bY->Q (.ref l) (upd H l (.J ys))):=by
 intro Y s W H xs us Q I r h;obtain⟨p,ys,rfl,hq,q⟩:=h;obtain⟨u,rfl,rx⟩:=j9 r;cases rx;have fin:∀ its ,Vals ys its->ys.length<=aR->∀ h'   G ,(∀ b o',s.heap.get? b=aT o'->h'.get? b=aT o') ->
   h'.get? s.heap.objs.size=aT { cls:=.type "list",dict:=bY,data:=.seq its.toArray G,slots:=#[] }->EP X Y W Q (.ref s.heap.objs.size) { s with heap:=h' }:=λ its y hz h' G kp e =>
  ⟨.ref s.heap.objs.size,_,I.laid kp (ai _) (show ai1 X.prog X.w _ h' _ (.J ys)from⟨hz,its,G,y,e⟩),rfl,q _ (I.hok.fresh (ai _))⟩
 rcases hq with hq|hq
 .obtain⟨its,y,Z,hz⟩:=I.list hq;have J:=y.length;obtain⟨o,ho,hc,n,hd⟩:=Z.isList;exact call_list_seq p (.inl rfl) ho hc hd (λ h' G kp e=>fin its y hz h' G kp e) (by simp_all)
 .obtain⟨its,y,Z,hz⟩:=I.tuple hq;have J:=y.length;obtain⟨o,ho,hc,n,hd⟩:=Z;exact call_list_seq p (.inr rfl) ho hc hd (λ h' G kp e=>fin its y hz h' G kp e) (by simp_all)
def aD0:ai0 X (.type "tuple") (λ xs H Q=>∃ p ys,xs=[.ref p]/\((SqL X.K H p ys/\∀ l,H l=bY->Q (.ref l) (upd H l (.tp ys)))\/(SqT X.K H p ys/\Q (.ref p) H))):=by
 intro y s W H xs us Q I r h;obtain⟨p,ys,rfl,h⟩:=h;obtain⟨u,rfl,rx⟩:=j9 r;cases rx;rcases h with⟨hq,q⟩|⟨hq,q⟩
 .obtain⟨its,G,J,hz⟩:=I.list hq;have Y:=G.length;refine call_tuple_list J.isList (λ h' kp=>?_) (by simp_all);have Z:=I.kept (t':=s.toks) kp;have I2 :=
   Z.laid (t':=s.toks) (λ b o e=>aj _ e) (ai _) (show ai1 X.prog X.w _ _ _ (.tp ys)from⟨hz,its,G,kY _ _⟩)
  exact⟨.ref h'.objs.size,_,I2,rfl,q _ (Z.hok.fresh (ai _))⟩
 .obtain⟨its,G,J,hz⟩:=I.tuple hq;exact call_tuple_same J ⟨.ref p,H,I,rfl,q⟩
def tyV (K:af)(T:String)(x:V)(H:Hp):Prop:=match x with
 | .str _=>T = "str"
 | .int _=>T = "int"
 | .ref p=>(T = "list"/\∃ xs,SqL K H p xs)\/(T = "tuple"/\∃ o,K.lookup p=aT o/\o.cls=.type "tuple"/\o.dict=bY) \/
   (T = "dict"/\((∃ kvs,H p=aT (.dK kvs))))
 | _=>False
def bE7 {W:St}(I:Inv X h W H s)(r:RelV x v)(y:tyV X.K T x H) :
  s.TypeIs v T/\∀ a,v=.ref a->∃ ob,s.heap.get? a=aT ob/\ob.dict=none:=by
 cases x with
 | str z =>
  obtain⟨t,rfl⟩:=r;cases(y);exact⟨lE s z t,λ _ e=>nomatch e⟩
 | int i =>
  obtain⟨t,rfl⟩:=r;cases(y);exact⟨gU s i t,λ _ e=>nomatch e⟩
 | ref p =>
  cases r;rcases y with⟨rfl,J,hq⟩|⟨rfl,o,hk,hc,hd⟩|⟨rfl,kvs,hk⟩
  .obtain⟨its,_,G,_⟩:=I.list hq;refine⟨G.isList.typeIs,λ a e=>?_⟩;cases e;obtain⟨o,n,e,c,hd,_⟩:=G;exact⟨o,e,hd⟩
  .refine⟨⟨o,I.kIn p o hk,hc⟩,λ a e=>?_⟩;cases e;exact⟨o,I.kIn _ o hk,hd⟩
  .refine wl λ _ kk=>?_;obtain⟨_,_,_,_,o,_,_,e,ex,_⟩:=I.hok p _ hk;refine kk ⟨⟨o,e,ex.1⟩,λ a e2=>?_⟩;cases e2;exact⟨o,e,ex.2.1⟩
 | _=>exact bG y
def cx2 (K:af)(T:String)(r:V->List V->Hp->VK->Prop)(to:TE):TE:=λ W H Q=>to W H λ x H1=>tyV K T x H1/\r x [] H1 Q
def tBM (K:af)(T:String)(r:V->List V->Hp->VK->Prop)(to:TE)(t:TA):TE:=λ W H Q=>to W H λ x H1=>tyV K T x H1/\t W H1 λ xs H2=>r x xs H2 Q
variable {o e:Expr} {es:yK} {to:TE} {t:TA} {name:Str} {apos cpos:Pos} {T id:String} {r:V->List V->Hp->VK->Prop}
def ca6 (pa:lF T)(slot:Slot T name id)(Y:typeOf (.builtin id)=pure (.type "method_descriptor"))(hm:MtR X id r)(ho:PE X o to)
  (J:autoParam (gk o name X.env (eval o X.env)=eval o X.env) Zq4._auto_1) (G:autoParam ((apos.endLine==cpos.line)=cn) Zq4._auto_1):PE X (.Call (.Attribute o name apos) [] [] cpos) (cx2 X.K T r to):=by
 intro y s W H Q I h;refine wpAny_Call_method0_late J G (thn (ho y s W H _ I h) λ v s1 ⟨x,H1,Z,r1,ty,q1⟩=>?_);obtain⟨h1,h2⟩:=bE7 Z r1 ty;exact⟨T,id,pa,slot,Y,h1,h2,gX rfl (PySem.evalArgs_none (hm y s1 W H1 x [] v [] Q Z r1 .nil q1))⟩
def cq2 (pa:lF T)(slot:Slot T name id)(a0:typeOf (.builtin id)=pure (.type "method_descriptor"))(hm:MtR X id r)(ho:PE X o to)(ha:PA X (e::es) t)
  (J:autoParam (gk o name X.env (eval o X.env)=eval o X.env) Zq4._auto_1)
  (Z:autoParam (((eN cpos (bh (e::es) X.env)).all (λ x=>!x.1)&&(backToKw cpos (keywordEach [] X.env)).all (λ x=>x.1.isSome)
   && decide ((e::es).length+([]:List lu).length+(if([]:List lu).isEmpty then 0 else 1)<30))=cn) Zq4._auto_1)
  (Y:autoParam ((apos.endLine==cpos.line)=cn) Zq4._auto_1) (hs:autoParam (bh (e::es) X.env=(dt,eval e X.env)::bh es X.env) Zq4._auto_1) (G:autoParam ((eN cpos (bh es X.env)).any (·.1)=dt) Zq4._auto_1) :
  PE X (.Call (.Attribute o name apos) (e::es) [] cpos) (tBM X.K T r to t):=by
 intro y s W H Q I h;refine wpAny_Call_method_late J Z Y rfl (thn (ho y s W H _ I h) λ v s1 ⟨x,H1,I1,r1,ty,q1⟩=>?_);obtain⟨h1,h2⟩:=bE7 I1 r1 ty;refine⟨T,id,pa,slot,a0,h1,h2,?_⟩;have hA:=ha cpos y s1 W H1 _ I1 q1;rw[hs]at hA ⊢;refine gX (by show(dt||(eN cpos (bh es X.env)).any (·.1))=dt;rw[G]<;>rfl) (Calls.evalArgs_plain ?_);exact thn hA λ us s2 ⟨vs,H2,I2,r2,q2⟩=>hm y s2 W H2 x vs v us Q I2 r1 r2 q2
end
def MtM (X:Cx)(id:String)(r:V->List V->Hp->VK->Prop):Prop :=
 ∀ pins   s  (W:St)  H   x   xs   v  (us:yG)  Q ,Inv X pins W H s->RelV x v->Vals xs us->r x xs H Q ->
  wpAny (model X.prog X.w) X.A (call (.builtin id) (v::us)) (EP X pins W Q) X.xe s
def Vals.one:∀ {x} {us:yG},Vals [x] us->∃ u,us=[u]/\RelV x u
 | _,_,.cons r .nil=>⟨_,rfl,r⟩
def Vals.zero:∀ {us:yG},Vals [] us->us=[]
 | _,.nil=>rfl
theorem Vals.dropLast {us:yG}(h:Vals y us):Vals y.dropLast us.dropLast:=by
 induction h with
 | nil=>exact .nil
 | cons r t ih =>
  cases t with
  | nil=>exact .nil
  | cons q t'=>exact .cons r ih
theorem Vals.rep {us:yG}(h:Vals y us):∀ k:Nat,Vals (ak k y).flatten (ak k us).flatten
 | 0=>.nil
 | k+1=>by
  rw[bQ,bQ,db,db];exact Vals.append h (Vals.rep h k)
theorem aL0 (its:yG):∀ k  (h:yG),
  lG (λ x1 y=>x1++y) h.toArray (ak k its.toArray)=(h++(ak k its).flatten).toArray
 | 0,h=>by simp
 | k+1,h=>by
  have e:h.toArray++its.toArray=(h++its).toArray:=by simp
  have e2:(h++its)++(ak k its).flatten=h++(ak (k+1) its).flatten:=by
   rw[bQ,db,cb]
  rw[<-e2,<-aL0 its k (h++its),<-e,bQ,cq]
section
variable {X:Cx} {pins:yA} {W:St} {H:Hp} {s:ah} {l b:Addr} {xs ys zs:List V}
def Inv.lset {its its':yG}(I:Inv X pins W H s)(y:H l=aT (.J xs))
  (e:s.heap.get? l=aT { cls:=.type "list",data:=.seq its.toArray n }) (h:f its.toArray=its'.toArray) (hv:Vals ys its') (hz:ys.length<=aR) :
  Inv X pins W (upd H l (.J ys)) { s with heap:=s.heap.update l (gT f),toks:=t' }:=by
 have q:=PySem.IsL.update e f;rw[h]at q;refine I.write (by rw[y];exact trivial) (.inl rfl) (λ G u hb hu=>(b7 s.heap (gT f) (cg hb)).trans hu) ⟨_,q⟩ ?_;exact⟨hz,its',_,hv,q⟩
def Inv.lnew {its:yG}(I:Inv X pins W H s)(hv:Vals ys its)(hz:ys.length<=aR) :
  Inv X pins W (upd H s.heap.objs.size (.J ys)) { s with heap:=s.heap.push { cls:=.type "list",data:=.seq its.toArray },toks:=t' } :=
 I.laid (λ _ _ q=>aj _ q) (ai _) ⟨hz,its,0,hv,aM _ rfl⟩
theorem Inv.fresh (I:Inv X pins W H s):H s.heap.objs.size=none:=I.hok.fresh (ai _)
def Inv.lstM (I:Inv X pins W H s)(h:H l=aT (.J xs)):xs.length<=aR/\∃(its:yG) (n:Nat),Vals xs its/\xs.length=its.length/\s.heap.get? l=aT { cls:=.type "list",data:=.seq its.toArray n }:=by
 obtain⟨z,its,n,r,e⟩:=I.hok l _ h;exact⟨z,its,n,r,r.length,e⟩
def bv9 (h:n<=aR):ee n=false:=by
 unfold ee;lia
end
section
variable {X:Cx}
def bK7:V->List V->Hp->VK->Prop:=λ x vs H Q=>∃ l xs y,x=.ref l/\vs=[y]/\H l=aT (.J xs)/\xs.length<aR/\Q .N (upd H l (.J (xs++[y])))
def aJ3:MtM X "list.append" bK7:=by
 intro J s W H x vs v us Q I Z Y h;refine wl λ _ kk=>?_;obtain⟨l,xs,y,rfl,rfl,G,hz,q⟩:=h;cases Z;obtain⟨u,rfl,ru⟩:=Y.one;obtain⟨z,its,n,r,hl,e⟩:=I.lstM G;refine kk ?_;refine kz im ⟨_,e,rfl⟩ F.entry_list_append (F.args_list_append_2 _ _) (PySem.list_append l its.toArray n u (by simp_all)) ⟨e,?_⟩;refine⟨.N,_,I.lset G e (by simp) (r.append (.cons ru .nil)) ?_,rfl,q⟩
 grind
def cC0:R2:=λ x y H Q=>∃ l b xs zs,x=.ref l/\y=.ref b/\H l=aT (.J xs)/\H b=aT (.J zs)/\xs.length+zs.length<=aR/\∀ p,H p=bY->Q (.ref p) (upd H p (.J (xs++zs)))
def ce9:OpR X (cF .Add) cC0:=by
 intro J s W H x y v u Q I Y ry h;refine wl λ _ kk=>?_;obtain⟨l,b,xs,zs,rfl,rfl,hH,hB,hz,q⟩:=h;cases Y;cases ry;obtain⟨z,its,n,r,hl,e⟩:=I.lstM hH;obtain⟨z2,G,n2,r2,hl2,e2⟩:=I.lstM hB;refine kk ?_;refine PySem.P.add_list e e2 ?_ (by simp_all);have Z:its.toArray++G.toArray=(its++G).toArray:=by simp
 rw[Z];exact⟨.ref _,_,I.lnew (r.append r2) (by simp_all),rfl,q _ I.fresh⟩
def cB2:R2:=λ x y H Q=>∃ l k xs,x=.ref l/\y=.int k/\H l=aT (.J xs)/\-(2^63)<=k/\k<2^63/\xs.length*k.toNat<=aR /\
 ∀ p,H p=bY->Q (.ref p) (upd H p (.J (ak k.toNat xs).flatten))
def bS9 {α:Type}(h:List α) k :(ak k h).flatten.length=k*h.length:=by
 simp_all
def ci5:OpR X (cF .Mult) cB2:=by
 intro a1 s W H x y v u Q I rx ry h;obtain⟨l,k,xs,rfl,rfl,hH,h1,h2,hz,q⟩:=h;cases rx;obtain⟨t,rfl⟩:=ry;obtain⟨z,its,n,r,hl,e⟩:=I.lstM hH;have a0:its.toArray.size*k.toNat<=aR:=by rw[aA,<-hl];exact hz
 have Y:¬ its.toArray.size*k.toNat > (2^63 - 1) / 8:=by
  have:(aR)<=(2^63 - 1) / 8:=by decide
  lia
 have J:¬(!Builtin.List.listFitsIndex k)=true:=by
  rw[fitsIndex_both h1 h2];exact aS
 have G:¬ ee (its.toArray.size*k.toNat)=true:=by
  rw[bv9 a0];exact aS
 have Z:lG (λ x1 x2=>x1++x2) #[] (ak (if its.toArray.isEmpty=cn then 0 else k.toNat) its.toArray)=(ak k.toNat its).flatten.toArray:=by
  have f0:=λ m=>by
   have:=aL0 its m [];rw[dF]at this;exact this
  rw[f0];cases its with
  | nil=>simp
  | cons a r'=>rw[gn (by simp)]
 refine fW (by decide) ⟨_,e,rfl⟩ (λ s'=>gU s' k t) noFill_list_mul kA eF repeat_list i4.lookup
  (kz eF (gU s k t) i5 (iD _ _) (int___rmul___int_list k t l its.toArray n)
   ⟨e,rfl,⟨_,e,rfl⟩,kz F.slot_list_mul ⟨_,e,rfl⟩ F.entry_list_mul (F.args_list_mul_2 _ _) (AutoListH.list___mul___list_int_3 l its.toArray n k t J Y G) ⟨e,?_⟩⟩)
 rw[Z];exact⟨.ref _,_,I.lnew (r.rep k.toNat) (by rw[bS9,kP];exact hz),rfl,q _ I.fresh⟩
end
section
variable {prog:aK} {w:World} {A:aW} {E:Value->ah->Prop} {s:ah}
end
section
variable {X:Cx}
end
end L2
end
noncomputable section
namespace Att
open PySem PySem.W PySem.Calls PyProof.Rows
def ints_of_wellAll :∀ ns  (vs:yG),WellAll P h vs (ns.map WData.int)->lv vs ns:=by
 intro ns
 induction ns with
 | nil =>
  intro vs w;rw[dg]at w;cases w;exact .nil
 | cons n ns ih =>
  intro vs w;rw[aJ]at w;cases w with
  | cons a b =>
   cases a;exact .cons _ _ (ih _ b)
def script_of {l:OpenLaw}(hn:l.most=aT n){y:yG}
  (G:l.row.toRowW.claim.pre args=cn) (a0:WellAll P h y args) :
  ∃ a vs ns,y=[Value.ref a]/\args=[WData.list (ns.map WData.int)]/\h.get? a=aT { cls:=.type "list",data:=.seq vs.toArray }/\lv vs ns/\ns.length<=n:=by
 have a1:=(pre_splitW G).1;have hc:l.pre.holds [] { args:=args }=true:=(pre_splitW G).2;obtain⟨d,r,rfl,h1,h2⟩:=hasAllW_cons a1;obtain rfl:=hasAllW_nil h2;obtain⟨xs,rfl,h3⟩:=hasW_list h1;obtain⟨ns,rfl⟩:=items_int h3;have J:ns.length<=n:=by
  unfold OpenLaw.pre at hc;have Z:=by
   have Z:=(holds_andW hc).1;rw[hn]at Z;exact Z
  have Y:=condW_of Z (w_not (w_lt w_lit (w_len_list (w_arg rfl))));rw[ar]at Y;refine k6 λ q=>?_;have q':=by omega
  first
   | (rw[gW q']at Y;exact iF Y (by decide))
   | (simp at Y;omega)
 cases a0 with
 | cons w1 w2 =>
  cases w2;cases w1 with
  | list ho hall=>exact⟨_,_,ns,rfl,rfl,ho,ints_of_wellAll ns _ hall,J⟩
def post_true (l:OpenLaw) args :l.row.toRowW.claim.post args (.bool cn) args=true :=
 postW_of 
  (show WShape.has [] (.bool cn) .bool=cn by first|rfl|decide|simp[WShape.armsAll])
  (w_eq_bool (w_res rfl) w_lit) rfl
def attach_call {l:OpenLaw}{loose:yH}
  (hn:l.most=aT n) (a2:d.params.defaults=[])
  (call:∀(w:World) (s₀ h:ah) (mg mb:yC) (fa:Addr) (o:Obj) (pm cd y:Value) (a:Addr) (vs:yG) (ns:List Int),
   Ground q loose [] XP w s₀ mg mb h.heap->YP w h.heap ->
   h.heap.get? fa=aT o->o.data=.func (docDef d.name d.params d.body d.scope pm cd y)->h.heap.CodeRec cd d.name->mg d.name=aT (.ref fa) ->
   h.heap.get? a=aT { cls:=.type "list",data:=.seq vs.toArray }->lv vs ns->ns.length<=n->h.gens=#[] ->
   f7 (model l.prog w) iR (.call (.ref fa) ⟨[.ref a],[]⟩) (λ r s'=>r=.ok (.ret (.bool cn))/\OldK h.heap s'.heap/\s'.os=h.os/\fZ s'.gens) h) :
  WalkO q loose XP YP l.row.toRowW d [] (λ f vs=>lw f vs):=by
 intro w s₀ h mg mb G Y fa o pm cd y dV kV ho hd a5 hD a3 hg args a6 as a0 b0 b1 a4 b2;obtain rfl:dV=.none:=Dflts.none hD a2;obtain rfl:kV=.none:=Dflts.noKw hD;obtain⟨a,vs,ns,rfl,rfl,Z,J,a1⟩:=script_of hn a0 a4;refine enter_call (fy (call w s₀ h mg mb fa o pm cd y a vs ns G Y ho (fd_plain hd) a5 a3 Z J a1 hg) λ r s' hq=>?_);obtain⟨rfl,h2,h3,h4⟩:=hq;exact⟨.inl ⟨.bool cn,.bool cn,[],rfl,λ _=>rfl,.bool cn,post_true l _,λ _=>⟨List.Pairwise.nil,λ _ hm=>(nomatch hm)⟩⟩,h2,h3,h4⟩
section
variable {prog:aK} {w:World} {A:aW} {E:Value->ah->Prop} {s:ah} {K:Frag}
end
end Att
noncomputable section
namespace L2
open PySem PySem.Spec PyProof.Rows
theorem aH5:∀ {vs:yG} {ns},lv vs ns->Vals (ns.map V.int) vs
 | _,_,.nil=>.nil
 | _,_,.cons n t h=>.cons ⟨t,rfl⟩ (aH5 h)
noncomputable def defArgs (s:Stmt):a9:=match s with
 | .FunctionDef _ a _ _ _ _ _ _ _ _=>a
 | _=>{ posonlyargs:=[],args:=[],vararg:=bY,kwonlyargs:=[],kw_defaults:=[],kwarg:=bY,defaults:=[] }
noncomputable def qv (s:Stmt):List Stmt:=match s with
 | .FunctionDef _ _ b _ _ _ _ _ _ _=>b
 | _=>[]
noncomputable def defScope (s:Stmt):Scope:=match s with
 | .FunctionDef _ _ _ _ _ _ sc _ _ _=>sc
 | _=>{ kind:=.function,names:=[],isGenerator:=dt,isCoroutine:=dt }
noncomputable abbrev CX0:CXT:=λ _ _ _ _ _ _=>False
abbrev E0:XK:=λ _ _ _=>False
def ch1 :aS8 CX0 X E0:=λ _ _ _ _ _ _ _ h=>h.elim
structure Fun (K:af)(x qual:Str)(st:Stmt)(f:Addr)(fd:bH):Prop where
 ex:∃(oc:Value) (od:yI) (kV doc pm:Value) (an:yI) (cdv ct:Value) (osl:yE),
  fd=dz x qual (defArgs st) (qv st) (defScope st) .none kV doc pm an cdv ct/\K.lookup f=aT ⟨oc,od,.func fd,osl⟩/\fN K cdv qual=cn
 kp:cM K (.ref f)=cn
section
variable {P:aK} {w:World} {K:af} {mg:yC} {base:Heap}
def Fun.ok {st}(F:Fun K x qual st f fd)(S:FnScope N ps (defScope st))(len:∀ vs H Q E,sp vs H Q E->vs.length=ps.length)
  (J:∀(G:Value) (A:aW) (y:List Env) (s:ah) (H:Hp) (vs:List V) (Q:VK) (E:XK),Room k (A.deeper (fM qual (defScope st) s.heap.objs.size f G))->sp vs H Q E ->
   ∃ t,PSs (bw1 CX0 P w K mg base N qual (defScope st) f G A y s H E).nox (qv st) t/\t { nx:=λ _ H'=>Q .N H',rt:=Q } (ao0 N vs) H):FnOk P w K mg base CX0 (k+1) f fd ps sp:=by
 refine wl λ _ kk=>?_;obtain⟨oc,od,kV,a0,pm,an,G,ct,a1,rfl,lk,Z⟩:=F.ex;refine kk ?_;refine cm1 lk Z S len λ A y s H vs Q E hr Y=>?_;obtain⟨t,h,q⟩:=J G A y s H vs Q E hr Y;exact⟨t,h.nox,q⟩
def Fun.binds {st}(F:Fun K x qual st f Z)
  (h:∀(kV G Y:Value) (J:yI) (y ct:Value) (us:yG),us.length=ps.length->eO (dz x qual (defArgs st) (qv st) (defScope st) .none kV G Y J y ct) ⟨us,[]⟩=pure (ps.zip us)):Binds K Z ps []:=by
 obtain⟨oc,od,kV,G,Y,J,y,ct,a0,rfl,lk,a1⟩:=F.ex;exact .all (h kV G Y J y ct)
def bE8 {st}{od J:yI}{G:yE}{kV    }(l:K.lookup f=aT ⟨oc,od,.func (dz x qual (defArgs st) (qv st) (defScope st) .none kV y Y J h ct),G⟩)
  (c:fN K h qual=cn) (k:cM K (.ref f)=cn):Fun K x qual st f (dz x qual (defArgs st) (qv st) (defScope st) .none kV y Y J h ct):=⟨⟨oc,od,kV,y,Y,J,h,ct,G,rfl,l,c⟩,k⟩
end
section
variable {X:Cx}
def pv  i {pos}(hN:autoParam (X.N[i]?=aT x) Zq4._auto_1)(hv:autoParam (Vis X.env.scope x) Zq6._auto_1)(hd:autoParam ((x==("__debug__":Str))=dt) Zq1._auto_1)
  (h:autoParam ((x==("__classdict__":Str))=dt) Zq1._auto_1):PE X (.Name x pos) (bI7 i):=bl6 hN hv hd h
end
def cB3 { B:Prop}(h:B):if dt=cn then A else B:=by
 simp_all
def cC2 { B:Prop}(h:A):if cn=cn then A else B:=by
 simp_all
def ak4 (H H':Hp):Prop:=∀ b o,H b=aT o->H' b=aT o
def ak4.refl  H :ak4 H H:=λ _ _ h=>h
def bl7 {G:yK}(I:Nat->ah->Prop)
  (turn:∀ n s,I n s->wpAny (model prog w) A (iz it) (λ r s₁=>match r with
   | none=>R (.ok .next) s₁
   | some v=>wpAny (model prog w) A (fq y it v) (λ _ Z=>wpAny (model prog w) A (gN y env v) (λ _ s₂ =>
     wpAny (model prog w) A (forIn G cn λ c r=>if r=cn then do let ok <- eC c env (eval c env);pure (ForInStep.yield ok)else pure (ForInStep.yield r)) (λ ok s₃ =>
      if ok=cn then wpAny (model prog w) A (eval J env) (λ x s₄ =>
       wpAny (model prog w) A (call (.builtin "list.append") [Y,x]) (λ _ s₅=>∃ m,m<n/\I m s₅) (kQ (model prog w) A env λ e s'=>R (.error e) s') s₄) (kQ (model prog w) A env λ e s'=>R (.error e) s') s₃
      else ∃ m,m<n/\I m s₃) (kQ (model prog w) A env λ e s'=>R (.error e) s') s₂) (kQ (model prog w) A env λ e s'=>R (.error e) s') Z) (kQ (model prog w) A env λ e s'=>R (.error e) s') s₁) (kQ (model prog w) A env λ e s'=>R (.error e) s') s)
   n  (h:I n s) :
  f7 (model prog w) A (.compLoop (.ListComp J [⟨y,iter,G,0⟩] scope pos) 0 it Y env) R s:=by
 refine codeAny_loop rfl I (λ n s hI=>?_) n h
 skip
 refine wpAny_noted ?_;rw[compTurn_list];refine al (kb (al (cr (turn n s hI) (λ r s₁ h₁=>?_) λ _ _ h'=>h')));cases r with
 | none=>exact aF h₁
 | some v =>
  refine al (cr h₁ (λ _ Z a0=>?_) λ _ _ h'=>h');refine al (cr a0 (λ _ s₂ h₂=>al (cr h₂ (λ ok s₃ h₃=>?_) λ _ _ h'=>h')) λ _ _ h'=>h');cases ok with
  | false=>exact aF ⟨rfl,h₃⟩
  | true =>
   exact al (al (cr h₃ (λ x s₄ h₄=>al (cr h₄ (λ _ s₅ h₅=>aF (aF ⟨rfl,h₅⟩)) λ _ _ h'=>h')) λ _ _ h'=>h'))
noncomputable def ai8 (cells:yB):List (Str×bT)->List (Str×Addr)->List (Str×Addr)
 | [],acc=>acc
 | (n,k)::r,acc=>ai8 cells r (if k==.free then(match cells.lookup n with|some c=>(n,c)::acc|none=>acc)else acc)
theorem am8 :∀ names   G ,(∀ y∈names,y.2=.free->∃ c,env.cells.lookup y.1=aT c) ->
  (forIn names G λ(x) (cs:yB)=>(if x.2==.free then do let c <- cellOf env x.1;pure (ForInStep.yield ((x.1,c)::cs))else pure (ForInStep.yield cs):Sem (ForInStep (List (Str×Addr)))))=pure (ai8 env.cells names G)
 | [],G,_=>by rw[iE];rfl
 | (n,k)::r,G,h=>by
  have J:=λ a=>am8 r a λ y hy=>h y (aB _ hy);rw[li];unfold ai8;cases e:(k==NameKind.free)with
  | false =>
   simp only[if_false];exact J G
  | true =>
   have hk:=by simpa using e
   obtain⟨c,hc⟩:=h (n,k) aH hk;have e1:cellOf env n=pure c:=by unfold cellOf;rw[hc]
   simp only[e1,hc];exact J _
def qY (h:∀ y∈scope.names,y.2=.free->∃ c,env.cells.lookup y.1=aT c):closureFor scope env=pure (ai8 env.cells scope.names []):=by
 have:=am8 scope.names [] h;show(forIn scope.names [] (λ(x) (cs)=>(if x.2==.free then do let c <- cellOf env x.1;pure (ForInStep.yield ((x.1,c)::cs))else pure (ForInStep.yield cs):Sem (ForInStep (List (Str×Addr))))) >>= λ cs=>pure cs)=_;rw[this];rfl
theorem clOf_mem :∀ {names} {G:yB},(n,c)∈ai8 cells names G->cells.lookup n=aT c\/(n,c)∈G
 | [],_,h=>.inr h
 | (m,k)::r,G,h=>by
  unfold ai8 at h;rcases clOf_mem h with z|z
  all_goals grind
theorem aT3 (hc:cells.lookup n=aT c):∀ {names} {y:yB},((n,NameKind.free)∈names\/(n,c)∈y)->(n,c)∈ai8 cells names y
 | [],_,h=>by rcases h with h|h;(exact iF h (by simp));exact h
 | (m,k)::r,y,h=>by
  unfold ai8;refine aT3 hc ?_;rcases h with h|h
  .rcases aL.mp h with e|h
   .cases e
    right
    simp[hc]
   .exact .inl h
  .right
   cases e:(k==NameKind.free)with
   | false=>simpa using h
   | true =>
    simp only[];cases q:cells.lookup m with
    | none=>exact h
    | some d=>exact aB _ h
theorem an1 {α:Type}{c}:∀ {l:List (Str×α)},(n,c)∈l->(∀ d,(n,d)∈l->d=c)->l.lookup n=aT c
 | (m,d)::r,h,u=>by
  rw[aZ];cases e:n==m with
  | true =>
   simp_all
  | false =>
   rcases aL.mp h with z|z
   .lia
   .exact an1 z λ d' h'=>u d' (aB _ h')
def jb (hc:cells.lookup n=aT c)(h:(n,NameKind.free)∈names):(ai8 cells names []).lookup n=aT c:=by
 refine an1 (aT3 hc (.inl h)) λ d hd=>?_;rcases clOf_mem hd with z|z
 all_goals simp_all
theorem zF:∀ names   n  (h:yB),aP n names h=aP n names []++h
 | [],_,h=>by simp[aP]
 | (x,k)::r,n,h=>by
  unfold aP;split
  .rw[zF r (n+1) ((x,n)::h),zF r (n+1) [(x,n)]];simp
  .exact zF r n h
set_option tactic.hygienic true in
theorem qc:∀ {names} {n} {G:yB} {x} {c},(x,c)∈aP n names G->(x,NameKind.cell)∈names\/(x,c)∈G
 | [],_,_,_,_,h=>.inr h
 | (y,k)::r,n,G,x,c,h=>by
  unfold aP at h;split at h
  .rename_i hk;rcases qc h with z|z
   all_goals grind
  .rcases qc h with z|z
   all_goals simp_all
def qh {α:Type} x :∀(l r:List (Str×α)),(l++r).lookup x=(l.lookup x).or (r.lookup x)
 | [],r=>by simp
 | (y,v)::l,r=>by
  grind
noncomputable def qQ (N':yH)(src:yD)(scope:Scope)(XN:yH)(xs:Scope):Bool :=
 (scope.kind==.function) &&
 (scope.names.all λ y=>!(y.2==.free)||(xs.names.lookup y.1==aT .cell||xs.names.lookup y.1==aT .free)) &&
 (scope.names.all λ y=>!(y.2==.local)||scope.names.lookup y.1==aT .local) &&
 (scope.names.all λ y=>!(y.2==.cell)||(scope.names.all λ z=>!(z.1==y.1)||z.2==.cell)) &&
 (src.length==N'.length) &&
 ((N'.zip src).all λ y=>match y.2 with|none=>cn|some j=>XN[j]?==aT y.1&&scope.names.lookup y.1==aT .free)
structure CompCk (N':yH)(src:yD)(scope:Scope)(XN:yH)(xs:Scope):Prop where
 kind:scope.kind=.function
 fr:∀ y∈scope.names,y.2=.free->xs.names.lookup y.1=aT .cell\/xs.names.lookup y.1=aT .free
 loc:∀ y∈scope.names,y.2=.local->scope.names.lookup y.1=aT .local
 cel:∀ y∈scope.names,y.2=.cell->∀ z∈scope.names,z.1=y.1->z.2=.cell
 len:src.length=N'.length
 sr:∀(i j:Nat) (x:Str),src[i]?=aT (aT j)->N'[i]?=aT x->XN[j]?=aT x/\scope.names.lookup x=aT .free
def bG7 (h:qQ G src scope Y J=cn):CompCk G src scope Y J:=by
 unfold qQ at h;simp only[aw]at h;obtain⟨⟨⟨⟨⟨h1,h2⟩,h3⟩,h4⟩,h5⟩,h6⟩:=h;refine⟨by simpa using h1,λ y hy e=>?_,λ y hy e=>?_,λ y hy e z hz Z=>?_,by simpa using h5,λ i j x e1 e2=>?_⟩
 .have:=aU.mp h2 y hy;simpa [e]using this
 .have:=aU.mp h3 y hy;simpa [e]using this
 .have:=aU.mp h4 y hy;simp only[e,lV]at this;have:=aU.mp this z hz;simpa [Z]using this
 .have hm:(x,aT j)∈G.zip src:=by
   refine aC (i:=i) ?_;rw[List.getElem?_zip_eq_some];exact⟨e2,e1⟩
  have:=aU.mp h6 _ hm;simpa using this
noncomputable abbrev qo (X:Cx)(N':yH)(scope:Scope)(Cc:Addr)(cells:yB)(s:ah)(H:Hp)(ex:List Addr):Cx where
 prog:=X.prog
 w:=X.w
 K:=X.K
 mg:=X.mg
 base:=X.base
 A:=X.A
 N:=N'
 s₀:=s
 H₀:=H
 env:={ scope:=fg scope X.env,locals:=Cc,globals:=X.env.globals,cells:=cells,qual:=X.env.qual,func:=bY,code:=X.env.code,frame:=X.env.frame,builtins:=X.env.builtins }
 outer:=X.stack
 stack:=X.stack
 ex:=ex
 fn:=λ x=>scope.names.lookup x==aT .cell
 calm:=X.calm
 pn:=[]
 xe:=λ _ _=>False
def PIf (X:Cx)(ifs:yK)(t:TT):Prop :=
 ∀ pins   s  (W:St)  H   Q ,Inv X pins W H s->t W H Q ->
  wpAny (model X.prog X.w) X.A (forIn ifs cn λ c r=>if r=cn then do let ok <- eC c X.env (eval c X.env);pure (ForInStep.yield ok)else pure (ForInStep.yield r)) (TP X pins W Q) X.xe s
def cC1:TT:=λ _ H Q=>Q cn H
def bT9 :PIf X [] cC1:=λ _ _ _ H _ I h=>wpAny_tests_nil ⟨H,I,h⟩
def bS2 (h:PT X c t):PIf X [c] t:=λ y s W H Q I hw=>wpAny_tests_one (h y s W H Q I hw)
noncomputable def aL4 (src:yD)(W:St):St:=src.map λ o=>match o with|none=>bY|some j=>(W[j]?).join
def tComp (src:yD)(wi:TI)(g:TG)(tc:TT)(te:TE):TE:=λ W H Q=>wi W H λ J H1=>∀ D,H1 D=bY ->
 ∃ Ww:Nat->Nat->St->Hp->Prop,(∃ m,Ww 0 m (aL4 src W) (upd H1 D (.J [])))/\∀ i m W' H',Ww i m W' H' ->
  (J.stop i H'/\Q (.ref D) H')\/(J.go i H'/\∃ N:St->Hp->Prop,(∀ W2 H2,N W2 H2->∃ m',m'<m/\Ww (i+1) m' W2 H2) /\
   ∀ x H2,J.yld i H' x H2->g x W' H2 λ W3 H3=>tc W3 H3 λ b H4=>if b=cn then te W3 H4 λ v H5=>∃ ys,H5 D=aT (.J ys)/\ys.length<aR/\N W3 (upd H5 D (.J (ys++[v])))else N W3 H4)
theorem jp {env:Env}:∀ {names:List (Str×bT)} {x:Str} {k:bT},names.lookup x=aT k ->
  (names.map λ(n,k)=>if(k==NameKind.free&&env.scope.kind==.function&&env.kindOf n==aT .cell)then(n,NameKind.cell)else(n,k)).lookup x =
   aT (if(k==NameKind.free&&env.scope.kind==.function&&env.kindOf x==aT .cell)then NameKind.cell else k)
 | [],_,_,h=>by simp at h
 | (n,k)::r,x,k',h=>by
  have y:=@jp env r x k';show mB x ((if(k==NameKind.free&&env.scope.kind==.function&&env.kindOf n==aT .cell)=cn then(n,NameKind.cell)else(n,k))::_)=_;cases hx:x==n with
  | true =>
   have e:=beq_iff_eq.mp hx;subst e;simp only[aZ,hx]at h;cases h;by_cases hc:(k==NameKind.free&&env.scope.kind==.function&&env.kindOf x==aT .cell)=cn
   .rw[gc hc,gc hc];simp only[aZ,hx]
   .rw[gn hc,gn hc];simp only[aZ,hx]
  | false =>
   simp only[aZ,hx]at h;by_cases hc:(k==NameKind.free&&env.scope.kind==.function&&env.kindOf n==aT .cell)=cn
   .rw[gc hc];simp only[aZ,hx];exact y h
   .rw[gn hc];simp only[aZ,hx];exact y h
theorem je {env:Env}:∀ {names:List (Str×bT)} {x},names.lookup x=bY ->
  (names.map λ(n,k)=>if(k==NameKind.free&&env.scope.kind==.function&&env.kindOf n==aT .cell)then(n,NameKind.cell)else(n,k)).lookup x=bY
 | [],_,_=>rfl
 | (n,k)::r,x,h=>by
  have y:=@je env r x;show mB x ((if(k==NameKind.free&&env.scope.kind==.function&&env.kindOf n==aT .cell)=cn then(n,NameKind.cell)else(n,k))::_)=_;cases hx:x==n with
  | true=>simp only[aZ,hx]at h;cases h
  | false =>
   simp only[aZ,hx]at h;by_cases hc:(k==NameKind.free&&env.scope.kind==.function&&env.kindOf n==aT .cell)=cn
   .rw[gc hc];simp only[aZ,hx];exact y h
   .rw[gn hc];simp only[aZ,hx];exact y h
def aB5 {W:St}{fp:List Addr}
  (G:CompCk N' src scope X.N X.env.scope) (I:Inv X a6 W H s) (hf:∀ b∈fp,FpOk X a6 H b) (b4:∀ b∈fp,b<s.heap.objs.size)
  (e4:∃ tk,s4={ s with heap:=fe (s.heap.push { cls:=.type "dict",data:=.dict #[] }) scope.names,toks:=tk }) :
  Inv (qo X N' scope s.heap.objs.size (aP (s.heap.objs.size+1) scope.names (ai8 X.env.cells scope.names [])) s H fp) [] (aL4 src W) H s4:=by
 obtain⟨tk,rfl⟩:=e4;have hk:∀ b o,s.heap.get? b=aT o->(fe (s.heap.push { cls:=.type "dict",data:=.dict #[] }) scope.names).get? b=aT o:=λ b o e=>dG _ _ b o (aj _ e);have ok:=cellsFrom_ok scope.names (s.heap.push { cls:=.type "dict",data:=.dict #[] }) (s.heap.objs.size+1) [] ⟨λ _ _ hm=>(nomatch hm),List.Pairwise.nil⟩ (by simp_all);rw[cf]at ok;have a0:=zF scope.names (s.heap.objs.size+1) (ai8 X.env.cells scope.names []);have lk:∀ x c,(aP (s.heap.objs.size+1) scope.names (ai8 X.env.cells scope.names [])).lookup x=aT c ->
   ((x,c)∈aP (s.heap.objs.size+1) scope.names []/\(x,NameKind.cell)∈scope.names)\/(X.env.cells.lookup x=aT c/\(aP (s.heap.objs.size+1) scope.names []).lookup x=bY):=λ x c e=>by
  rw[a0,qh]at e;cases q:(aP (s.heap.objs.size+1) scope.names []).lookup x with
  | some d =>
   rw[q]at e;have e':d=c:=aq e;subst e';have hm:=aE q;refine .inl ⟨hm,?_⟩;rcases qc hm with z|z
   all_goals simp_all
  | none =>
   rw[q]at e;have e':(ai8 X.env.cells scope.names []).lookup x=aT c:=e;rcases clOf_mem (aE e')with z|z
   all_goals simp_all
 have up:∀ x c,(x,c)∈aP (s.heap.objs.size+1) scope.names []->s.heap.objs.size+1<=c:=λ x c h=>(ok.empty x c h).2;have b5:∀ x c,X.env.cells.lookup x=aT c->c<s.heap.objs.size:=λ x c h=>by
  obtain⟨v,q⟩:=I.cell x c h;exact q.lt
 have a5:∀ b,b<s.heap.objs.size->b≠s.heap.objs.size:=λ b h=>aD h;have b3:∀ b∈fp,H b=bY/\b≠X.env.locals/\b ∉ X.fs:=λ b hb=>⟨(hf b hb).1,(hf b hb).2.1,(hf b hb).2.2.1⟩
 have b6:(fe (s.heap.push { cls:=.type "dict",data:=.dict #[] }) scope.names).Ns s.heap.objs.size (λ _=>bY):=(mD s.heap (.type "dict")).keeps (dG _ _);have a3:∀ x k,scope.names.lookup x=aT k->(fg scope X.env).names.lookup x=aT (if(k==NameKind.free&&X.env.scope.kind==.function&&X.env.kindOf x==aT .cell)then NameKind.cell else k):=λ x k e=>jp (env:=X.env) e;have a4:∀ x,scope.names.lookup x=bY->(fg scope X.env).names.lookup x=none:=λ x e=>je (env:=X.env) e;have b1:∀ x c,(x,NameKind.free)∈scope.names->X.env.cells.lookup x=aT c->(aP (s.heap.objs.size+1) scope.names (ai8 X.env.cells scope.names [])).lookup x=aT c:=λ x c hx hc=>by
  rw[a0,qh];cases q:(aP (s.heap.objs.size+1) scope.names []).lookup x with
  | some d =>
   rcases qc (aE q)with z|z
   .have:=G.cel _ z rfl _ hx rfl;cases this
   simp_all
  | none=>exact jb hc hx
 have b0:∀ x,(x,NameKind.free)∈scope.names->∃ c,X.env.cells.lookup x=aT c:=λ x hx=>I.ok.has x (G.fr _ hx rfl);refine⟨⟨I.ok.mod,G.kind,I.ok.glob,I.ok.blt,ai _,λ x y c e1 e2=>?_,λ x hx=>?_,λ x c hx e=>?_,I.ok.hd,I.ok.frames,.inl rfl,λ b hb=>⟨a5 b (b4 b hb),λ x c e z=>?_⟩,I.bs,am I.ok.bsz I.sz,λ b o e hb=>?_,λ b hb z=>?_,I.stack,I.stkFree⟩,
  rfl,I.bare,Un.kept hk,⟨_,b6,λ i x v e1 e2 e3=>?_⟩,λ x c e=>?_,I.hok.fresh (ai _),λ x c e=>?_,λ p hp=>iF (show p∈([]:yA)from hp) (by simp),I.hok.kept hk,by unfold aL4;rw[ar];exact G.len⟩
 .rcases lk x c e1 with⟨a1,_⟩|⟨a1,_⟩<;>rcases lk y c e2 with⟨a2,_⟩|⟨a2,_⟩
  .exact gP ok.apart a1 a2
  .exact iF (av (b5 _ _ a2) (f9 (up _ _ a1))) (bj _)
  .exact iF (av (b5 _ _ a1) (f9 (up _ _ a2))) (bj _)
  .exact I.ok.inj x y c a1 a2
 .cases q:scope.names.lookup x with
  | none =>
   have J:(fg scope X.env).names.lookup x=aT .cell\/(fg scope X.env).names.lookup x=aT .free:=hx;rw[a4 x q]at J;rcases J with z|z<;>cases z
  | some k =>
   have J:(fg scope X.env).names.lookup x=aT .cell\/(fg scope X.env).names.lookup x=aT .free:=hx;rw[a3 x k q]at J;cases k with
   | free =>
    obtain⟨c,hc⟩:=b0 x (aE q);exact⟨c,b1 x c (aE q) hc⟩
   | cell =>
    obtain⟨c,hc⟩:=qM (n:=s.heap.objs.size+1) q;exact⟨c,by show(aP _ _ _).lookup x=_;rw[a0,qh,hc];rfl⟩
   | _=>simp_all
 .have J:(scope.names.lookup x==aT .cell)=true:=hx;have q:scope.names.lookup x=aT .cell:=by simpa using J
  rcases lk x c e with⟨a,_⟩|⟨a,b⟩
  .have:=up _ _ a;show s.heap.objs.size<=c;lia
  .obtain⟨d,hd⟩:=qM (n:=s.heap.objs.size+1) q;rw[hd]at b;cases b
 .subst z;rcases lk x c e with⟨a,_⟩|⟨a,_⟩
  .exact iF (av (b4 c hb) (f9 (up _ _ a))) (bj _)
  .exact(hf c hb).2.2.2.2.1 x c a rfl
 .rcases(hf b hb).2.2.2.1 with z|z
  .exact I.ok.noex b o e z
  .exact iF (av (aI e) (am I.ok.bsz z)) (bj _)
 .rcases aL.mp (I.stkSub b z)with y|y
  .exact(b3 b hb).2.1 y
  .exact(b3 b hb).2.2 y
 .have Y:(aL4 src W)[i]?=aT (aT v):=e2;unfold aL4 at Y;rw[ao]at Y;cases q:src[i]? with
  | none=>simp_all
  | some o =>
   rw[q]at Y;cases o with
   | none=>cases Y
   | some j =>
    have Z:(W[j]?).join=aT v:=aq Y;have ej:W[j]?=aT (aT v):=by
     cases q2:W[j]? with
     | none=>rw[q2]at Z;cases Z
     | some o2=>rw[q2]at Z;exact congrArg aT Z
    refine wl λ _ kk=>?_;obtain⟨h1,h2⟩:=G.sr i j x q e1;have hm:=aE h2;obtain⟨mX,c3,c0⟩:=I.loc;have b2:Vis X.env.scope x:=by
     rcases G.fr _ hm rfl with z|z
     .exact .inr (.inl z)
     .exact .inr (.inr z)
    obtain⟨u,ru,look⟩:=c0 j x v h1 ej b2;refine kk ⟨u,ru,.inr ?_⟩;have hcell:∃ c,X.env.cells.lookup x=aT c/\s.heap.IsCell c (aT u):=by
     rcases look with⟨z,_⟩|⟨_,c,z1,z2⟩
     .have z':X.env.scope.names.lookup x=aT .local:=z;rcases G.fr _ hm rfl with y|y<;>(simp_all)
     .exact⟨c,z1,z2⟩
    obtain⟨c,c1,c2⟩:=hcell;refine⟨?_,c,b1 x c hm c1,c2.keeps hk⟩;show(fg scope X.env).names.lookup x=aT .cell\/(fg scope X.env).names.lookup x=aT .free;rw[a3 x _ h2];by_cases hc:(NameKind.free==NameKind.free&&X.env.scope.kind==.function&&X.env.kindOf x==aT .cell)=cn
    .rw[gc hc];exact .inl rfl
    .rw[gn hc];exact .inr rfl
 .rcases lk x c e with⟨a,_⟩|⟨a,_⟩
  .exact⟨_,(ok.empty x c a).1⟩
  .obtain⟨v,q⟩:=I.cell x c a;exact⟨v,q.keeps hk⟩
 .rcases lk x c e with⟨a,_⟩|⟨a,_⟩
  .exact I.hok.fresh (by have:=up _ _ a;lia)
  .exact I.freeC x c a
def aU4 {W W':St}
  (I:Inv X h W H s) (Y:∀ b∈G,FpOk X h H b) (J:Inv (qo X N' scope s.heap.objs.size cells s H G) [] W' Z s5) (hs:ci s.heap.objs.size s5.heap h') :
  Inv X h W Z { s5 with heap:=h' }:=by
 have y:∀ b o,s.heap.get? b=aT o->b≠s.heap.objs.size:=λ b o e=>aD (aI e);have u:=J.base;refine I.call' J.os ⟨λ b o e n hb hx=>?_,λ b o e n hb hx=>?_,λ b o e n hx=>u.free b o e n hx,λ b o e hx=>?_,u.tups,u.frzs,u.tbls⟩ (λ b o e=>?_) J.bare λ b hb=>⟨(Y b hb).2.2.2.1,(Y b hb).2.1,(Y b hb).2.2.2.2.1,(Y b hb).2.2.2.2.2⟩
 .exact(hs.2 b (y b o e)).trans (u.keep b o e n hb hx)
 .obtain⟨sl,q⟩:=u.slot b o e n hb hx;exact⟨sl,(hs.2 b (y b o e)).trans q⟩
 .obtain⟨o',q⟩:=u.there b o e hx;exact⟨o',(hs.2 b (y b o e)).trans q⟩
 .have fr:=J.free;refine(J.hok b o e).stay (λ c w' hc q=>(hs.2 c ?_).trans q) (λ _ q=>q) λ _ _ q=>q;lia
def an2 {G:yB}
  (h:Q { scope:=scope,locals:=s.heap.objs.size,globals:=globals,cells:=aP (s.heap.objs.size+1) scope.names G,qual:=qual,func:=bY,code:=y.code,frame:=y.frame,builtins:=y.builtins }
   { s with heap:=fe (s.heap.push { cls:=.type "dict",data:=.dict #[] }) scope.names }) :
  wpAny M A (fQ scope globals G [] qual bY .none (aT y)) Q E s:=by
 simp only[fQ,fR];refine al (wpAny_alloc ?_);refine al (wpAny_layCells _ (λ name kind cells=>by lia) _ _ _ _ ?_);rw[cf ..];refine al ?_;rw[iE];exact aF (aF h)
def aL2 {Ww:Nat->Nat->St->Hp->Prop}
  {QD:Hp->Prop} {W0:St} (hx:X'.xe=λ _ _=>False) (Z:X'.calm=cn) (I4:Inv X' [] W0 H0 s4) (T:Turn X'.prog X'.w X'.K tg J fp it tn) (b0:tn 0 s4.heap)
  (Y:∀ H':Hp,(∀ b∈fp,H' b=bY)->∀ b∈fp,FpOk X' [] H' b) (b2:∀ b∈fp,H0 b=bY) (w0:Ww 0 m0 W0 H0)
  (turn:∀ i m W' H',Ww i m W' H'->(J.stop i H'/\QD H')\/(J.go i H'/\∃ N:St->Hp->Prop,(∀ W2 H2,N W2 H2->∃ m',m'<m/\Ww (i+1) m' W2 H2) /\
   ∀ x H2,J.yld i H' x H2->g x W' H2 λ W3 H3=>tc W3 H3 λ b H4=>if b=cn then te W3 H4 λ v H5=>∃ ys,H5 D=aT (.J ys)/\ys.length<aR/\N W3 (upd H5 D (.J (ys++[v])))else N W3 H4))
  (hg:PG X' tg g) (hif:PIf X' a4 tc) (he:PE X' a1 te) (a2:∀ W' H' s',Inv X' [] W' H' s'->QD H'->R (.ok .next) s') :
  f7 (model X'.prog X'.w) X'.A (.compLoop (.ListComp a1 [⟨tg,iter,a4,0⟩] scope pos) 0 (.ref it) (.ref D) X'.env) R s4:=by
 have nox:∀ {α:Type} {t:Sem α} {Q Q':α->ah->Prop} {E:Value->ah->Prop} {s:ah},wpAny (model X'.prog X'.w) X'.A t Q X'.xe s->(∀ a s,Q a s->Q' a s)->wpAny (model X'.prog X'.w) X'.A t Q' E s :=
  λ h hQ=>cr h hQ λ _ _ z=>by simp_all
 refine bl7 (λ n s'=>∃ i W' H',Inv X' [] W' H' s'/\tn i s'.heap/\(∀ b∈fp,H' b=bY)/\Ww i n W' H') ?_ m0 ⟨0,W0,H0,I4,b0,b2,w0⟩
 rintro n s3 ⟨i,W3,H3,I3,a3,a5,w3⟩
 rcases turn i n W3 H3 w3 with⟨stop,qn⟩|⟨go,N,hN,step⟩
 .refine nox (T.done X' rfl rfl rfl Z i [] s3 W3 H3 X'.xe I3 (Y H3 a5) a3 stop) λ r s4 ⟨hr,I4⟩=>?_;subst hr;exact a2 W3 H3 s4 I4 qn
 .refine nox (T.item X' rfl rfl rfl Z i [] s3 W3 H3 X'.xe I3 (Y H3 a5) a3 go) λ r s4 ⟨u,hr,h4⟩=>?_;subst hr;refine nox h4 λ _ s5 ⟨x,H5,I5,r5,y5,a0,b1⟩=>?_;have a6:=I5.pinned (Y H5 b1) (T.obj _ _ a0);refine nox (hg _ s5 W3 H5 x u _ a6 r5 (step x H5 y5)) λ _ s6 ⟨W6,H6,I6,q6⟩=>?_;have G:∀ {W7:St} {H7:Hp} {s7:ah},Inv X' ([]++aH8 fp s5.heap) W7 H7 s7->N W7 H7->∃ m,m<n/\∃ i W' H',Inv X' [] W' H' s7/\tn i s7.heap/\(∀ b∈fp,H' b=bY)/\Ww i m W' H':=λ {W7 H7 s7} I7 n7=>by
   obtain⟨m',hm,w7⟩:=hN W7 H7 n7;refine⟨m',hm,i+1,W7,H7,I7.unpinned,T.keep _ _ _ a0 λ b hb o e=>(I7.pin (b,o) (bw _ (bw _ (jV hb e)))).1,λ b hb=>?_,w7⟩;obtain⟨o,e,d⟩:=T.obj _ _ a0 b hb;exact(I7.pin (b,o) (bw _ (bw _ (jV hb e)))).2.1
  refine nox (hif _ s6 W6 H6 _ I6 q6) λ b s7 ⟨H7,I7,q7⟩=>?_;cases b with
  | false =>
   rw[gn aS]at q7 ⊢;exact G I7 q7
  | true =>
   rw[gc rfl]at q7 ⊢;refine nox (he _ s7 W6 H7 _ I7 q7) λ v s8 ⟨y,H8,I8,r8,ys,hy,hz,q8⟩=>?_;refine nox (aJ3 _ s8 W6 H8 (.ref D) [y] (.ref D) [v] (λ _ H9=>N W6 H9) I8 rfl (.cons r8 .nil) ⟨D,ys,y,rfl,rfl,hy,hz,q8⟩) λ v9 s9 ⟨_,H9,I9,_,q9⟩=>?_;exact G I9 q9
def bh4  N'  src 
  (b4:qQ N' src scope X.N X.env.scope=cn) (hi:PI X tg iter wi) (Z:X.calm=cn)
  (b2:∀(Cc:Addr) (cells:yB) (s:ah) (H:Hp) (ex:List Addr),PG (qo X N' scope Cc cells s H ex) tg g/\PIf (qo X N' scope Cc cells s H ex) a1 tc/\PE (qo X N' scope Cc cells s H ex) a2 te)
  (hs:autoParam (∀ x,dS iter X.env x=pure x) Zq3._auto_1):PE X (.ListComp a2 [⟨tg,iter,a1,0⟩] scope pos) (tComp src wi g tc te):=by
 intro G s W H Q I h;have ck:=bG7 b4;rw[eval_ListComp];have b5:=qY λ y hy e=>I.ok.has y.1 (ck.fr y hy e);refine gm rfl hs b5 ck.kind ck.loc (thn (hi G s W H _ I h) λ v s1 h1=>thn h1 λ c0 s2 h2=>?_);refine wl λ _ kk=>?_;obtain⟨it,Y,tn,J,H2,e,I2,T,a6,f2,Ww⟩:=h2;subst e;have hD:=I2.fresh;obtain⟨Ww,⟨m0,w0⟩,turn⟩:=Ww _ hD;have I3:=I2.lnew (t':=s2.toks) .nil (dW _);have a3:∀ b∈Y,b<s2.heap.objs.size:=λ b hb=>by obtain⟨o,q,_⟩:=T.obj _ _ a6 b hb;exact aI q
 have f3:∀ b∈Y,FpOk X G (upd H2 s2.heap.objs.size (.J [])) b:=λ b hb=>⟨by rw[zr (aD (a3 b hb))];exact(f2 b hb).1,(f2 b hb).2⟩
 refine kk ?_;refine bJ (an2 ?_);generalize a0:({ s2 with heap:=s2.heap.push { cls:=.type "list",data:=.seq ([]).toArray },toks:=s2.toks })=s3 at I3;have b6:=a0;have b1:∀ b∈Y,b<s3.heap.objs.size:=λ b hb=>by
  rw[<-a0]
  skip
  rw[cf];exact ga (a3 b hb)
 have I4:=aB5 (s4:={ s3 with heap:=fe (s3.heap.push { cls:=.type "dict",data:=.dict #[] }) scope.names }) ck I3 f3 b1 ⟨_,rfl⟩;have a5:tn 0 (fe (s3.heap.push { cls:=.type "dict",data:=.dict #[] }) scope.names):=T.keep _ _ _ a6 λ b hb o e=>dG _ _ b o (aj _ (by rw[<-a0];exact aj _ e));obtain⟨hg,hif,he⟩:=b2 s3.heap.objs.size (aP (s3.heap.objs.size+1) scope.names (ai8 X.env.cells scope.names [])) s3 (upd H2 s2.heap.objs.size (.J [])) Y;have a4:∀ H':Hp,(∀ b∈Y,H' b=bY)->∀ b∈Y,FpOk (qo X N' scope s3.heap.objs.size (aP (s3.heap.objs.size+1) scope.names (ai8 X.env.cells scope.names [])) s3 (upd H2 s2.heap.objs.size (.J [])) Y) [] H' b:=λ H' hn b hb =>
  ⟨hn b hb,(I4.ok.exf b hb).1,I4.ok.exfs b hb,.inl hb,λ x c e=>(I4.ok.exf b hb).2 x c e,λ p hp=>iF (hp) (by simp)⟩
 have T':=T;have b0:=λ b hb=>(f3 b hb).1;have L:=aL2 (X':=qo X N' scope s3.heap.objs.size (aP (s3.heap.objs.size+1) scope.names (ai8 X.env.cells scope.names [])) s3 (upd H2 s2.heap.objs.size (.J [])) Y) (R:=compPost (model X.prog X.w) X.A X.xe bY (EP X G W Q) (Value.ref s2.heap.objs.size) s3.heap.objs.size) (iter:=iter) (scope:=scope) (pos:=pos) rfl Z I4 T' a5 a4 b0 w0 turn hg hif he
  (λ W' H' s' J' q=>by
   obtain⟨mm,hn,_⟩:=J'.loc;exact⟨mm,hn,λ h' b3=>⟨.ref s2.heap.objs.size,H',aU4 I3 f3 J' b3,rfl,q⟩⟩)
 exact gZ L (T.self _ _ _ _ _ a5 L)
section
variable {X:Cx}
def cu2:bf "abs"=aT (.builtin "abs"):=by decide +kernel
def cw4:bf "len"=aT (.builtin "len"):=by decide +kernel
def bR8:bf "min"=aT (.builtin "min"):=by decide +kernel
def cb0:bf "max"=aT (.builtin "max"):=by decide +kernel
def cs6:bf "all"=aT (.builtin "all"):=by decide +kernel
def aK7:bf "isinstance"=aT (.builtin "isinstance"):=by decide +kernel
def cg2:bf "int"=aT (.type "int"):=by decide +kernel
def bX8:bf "bool"=aT (.type "bool"):=by decide +kernel
def ca3:bf "str"=aT (.type "str"):=by decide +kernel
def bu7:bf "tuple"=aT (.type "tuple"):=by decide +kernel
def bH8:bf "list"=aT (.type "list"):=by decide +kernel
def cv1 (i j:Int):Prop:=0<j/\j<2^4096
def ba0 {y:Int}(h0:0<y)(h:y<2^4096):y.natAbs.log2<9000:=by
 have hn:=by
  have:(y.natAbs)=y:=by lia
  have G:(y.natAbs)<((2^4096):Int):=by rw[this];simpa using h
  exact Int.ofNat_lt.mp G
 have:=(Nat.log2_lt (by lia)).mpr hn;lia
def bC9:OpR X (cF .FloorDiv) (rI cv1 λ i j=>.int (i / j)):=opI λ i j _ _ _ _ _ hc q=>by
 refine floordiv_int (by have:=hc.1;omega) ?_ (.inl (PyProof.noPylong_of_log2 (ba0 hc.1 hc.2)));rw[fL i (by have:=hc.1;lia)];exact q
def aX7 {K}(h:X.K=K):IxR X (cz7 K):=by subst h;exact bS5
def bN6 {K}(h:X.K=K):IxR X (cy8 K):=by subst h;exact ix_tup
def av2 {K}(h:X.K=K):ai0 X (.builtin "len") (λ y H Q=>∃ p ys,y=[.ref p]/\(SqL K H p ys\/SqT K H p ys)/\Q (.int ys.length) H):=by subst h;exact aG9
def aO2 {K}(h:X.K=K):ai0 X (.type "tuple") (λ y H Q=>∃ p ys,y=[.ref p]/\((SqL K H p ys/\∀ l,H l=bY->Q (.ref l) (upd H l (.tp ys)))\/(SqT K H p ys/\Q (.ref p) H))):=by subst h;exact aD0
def aZ0 {K}(h:X.K=K):ai0 X (.type "list") (λ y H Q=>∃ p ys,y=[.ref p]/\(SqL K H p ys\/SqT K H p ys)/\∀ l,H l=bY->Q (.ref l) (upd H l (.J ys))):=by subst h;exact aM3
def bw6 {K}(y:X.K=K)(hl:PE X l h):PI X tg l (bU4 K h):=by subst y;exact bK4 hl
def bM8 {K}(y:X.K=K)(hl:PE X l h):PI X tg l (cw5 K h):=by subst y;exact cd2 hl
def bP5 {K}{pos}{k}(G:X.K=K)(hc:X.calm=cn)(h:PGs X es t)
  (hn:autoParam ((cX es X.env).length=n) Zq4._auto_1) (y:autoParam ((cX es X.env).findIdx? (·.1)=bY) Zq4._auto_1):PG X (.Tuple es k pos) (ct5 K n t):=by subst G;exact bZ4 hc h hn y
end
structure DefAt (K:af)(mg:yC)(x:Str)(st:Stmt)(ps:yH)(f:Addr)(fd:bH):Prop where
 fn:Fun K x x st f fd
 mg:mg x=aT (.ref f)
 bi:Binds K fd ps []
@[irreducible] noncomputable def cC4 (p:Prop):Prop:=p
def ak4.new (h:ak4 H y)(G:y p=bY):ak4 H (L2.upd y p o):=λ x o e=>by
 have e1:=h x o e;rw[zr (zV e1 G)];exact e1
section
variable {prog:aK} {w:World} {A:aW} {R:lC->ah->Prop} {I:Addr} {fp wr:List Addr} {n:Nat} {P:Nat->Value->Prop} {St:Nat->Heap->Prop} {kw:List (Str×Value)}
def bp9 (Ww:Walks prog w A.in1 I fp wr n P St) bt (b2:CmpOf prog w A.in1 .Lt P bt) S (b1:S ∉ fp) :
  ∀ k j   s   vb   c ,n - (j+1)=k->j+1<=n->St (j+1) s.heap->P (d4 bt j) vb ->
  s.heap.get? S=aT { cls:=.type "list",dict:=bY,data:=.seq #[vb,vb] c,slots:=#[] } ->
  (∀ v h' tk,P (d4 bt (n - 1)) v->(∀ b o,b ∉ wr->b≠S->s.heap.get? b=aT o->h'.get? b=aT o)->R (.ok (.ret v)) { s with heap:=h',toks:=tk }) ->
  f7 (model prog w) A (.builtin "min.loop" ⟨[.ref I,.none,.ref S],kw⟩) R s:=by
 have b0:=λ h=>b1 (Ww.sub _ h);have a0:(toString "min"++toString ".loop":String) = "min.loop":=by decide
 intro k
 induction k with
 | zero =>
  intro j s vb c hk hj a4 a2 hS hR;have b3:j+1=n:=by lia
  refine ia gC ?_;rw[fh cV _]
  skip
  refine al (eQ hS rfl ?_)
  skip
  refine al (eR (Ww.done s _ _ (b3▸a4) λ h' tk G=>?_));have a1:=G S _ b0 hS
  skip
  refine al ?_;refine ib a1 rfl (al (gf (aF ?_)));refine hR vb _ tk (by rw[<-b3];exact a2) λ b o y J e=>(b7 _ _ (cg J)).trans (G b o y e)
 | succ k ih =>
  intro j s vb c hk hj a4 a2 hS hR;have hlt:j+1<n:=by omega
  refine ia gC ?_;rw[fh cV _];show wpAny _ A.in1 (iT (.ref S) >>= _) _ _ s;refine al (eQ hS rfl ?_);show wpAny _ A.in1 (tryCatch (iz (.ref I)) _ >>= _) _ _ s;refine al (eR (Ww.item (j+1) s _ _ hlt a4 λ v h' tk hP a3 G=>?_));have a1:=G S _ b0 hS;show wpAny _ A.in1 (tryCatch (kH [v,v] (richCompare .Lt v vb >>= _)) _ >>= _) _ _ _;refine al (eR (dL (al (b2 (j+1) (d4 bt j) v vb _ _ _ hP a2 ?_))));refine al (dL (bI ?_));refine al (gf (aF ?_));cases hb:bt (j+1) (d4 bt j)with
  | true =>
   simp only[if_true];refine al ?_;refine ib a1 rfl (al (gf ?_));rw[a0];refine aF ⟨gq cV _,ih (j+1) _ v _ (by omega) hlt (Ww.frame _ _ _ a3 λ b b4 o e=>?_) (by simp only[d4,hb,if_true];exact hP) (dN _ a1 rfl)
    λ v' a6 Z a5 Y=>?_⟩
   .exact(b7 _ _ (λ h:S=b=>b1 (by rw[h];exact b4))).trans e
   .exact hR v' a6 Z a5 λ b o y J e=>Y b o y J ((b7 _ _ (cg J)).trans (G b o y e))
  | false =>
   simp only[aG,if_false];refine al (gf ?_);rw[a0];refine aF ⟨gq cV _,ih (j+1) _ vb c (by omega) hlt a3 (by simp only[d4,hb,aG,if_false];exact a2) a1 λ v' a6 Z a5 Y=>?_⟩;exact hR v' a6 Z a5 λ b o y J e=>Y b o y J (G b o y e)
def ba7 (Ww:Walks prog w A.in1 I fp wr n P St) bt (a4:CmpOf prog w A.in1 .Lt P bt) S (J:S ∉ fp)(Z:St 0 s.heap)
  (hS:s.heap.get? S=aT { cls:=.type "list",dict:=bY,data:=.seq #[] c,slots:=#[] })
  (h0:n=0->∀ h' tk,(∀ b o,b ∉ wr->b≠S->s.heap.get? b=aT o->h'.get? b=aT o)->R (.ok (.ret d)) { s with heap:=h',toks:=tk })
  (hR:0<n->∀ v h' tk,P (d4 bt (n - 1)) v->(∀ b o,b ∉ wr->b≠S->s.heap.get? b=aT o->h'.get? b=aT o)->R (.ok (.ret v)) { s with heap:=h',toks:=tk }) :
  f7 (model prog w) A (.builtin "min.loop" ⟨[.ref I,.none,.ref S],[(bX "default",d)]⟩) R s:=by
 have b0:S ∉ wr:=λ h=>J (Ww.sub _ h);have Y:(toString "min"++toString ".loop":String) = "min.loop":=by decide
 refine ia gC ?_;rw[fh cV _];show wpAny _ A.in1 (iT (.ref S) >>= _) _ _ s;refine al (eQ hS rfl ?_);show wpAny _ A.in1 (tryCatch (iz (.ref I)) _ >>= _) _ _ s;rcases Nat.eq_zero_or_pos n with hn|hn
 .refine al (eR (Ww.done s _ _ (hn▸Z) λ h' tk G=>?_));show wpAny _ A.in1 (rule _ >>= _) _ _ _;refine al (g6 (aF ?_));exact h0 hn h' tk λ b o y _ e=>G b o y e
 .refine al (eR (Ww.item 0 s _ _ hn Z λ v h' tk hP a3 G=>?_));have a5:=G S _ b0 hS;show wpAny _ A.in1 (updateSeq S (λ _=>#[v,v]) >>= _) _ _ _;refine al ?_;refine ib a5 rfl ?_;rw[Y];refine aF ⟨gq cV _,bp9 Ww bt a4 S J _ 0 _ v _ rfl hn (Ww.frame _ _ _ a3 λ b b2 o e=>?_) hP (dN _ a5 rfl) λ v' b1 a2 a6 a0=>?_⟩
  .exact(b7 _ _ (λ h:S=b=>J (by rw[h];exact b2))).trans e
  .exact hR hn v' b1 a2 a6 λ b o y a1 e=>a0 b o y a1 ((b7 _ _ (cg a1)).trans (G b o y e))
end
def bt3  a d :argsOk "min" ⟨[a],[(bX "default",d)]⟩:=by unfold argsOk;kernel_rfl
theorem xb (val : Nat -> Int) : ∀ k j, j <= k -> val (d4 (λ i j => decide (val i < val j)) k) <= val j
  | 0, j, h => by have : j = 0 := by lia
                  subst this; exact cx _
  | k + 1, j, h => by
    have ih := xb val k;unfold d4
    grind
def bT0 (K:af):V->V->Hp->VK->Prop:=λ x d H Q=>∃ a ns,x=.ref a/\SqL K H a (ns.map V.int)/\(ns=[]->Q d H)/\∀ m∈ns,(∀ y∈ns,m<=y)->Q (.int m) H
def aC6 {ns:List Int}{its:yG}(r:Vals (ns.map V.int) its){i:Nat}(h:its[i]?=aT v):∃ z t,ns[i]?=aT z/\v=Value.int z t:=by
 have hl:=r.length;rw[ar]at hl;have y:=(ab.mp h).1;obtain⟨u,e1,q⟩:=r.get (i:=i) (by rw[ao,ac (by omega)];rfl);rw[h]at e1;cases e1;obtain⟨t,rfl⟩:=q;exact⟨_,t,ac (by omega),rfl⟩
def bA6 {W:St}(hc:X.calm=cn)(I:Inv X G W H s)(rx:RelV x u)(rd:RelV d w')(h:bT0 X.K x d H Q) :
  wpAny (model X.prog X.w) X.A (call (.builtin "min") [u] [(bX "default",w')]) (EP X G W Q) X.xe s:=by
 refine wl λ _ kk=>?_;obtain⟨a,ns,rfl,hS,q0,qm⟩:=h;cases rx;obtain⟨its,rv,pl,hz⟩:=I.list hS;have hl:=rv.length;rw[ar]at hl;have Y:(toString "min"++toString ".loop":String) = "min.loop":=by decide
 refine kk ?_;refine kmb_tree F.kind_min F.plain_min F.entry_min (bt3 _ _) ?_
 skip
 refine al (wpAny_of_eq (rfl) ?_);refine al (aF ?_);refine al (dQ pl.isList ?_);have a0:a<s.heap.objs.size:=by obtain⟨o,_,e,_⟩:=pl;exact aI e
 have Ww:=lH (prog:=X.prog) (w:=X.w) (A:=X.A.in1) (I.ok.hd hc) s.heap.objs.size a (aD a0) its.toArray;refine al (bJ ?_);generalize Z:s.heap.push _=h2;have J:h2.objs.size=s.heap.objs.size+1:=by rw[<-Z,cf]
 have a1:∀ b o,s.heap.get? b=aT o->h2.get? b=aT o:=λ b o e=>by rw[<-Z];exact aj _ e
 have a4:h2.objs.size ∉ [s.heap.objs.size,a]:=by
  grind
 have a3:(h2.push { cls:=.type "list",data:=.seq ([]:yG).toArray }).IsListIter s.heap.objs.size a 0/\(h2.push { cls:=.type "list",data:=.seq ([]:yG).toArray }).IsList a its.toArray:=by
  refine⟨⟨_,aj _ (by rw[<-Z];exact aM _ rfl),rfl,rfl⟩,?_⟩;obtain⟨o,e,r⟩:=pl.isList;exact⟨o,aj _ (a1 _ _ e),r⟩
 let val:=λ i=>ns.getD i 0
 have a2:∀ i v,its.toArray[i]?=aT v->∃ t,v=Value.int (val i) t:=λ i v e=>by
  obtain⟨z,t,e1,e2⟩:=aC6 rv (by rw[c6]at e;exact e);refine⟨t,?_⟩;rw[e2];show Value.int z t=Value.int (ns.getD i 0) t;rw[ay,e1];rfl
 rw[Y];have nx:∀(h':Heap) (tk:Nat),(∀ b o,b ∉ [s.heap.objs.size]->b≠h2.objs.size->(h2.push { cls:=.type "list",data:=.seq ([]:yG).toArray }).get? b=aT o->h'.get? b=aT o)->Inv X G W H { s with heap:=h',toks:=tk }:=λ h' tk k=>I.kept λ b o e=>by
  refine k b o ?_ ?_ (aj _ (a1 b o e))
  .intro z;have z':b=s.heap.objs.size:=by simpa using z
   exact iF (aI e) (by rw[z'];exact bj _)
  .intro z;exact iF (aI e) (by rw[z,J];exact Nat.not_lt.mpr (dX _))
 refine aF ⟨gq cV _,ba7 (d:=w') Ww _ (lW val a2) h2.objs.size a4 a3 (aM _ rfl) (λ hn h' tk k=>?_) λ hn v h' tk hP k=>?_⟩
 .have e:ns=[]:=by
   simp_all
  exact⟨d,H,nx h' tk k,rd,q0 e⟩
 .obtain⟨z,t,e1,e2⟩:=aC6 rv (i:=d4 (λ i j=>decide (val i<val j)) (its.toArray.size - 1)) (v:=v) (by rw[c6]at hP;exact hP);subst e2;have hv:val (d4 (λ i j=>decide (val i<val j)) (its.toArray.size - 1))=z:=by
   show ns.getD _ 0=z;rw[ay,e1];rfl
  refine⟨.int z,H,nx h' tk k,⟨t,rfl⟩,qm z (aC e1) λ y hy=>?_⟩;obtain⟨j,hj,e3⟩:=dh.mp hy;have:=xb val (its.toArray.size - 1) j (by grind);rw[hv]at this;have e4:val j=y:=by
   show ns.getD j 0=y;rw[ay,ac hj];exact e3
  lia
def cu6 (K:af)(ta td:TE):TE:=λ W H Q=>ta W H λ x H1=>td W H1 λ d H2=>bT0 K x d H2 Q
def bU9 {K}(hK:X.K=K)(hc:X.calm=cn)(hg:Gl X "min")(hm:X.mg "min"=bY)(ha:PE X e Z)(hd:PE X de Y)
  (hs:autoParam (bh [e] X.env=[(dt,eval e X.env)]) Zq4._auto_1) :
  PE X (.Call (.Name "min" p) [e] [⟨aT "default",de,kp⟩] pos) (cu6 K Z Y):=by
 subst hK;intro y s W H Q I h;refine cJ (aA3 I hg hm bR8 ?_);have h':az6 Z bu9 W H (λ vs G=>match vs with|[x]=>Y W G λ d H2=>bT0 X.K x d H2 Q|_=>False):=h;refine callWith_kw (thn ((qL ha aj5 hs) pos y s W H _ I h') λ us s1 ⟨vs,G,I1,r1,J⟩=>?_) (by rw[hs];rfl) (by rw[hs];rfl)
 match vs,J,r1 with
 | [x],J,r1 =>
  obtain⟨u,rfl,ru⟩:=j9 r1;refine kws_cons (thn (hd y s1 W G _ I1 J) λ v s2 ⟨d,H2,I2,rd,q2⟩=>kws_nil ?_);exact bA6 hc I2 ru rd q2
inductive D where
 | N|T (b:Bool)|int (i:Int)|str (x:Str)|tp (l:List D)|J (l:List D)
noncomputable abbrev D.ctorIdx (x:D):Nat:=D.casesOn x 0 (λ _=>1) (λ _=>2) (λ _=>3) (λ _=>4) (λ _=>5)
mutual
noncomputable def D.deep:D->Nat
 | .tp l=>D.deepL l+1
 | .J l=>D.deepL l+1
 | _=>0
noncomputable def D.deepL:List D->Nat
 | []=>0
 | d::l=>max (D.deep d) (D.deepL l)
end
section
variable {X:Cx}
end
section
variable {X:Cx}
def cq8 (K:af):R2:=λ x y H Q=>∃ a b xs ys,x=.ref a/\y=.ref b/\SqT K H a xs/\SqT K H b ys/\xs.length+ys.length<=aR/\∀ p H',ak4 H H'->SqT K H' p (xs++ys)->(H' p=aT (.tp (xs++ys))\/(p=a/\ys=[])\/(p=b/\xs=[]))->Q (.ref p) H'
def bR2 {ws:yG}(ht:IsTup s.heap t ([]:yG).toArray)(hb:IsTup s.heap b ws.toArray)(h1:Q (.ref b) s) :
  wpAny (model prog w) A (cF .Add (.ref t) (.ref b)) Q E s:=by
 refine wl λ _ kk=>?_;obtain⟨⟨cls,dd,data,sl⟩,ho,hc,n,hd⟩:=id ht;obtain⟨⟨a0,Z,J,Y⟩,h,G,n2,y⟩:=id hb;simp only at hc hd G y;subst hc hd G y;exact kk $ kL ⟨_,ho,rfl⟩ ⟨_,h,rfl⟩ gA kg eP eG (d9 _ _)
   (tuple_addW0 t b _ ws.toArray n n2 dd Z sl Y rfl) ⟨ho,h,h1⟩
def bU2 {K}(hK:X.K=K):OpR X (cF .Add) (cq8 K):=by
 subst hK;intro G s W H x y v u Q I J Z h;obtain⟨a,b,Y,ys,e1,e2,ha,hb,hz,q⟩:=h;by_cases hx:Y=[]
 .subst e1;subst e2;subst hx;cases J;cases Z;refine wl λ _ kk=>?_;obtain⟨its,r1,p1,_⟩:=I.tuple ha;obtain⟨a0,r2,p2,_⟩:=I.tuple hb;obtain rfl:its=[]:=r1.nil_iff.mpr rfl;exact kk $ bR2 p1 p2 ⟨.ref b,H,I,rfl,q b H (ak4.refl H) hb (.inr (.inr ⟨rfl,rfl⟩))⟩
 .refine bV9 G s W H x y v u Q I J Z ⟨a,b,Y,ys,e1,e2,ha,hb,hx,hz,λ z=>?_,λ z p hp=>?_⟩
  .subst z;exact q a H (ak4.refl H) (by simp_all) (.inr (.inl ⟨rfl,rfl⟩))
  .exact q p _ ((ak4.refl H).new hp) (SqT.of zu) (.inl zu)
def cA4 (K:af):V->Option Int->Option Int->Hp->VK->Prop:=λ x lo hi H Q=>∃ a xs,x=.ref a/\SqT K H a xs/\∀ p H',ak4 H H'->SqT K H' p (ba8 xs lo hi)->(H' p=aT (.tp (ba8 xs lo hi))\/(p=a/\ba8 xs lo hi=xs))->Q (.ref p) H'
def aD1 {y:yJ}(ht:IsTup s.heap t y)(hs:s.heap.IsSliceOf sl vl vu .none)(pl:gj vl G)(pu:gj vu Y)
  (hw:HT.sIx y.size 0 G=0/\HT.sIx y.size y.size Y=y.size) (h:Q (.ref t) s):wpAny (model prog w) A (gQ (.ref t) (.ref sl)) Q E s:=by
 obtain⟨os,Z,a1,a2⟩:=id hs;have a0:s.TypeIs (.ref sl) "slice":=⟨os,Z,a1⟩
 unfold gQ
 try with_reducible refine dL ?_
 first|refine al (aF ?_)|skip
 refine al (kM ht.typeIs (by decide) ?_);refine al (cw (name:=bX "__getitem__") ht.typeIs bz
  (cG bz ht.typeIs i3 ?_ (kx _ _)))
 show wpAny _ _ (dU (.ref t) >>= _) _ _ s;refine al (kh ht ?_);refine al (gR a0 ?_);rw[gc (by decide)];refine al (HT.sliceApplied_gen hs pl pu ?_);have J:((((HT.sIx y.size 0 G:Nat):Int)==0&&(1:Int)==1&&(HT.sIx y.size y.size Y - HT.sIx y.size 0 G)==y.size)=cn):=by
  simp_all
 show wpAny _ _ (if(((HT.sIx y.size 0 G:Nat):Int)==0&&(1:Int)==1&&(HT.sIx y.size y.size Y - HT.sIx y.size 0 G)==y.size)=cn then _ else _) _ _ s;rw[gc J];refine al (al (gR ht.typeIs (aF ?_)));rw[gc (by decide)];exact al (g6 (aF ⟨_,rfl,aF h⟩))
def aB6 (h:HT.sIx y.length 0 J=0/\HT.sIx y.length y.length G=y.length):ba8 y J G=y:=by
 unfold ba8
 simp_all
def bN9 {K}(hK:X.K=K):SlR X (cA4 K):=by
 subst hK;intro J s W H x v vl vu lo hi sl Q I Z hs Y pu h;obtain⟨a,y,e1,hx,q⟩:=h;by_cases hw:HT.sIx y.length 0 lo=0/\HT.sIx y.length y.length hi=y.length
 .subst e1;cases Z;obtain⟨its,r,ht,hz⟩:=I.tuple hx;have G:its.toArray.size=y.length:=by rw[aA];exact r.length.symm
  refine⟨"tuple",_,bz.lookup,ht.typeIs,?_⟩;exact aD1 ht hs Y pu (by rw[G];exact hw) ⟨.ref a,H,I,rfl,q a H (ak4.refl H) (by rw[aB6 hw];exact hx) (.inr ⟨rfl,aB6 hw⟩)⟩
 .exact ca7 J s W H x v vl vu lo hi sl Q I Z hs Y pu ⟨a,y,e1,hx,hw,λ p hp=>q p _ ((ak4.refl H).new hp) (SqT.of zu) (.inl zu)⟩
def bv4 {K}(h:X.K=K):SlR X (cz1 K):=by subst h;exact bK2
end
noncomputable def Its (x:Str):It:=⟨λ i _=>i<x.cps.size,λ i H v H'=>H'=H/\∃ c,x.cps[i]?=aT c/\v=.str ⟨#[c]⟩,λ i _=>x.cps.size<=i⟩
def aY3 {K} it (hn:["enumerate", "zip", "dict_itemiterator", "dict_reverseitemiterator", "odict_iterator", "itertools.zip_longest", "itertools.pairwise"].contains J=dt)
  (Ww:∀ A:aW,A.handled=bY->Walks P w A it [it] [it] x.cps.size (SignAt x) (λ i h=>h.IsStrIter it J x t i))
  (Y:∀(A:aW) (s:ah) (i:Nat) (Q:Option Value->ah->Prop) (E:Value->ah->Prop),A.handled=bY->s.heap.IsStrIter it J x t i->x.cps[i]?=bY->(∀ h',lc it s.heap h'->Q bY { s with heap:=h' })->wpAny (model P w) A (iz (.ref it)) Q E s)
  (G:∀(A:aW) (i:Nat) (s:ah) (Q:Value->ah->Prop) (E:Value->ah->Prop),s.heap.IsStrIter it J x t i->Q (.ref it) s->wpAny (model P w) A (kW (.ref it)) Q E s):Turn P w K tg (Its x) [it] it (λ i h=>h.IsStrIter it J x t i) where
 mem:=by simp
 obj:=λ i h st b hb=>by
  have e:=by simpa using hb
  subst e;obtain⟨o,ho,hc,hd⟩:=st;exact⟨o,ho,λ v z=>by rw[hd]at z;cases z⟩
 keep:=λ i h h' st k=>by
  obtain⟨o,ho,r⟩:=st;exact⟨o,k it (by simp) _ ho,r⟩
 item:=by
  intro X hP hw hK hc i y s W H E I hf st hg;subst hP hw hK;obtain⟨f0,f1,f2,f3,f4,f5⟩:=hf it (by simp);refine(Ww X.A (I.ok.hd hc)).item i s _ _ hg st λ v h' tk hv Z kk=>?_;obtain⟨c,u,a0,rfl⟩:=hv;have I1:Inv X y W H { s with heap:=h',toks:=tk }:=I.turned (λ b o hb e=>kk b o (by simpa using hb) e) f0 f1 f3 f4 f5;obtain⟨o,ho,a1,hd⟩:=id Z;exact⟨_,rfl,bz4 ho a1 hd hn ⟨.str ⟨#[c]⟩,H,I1,⟨u,rfl⟩,⟨rfl,c,a0,rfl⟩,Z,λ b hb=>(hf b hb).1⟩⟩
 done:=by
  intro X hP hw hK hc i y s W H E I hf st hg;subst hP hw hK;obtain⟨f0,f1,f2,f3,f4,f5⟩:=hf it (by simp);have a2:x.cps.size<=i:=hg;exact Y X.A s i _ E (I.ok.hd hc) st (by simp;omega) λ h' eb=>⟨rfl,I.turned (λ b o hb e=>eb b o hb e) f0 f1 f3 f4 f5⟩
 self:=λ A i s Q E st h=>G A i s Q E st h
def cz8 (tl:TE):TI:=λ W H R=>tl W H λ v H1=>∃ x,v=.str x/\R (Its x) H1
def cb7 (hl:PE X l tl):PI X tg l (cz8 tl):=by
 intro y s W H R I h;refine thn (hl y s W H _ I h) λ v s1 ⟨v0,H1,J,r1,q1⟩=>?_;obtain⟨x,e,q⟩:=q1;subst e;obtain⟨t,rfl⟩:=r1;have fin:∀ Y   o ,o={ cls:=.type Y,data:=.fields #[.str x t,.int 0 0] }->Turn X.prog X.w X.K tg (Its x) [s1.heap.objs.size] s1.heap.objs.size (λ i h=>h.IsStrIter s1.heap.objs.size Y x t i)->PIE X y W tg R (.ref s1.heap.objs.size) { s1 with heap:=s1.heap.push o }:=λ Y o eo T=>by
  subst eo;refine⟨s1.heap.objs.size,[s1.heap.objs.size],_,_,H1,rfl,J.kept λ b o e=>aj _ e,T,⟨_,aM _ rfl,rfl,rfl⟩,λ b hb=>?_,q⟩;have e:=by simpa using hb
  subst e;exact J.fpOk (ai _) (J.hok.fresh (ai _))
 cases ha:x.cps.all (·<128)
 .exact wpAny_pyIter_wide ha (fin "str_iterator" _ rfl (aY3 _ (by decide) (λ A G=>Walks.strWide G _ x t) (λ A s i Q E G st hx Z=>wpAny_pyNext_wide_end G st hx Z) λ A i s Q E st h=>wpAny_pyIter_striter_wide st h))
 .exact wpAny_pyIter_ascii ha (fin "str_ascii_iterator" _ rfl (aY3 _ (by decide) (λ A G=>Walks.strAscii G _ x t) (λ A s i Q E G st hx Z=>wpAny_pyNext_ascii_end G st hx Z) λ A i s Q E st h=>wpAny_pyIter_striter_ascii st h))
section
variable {X:Cx} {K:af} {T id:String} {name:Str} {o e:Expr} {es:yK} {to:TE} {t:TA} {r:V->List V->Hp->VK->Prop} {apos cpos:Pos}
def ce2 (Z:X.K=K)(pa:lF T)(slot:Slot T name id)(Y:typeOf (.builtin id)=pure (.type "method_descriptor"))(hm:MtR X id r)(ho:PE X o to)(ha:PA X (e::es) t)
  (G:autoParam (gk o name X.env (eval o X.env)=eval o X.env) Zq4._auto_1)
  (J:autoParam (((eN cpos (bh (e::es) X.env)).all (λ x=>!x.1)&&(backToKw cpos (keywordEach [] X.env)).all (λ x=>x.1.isSome)
   && decide ((e::es).length+([]:List lu).length+(if([]:List lu).isEmpty then 0 else 1)<30))=cn) Zq4._auto_1)
  (y:autoParam ((apos.endLine==cpos.line)=cn) Zq4._auto_1) (hs:autoParam (bh (e::es) X.env=(dt,eval e X.env)::bh es X.env) Zq4._auto_1) (h:autoParam ((eN cpos (bh es X.env)).any (·.1)=dt) Zq4._auto_1) :
  PE X (.Call (.Attribute o name apos) (e::es) [] cpos) (tBM K T r to t):=by
 subst Z;exact cq2 pa slot Y hm ho ha G J y hs h
end
structure Mach where
 letters:Int
 rooms:Int
 begins:List Int
 ends:List Int
 doors:List (Int×Str×Int×Int)
noncomputable def ct9 (q:Int×Str×Int×Int):D:=.tp [.int q.1,.str q.2.1,.int q.2.2.1,.int q.2.2.2]
def Mach.D (M:Mach):D:=.tp [.int M.letters,.int M.rooms,.tp (M.begins.map .int),.tp (M.ends.map .int),.tp (M.doors.map ct9)]
noncomputable def ltr (i:Nat):Str:=⟨#[97+i]⟩
structure DoorOk (letters rooms:Int)(q:Int×Str×Int×Int):Prop where
 s0:0<=q.1
 s1:q.1<rooms
 l:∃ i:Nat,(i:Int)<letters/\q.2.1=ltr i
 g0:0<=q.2.2.1
 g1:q.2.2.1<rooms
 t0:0<=q.2.2.2
 t1:q.2.2.2<=3
structure RoomsOk (rooms:Int)(l:List Int):Prop where
 mem:∀ r∈l,0<=r/\r<rooms
 up:l.Pairwise (· < ·)
structure Mach.Ok (most:Nat)(M:Mach):Prop where
 l0:1<=M.letters
 l1:M.letters<=3
 r0:1<=M.rooms
 r1:M.rooms<=5
 b:RoomsOk M.rooms M.begins
 e:RoomsOk M.rooms M.ends
 d:∀ q∈M.doors,DoorOk M.letters M.rooms q
 m:M.doors.length<=most
mutual
noncomputable def D.tups:D->Bool
 | .J _=>dt
 | .tp l=>D.tupsL l
 | _=>cn
noncomputable def D.tupsL:List D->Bool
 | []=>cn
 | d::l=>D.tups d&&D.tupsL l
end
end L2
end
noncomputable section
namespace L2
end L2
end
noncomputable section
namespace L2
open PySem PySem.Spec PyProof.Rows
noncomputable def cA9:Option Int->D
 | none=>.N
 | some i=>.int i
noncomputable def addO:Option Int->Option Int->Option Int
 | some a,aT b=>aT (a+b)
 | _,_=>bY
noncomputable def minO:List Int->Option Int
 | []=>bY
 | a::l=>aT (match minO l with|none=>a|some b=>if b<a then b else a)
def aq0:∀ {l},minO l=bY↔l=[]
 | []=>by simp[minO]
 | a::l=>by simp[minO]
theorem aI0:∀ {l} {m},minO l=aT m->m∈l/\∀ y∈l,m<=y
 | [],m,h=>by cases h
 | a::l,m,h=>by
  unfold minO at h;have h':=aq h;cases e:minO l with
  | none =>
   rw[e]at h';have:=aq0.mp e
   simp_all
  | some b =>
   rw[e]at h';obtain⟨Y,J⟩:=aI0 e
   grind
set_option tactic.hygienic true in
def bb6 {pos a1 py} N'  src 
  (hN:X.N.Nodup) (b6:X.N[i]?=aT y) (a5:X.env.scope.names.lookup y=aT .local)
  (b3:qQ N' src scope X.N X.env.scope=cn) (hi:PI X tg iter wi) (a3:X.calm=cn)
  (c0:∀(Cc:Addr) (cells:yB) (s:ah) (H:Hp) (ex:List Addr),PG (qo X N' scope Cc cells s H ex) tg g/\PIf (qo X N' scope Cc cells s H ex) a0 tc/\PE (qo X N' scope Cc cells s H ex) Z te)
  (hs:autoParam (∀ x,dS iter X.env x=pure x) Zq3._auto_1)
  (b2:autoParam (fG (.ListComp Z [⟨tg,iter,a0,0⟩] scope pos) (aT (.Name y py)) a1.line X.env=pure cn) Zq4._auto_1) :
  PS X (.Assign [.Name y py] (.ListComp Z [⟨tg,iter,a0,0⟩] scope pos) a1) (bz9 (tComp src wi g tc te) (aH6 i)):=by
 intro G s W H D0 I h;have ck:=bG7 b3;rw[exec_Assign_Name_used _ _ _ _ b2];refine al (kb (al ?_))
 skip
 have c2:=qY λ y hy e=>I.ok.has y.1 (ck.fr y hy e);refine al (cr (gm rfl hs c2 ck.kind ck.loc (thn (hi G s W H _ I h) λ v s1 h1=>thn h1 λ c4 s2 h2=>?_)) (λ _ s' hq=>aF (aF hq)) λ _ _ e=>e);refine wl λ _ kk=>?_;obtain⟨it,Y,tn,J,H2,e,I2,T,b1,f2,Ww⟩:=h2;subst e;have hD:=I2.fresh;obtain⟨Ww,⟨m0,w0⟩,turn⟩:=Ww _ hD;have I3:=I2.lnew (t':=s2.toks) .nil (dW _);have a6:∀ b∈Y,b<s2.heap.objs.size:=λ b hb=>by obtain⟨o,q,_⟩:=T.obj _ _ b1 b hb;exact aI q
 have f3:∀ b∈Y,FpOk X G (upd H2 s2.heap.objs.size (.J [])) b:=λ b hb=>⟨by rw[zr (aD (a6 b hb))];exact(f2 b hb).1,(f2 b hb).2⟩
 refine kk ?_;refine bJ (an2 ?_);generalize a2:({ s2 with heap:=s2.heap.push { cls:=.type "list",data:=.seq ([]).toArray },toks:=s2.toks })=s3 at I3;have c3:=a2;have b4:∀ b∈Y,b<s3.heap.objs.size:=λ b hb=>by
  rw[<-a2];show b<(s2.heap.push _).objs.size;rw[cf];exact ga (a6 b hb)
 have I4:=aB5 (s4:={ s3 with heap:=fe (s3.heap.push { cls:=.type "dict",data:=.dict #[] }) scope.names }) ck I3 f3 b4 ⟨_,rfl⟩;have a4:tn 0 (fe (s3.heap.push { cls:=.type "dict",data:=.dict #[] }) scope.names):=T.keep _ _ _ b1 λ b hb o e=>dG _ _ b o (aj _ (by rw[<-a2];exact aj _ e));obtain⟨hg,hif,he⟩:=c0 s3.heap.objs.size (aP (s3.heap.objs.size+1) scope.names (ai8 X.env.cells scope.names [])) s3 (upd H2 s2.heap.objs.size (.J [])) Y;have b0:∀ H':Hp,(∀ b∈Y,H' b=bY)->∀ b∈Y,FpOk (qo X N' scope s3.heap.objs.size (aP (s3.heap.objs.size+1) scope.names (ai8 X.env.cells scope.names [])) s3 (upd H2 s2.heap.objs.size (.J [])) Y) [] H' b:=λ H' hn b hb =>
  ⟨hn b hb,(I4.ok.exf b hb).1,I4.ok.exfs b hb,.inl hb,λ x c e=>(I4.ok.exf b hb).2 x c e,λ p hp=>iF (show p∈([]:yA)from hp) (by simp)⟩
 have T':Turn X.prog X.w X.K tg J Y it tn:=T;have c1:∀ b∈Y,upd H2 s2.heap.objs.size (.J []) b=none:=λ b hb=>(f3 b hb).1;have L:=aL2 (X':=qo X N' scope s3.heap.objs.size (aP (s3.heap.objs.size+1) scope.names (ai8 X.env.cells scope.names [])) s3 (upd H2 s2.heap.objs.size (.J [])) Y) (R:=compPost (model X.prog X.w) X.A X.xe (aT (gN (.Name y py) X.env)) (λ _ s'=>SP X G D0 .next s') (Value.ref s2.heap.objs.size) s3.heap.objs.size) (iter:=iter) (scope:=scope) (pos:=pos) (QD:=λ H'=>D0.nx (W.set i (aT (.ref s2.heap.objs.size))) H') rfl a3 I4 T' a4 b0 c1 w0 turn hg hif he
  (λ W' H' s' J' q=>by
   have J2:=aU4 I3 f3 J' (Heap.SameBut.refl _ _);obtain⟨mm,hn,_⟩:=J'.loc;have nL:s3.heap.objs.size≠X.env.locals:=cS I3.lt;have nC:∀ x c,X.env.cells.lookup x=aT c->c≠s3.heap.objs.size:=λ x c e=>by
    obtain⟨v,z⟩:=I3.cell x c e;exact aD z.lt
   show wpAny _ X.A (gN (.Name y py) X.env (.ref s2.heap.objs.size)) _ _ _;refine kJ (aG8 (v:=.ref s2.heap.objs.size) J2 hN b6 (.inl a5) rfl (λ s5 I5 sb=>?_) (.inr a5));obtain⟨aa,sb,ha⟩:=sb;have na:s3.heap.objs.size≠aa:=by
    rcases ha with z|z
    .rw[z];exact nL
    .exact λ e=>nC _ _ z e.symm
   refine⟨mm,hn.sameBut sb na,λ h' b5=>⟨_,H',I5.turned (t':=s5.toks) (λ b o hb e=>(b5.2 b hb).trans e) J'.free nL (.inr I3.sz) nC λ p hp z=>?_,q⟩⟩;exact iF (aI (I3.pin p hp).1) (by rw[z];exact bj _))
 exact gZ L (T.self _ _ _ _ _ a4 L)
def cB6:V->Option Int->Option Int->Hp->VK->Prop:=λ x lo hi H Q=>∃ z,x=.str z/\z.length<=aR/\Q (.str (fu z lo hi)) H
def aI8 (p:gj v o):∃ q,v=partValue q/\q.map (·.1)=o:=by
 cases p with
 | none=>exact⟨bY,rfl,rfl⟩
 | int i t=>exact⟨aT (i,t),rfl,rfl⟩
set_option tactic.hygienic true in
def cl3 :SlR X cB6:=by
 intro Z s W H x v vl vu G J sl Q I rx hs pl pu h;refine wl λ _ kk=>?_;obtain⟨z,rfl,hz,q⟩:=h;obtain⟨t,rfl⟩:=rx;obtain⟨l,rfl,el⟩:=aI8 pl;obtain⟨u,rfl,eu⟩:=aI8 pu;refine kk ⟨"str",_,F.slot_str_getitem.lookup,lE s z t,?_⟩;refine wpAny_getItem_str_slice (st:=bY) hs rfl ?_;unfold sliceMade;have e:slicePicked z l u bY=bC G J 1 z.length:=by
  unfold slicePicked
  simp_all
 rw[e];unfold fu at q;split
 .rename_i hc;have y:((1:Int)==1&&(bC G J 1 z.length).length==z.length)=true:=hc;rw[gc y]at q;exact⟨.str z,H,I,⟨t,rfl⟩,q⟩
 .rename_i hc;have y:¬((1:Int)==1&&(bC G J 1 z.length).length==z.length)=true:=hc;rw[gn y]at q;have Y:=by
   show(iG (λ x=>z.cps[x]?) (bC G J 1 z.length)).toArray.size<=aR;rw[aA];exact am (gu _ _) (am (sliceIndices_le G J z.length) hz)
  exact⟨Y,.str _,H,I.tok _,⟨_,rfl⟩,q⟩
section
variable {M:Model} {A:aW} {E:Value->ah->Prop} {s₀ s:ah} {m cm:yC} {env:Env} {cs:yB}
def bS4 (z:f8 s₀ env.locals m cs cm s)(G:env.scope.kind=.function)(kl:env.kindOf n=aT .local)
  (go:∀ s',f8 s₀ env.locals (λ y=>if y=n then aT v else m y) cs cm s'->Q () s'):wpAny M A (fF env n v) Q E s:=by
 refine ig kl z.toInCall.ns (λ g h gs=>go _ ⟨⟨?a,h,λ b o e=>?b,z.toInCall.fresh⟩,λ k c e=>?c,z.apart,z.above⟩) (by rw[G];rfl)
 case a=>obtain⟨J,tk,e⟩:=z.toInCall.same;subst e;exact⟨g,_,rfl⟩
 case b=>exact gs.extBut b o (aD (av (aI e) z.toInCall.fresh)) (z.toInCall.keep b o e)
 case c=>exact(z.cell k c e).sameBut gs (cS (z.above k c (aE e)))
def bT4 (z:f8 s₀ env.locals m cs cm s)(h:env.scope.kind=.function)(G:env.kindOf n=aT .cell)
  (e1:env.cells.lookup n=aT c) (e2:cs.lookup n=aT c) (go:∀ s',f8 s₀ env.locals m cs (λ y=>if y=n then aT v else cm y) s'->Q () s'):wpAny M A (fF env n v) Q E s:=by
 have up:=z.above n c (aE e2);refine iu h G e1 (z.cell n c e2) λ g Y gs=>go _ ⟨⟨?a,z.toInCall.ns.sameBut gs (aD up),λ b o e=>?b,z.toInCall.fresh⟩,λ k J e=>?c,z.apart,z.above⟩
 case a=>obtain⟨Z,tk,e⟩:=z.toInCall.same;simp_all
 case b=>exact gs.extBut b o (aD (di (av (aI e) z.toInCall.fresh) up)) (z.toInCall.keep b o e)
 case c =>
  by_cases q:k=n
  .simp_all
  .rw[gn q];exact(z.cell k J e).sameBut gs λ y=>q (gP z.apart (aE e) (y▸aE e2))
theorem aS1 (f:Str×Value->PUnit->Sem (ForInStep PUnit))(hf:∀ n v u,f (n,v) u=(do fF env n v;pure (.yield ⟨⟩)))(Y:env.scope.kind=.function)(sub:∀ n c,cs.lookup n=aT c->env.cells.lookup n=aT c) :
  ∀ bs  (m J:yC)  s   Q ,f8 s₀ env.locals m cs J s ->
   (∀ y∈bs,env.kindOf y.1=aT .local\/(env.kindOf y.1=aT .cell/\∃ c,cs.lookup y.1=aT c)) ->
   (∀ s',f8 s₀ env.locals (bindL env.kindOf bs m) cs (bindC env.kindOf bs J) s'->Q ⟨⟩ s')->wpAny M A (forIn bs ⟨⟩ f) Q E s
 | [],m,J,s,Q,z,_,go=>by rw[iE];exact aF (go s z)
 | (n,v)::r,m,J,s,Q,z,hy,go=>by
  rw[li,hf];have hr:=λ y (q)=>hy y (aB _ q);rcases hy (n,v) aH with kl|⟨kc,c,e2⟩
  .refine al (al (bS4 z Y kl λ s' Z=>aF (aS1 f hf Y sub r _ _ s' Q Z hr λ h G=>go h ?_)));unfold bindL bindC;simp_all
  .have nl:¬ env.kindOf n=aT .local:=by lia
   refine al (al (bT4 z Y kc (sub n c e2) e2 λ s' Z=>aF (aS1 f hf Y sub r _ _ s' Q Z hr λ h G=>go h ?_)));unfold bindL bindC;simp_all
end
def aA6 {h:yB}{func:yI}{code}
  (J:scope.kind=.function) (hy:∀ y∈binds,scope.names.lookup y.1=aT .local\/(scope.names.lookup y.1=aT .cell/\∃ c,(aP (s.heap.objs.size+1) scope.names []).lookup y.1=aT c))
  (go:∀ env,env=newEnv scope s.heap.objs.size globals (aP (s.heap.objs.size+1) scope.names h) qual func code bY builtins ->
   ∀ s',f8 s env.locals (bindL env.kindOf binds λ _=>bY) (aP (s.heap.objs.size+1) scope.names []) (bindC env.kindOf binds λ _=>bY) s'->Q env s') :
  wpAny M A (fQ scope globals h binds qual func code bY builtins) Q E s:=by
 simp only[fQ,kB,aG,if_false];refine al (wpAny_alloc (al (wpAny_layCells _ (λ Z kd ce=>by lia) _ _ _ _ ?_)));have ok:=cellsFrom_ok scope.names (s.heap.push { cls:=.type "frame",data:=.dict #[] }) (s.heap.objs.size+1) [] ⟨λ _ _ Y=>(nomatch Y),List.Pairwise.nil⟩ (by simp_all);have G:({ s with heap:=s.heap.push { cls:=.type "frame",data:=.dict #[] } }:ah).heap.objs.size=s.heap.objs.size+1:=cf ..;rw[cf]at ok;rw[G];refine al (aS1 (s₀:=s) (cs:=aP (s.heap.objs.size+1) scope.names []) (env:=newEnv scope s.heap.objs.size globals (aP (s.heap.objs.size+1) scope.names h) qual func code bY builtins)
  _ (λ _ _ _=>rfl) J (λ n c e=>?sub) binds (λ _=>bY) (λ _=>bY) _ _ ⟨⟨⟨_,_,rfl⟩,?ns,λ b o e=>?k,ai _⟩,λ n c e=>(ok.empty n c (aE e)).1,ok.apart,λ n c e=>(ok.empty n c e).2⟩ hy λ s' x=>aF (go _ rfl s' x))
 case sub =>
  show(aP _ _ _).lookup n=aT c;rw[zF,qh,e];rfl
 case ns=>exact(mD s.heap (.type "frame")).keeps (dG _ _)
 case k=>exact dG _ _ b o (aj _ e)
noncomputable def ji (c:Addr)(qual:Str):HO:=.ext λ h=>h.CodeRec (.ref c) qual
noncomputable def aF9 (f:Addr)(fd:bH):HO:=.ext λ h=>h.get? f=aT { cls:=.type "function",data:=.func fd }
def aV4 (r:h.CodeRec (.ref c) q):ai1 P w H h c (ji c q):=by
 refine⟨r,?_,λ G J z k=>?_⟩
 .obtain⟨y,o,vs,t,e,g,_⟩:=r
  simp_all
 .obtain⟨y,o,vs,t,e,g,d⟩:=z;cases e;exact⟨c,o,vs,t,rfl,k o g,d⟩
def aM2 (x:HOk P w H h)(e:H c=aT (ji c q)):h.CodeRec (.ref c) q:=(x c _ e).1
def aD9 (r:h.get? f=aT { cls:=.type "function",data:=.func y }):ai1 P w H h f (aF9 f y) :=
 ⟨r,⟨_,r⟩,λ _ _ z k=>k _ z⟩
def aE1 (x:HOk P w H h)(e:H f=aT (aF9 f y)):h.get? f=aT { cls:=.type "function",data:=.func y }:=(x f _ e).1
noncomputable def isC (cells:yB)(b:Addr):Bool:=cells.any λ p=>cells.lookup p.1==aT b
def ak0 :isC cells b=cn↔∃ x,cells.lookup x=aT b:=by
 unfold isC;rw[k7];constructor
 .rintro⟨p,_,e⟩;exact⟨p.1,by simpa using e⟩
 .rintro⟨x,e⟩;exact⟨(x,b),aE e,by simpa using e⟩
def ah0 (cells:yB)(H:Hp):Hp:=λ b=>if isC cells b=cn then bY else H b
def Put (cells:yB)(H H':Hp):Hp:=λ b=>if isC cells b=cn then H b else H' b
def ah0.cell (h:isC cells b=cn):ah0 cells H b=none:=gc h
def ah0.ne (h:isC cells b≠cn):ah0 cells H b=H b:=gn h
def ah0.some (h:ah0 cells H b=aT o):isC cells b≠cn/\H b=aT o:=by
 unfold ah0 at h;lia
def ah0.none (h:H b=bY):ah0 cells H b=none:=by
 unfold ah0;split
 .rfl
 .exact h
def Put.cell (h:isC cells b=cn):Put cells H H' b=H b:=gc h
def Put.ne (h:isC cells b≠cn):Put cells H H' b=H' b:=gn h
def Cells (clos:yB)(H:Hp):Prop:=∀ x c,clos.lookup x=aT c->∃ o v,H c=aT (.frz o (.own c))/\o.data=.cell v
def Cells.at (z:Cells y H)(h:isC y b=cn):∃ o v,H b=aT (.frz o (.own b))/\o.data=.cell v:=by
 obtain⟨x,e⟩:=ak0.mp h;exact z x b e
def Cap (clos:yB)(H:Hp)(fr:yH)(cap:List V):Prop:=∀(i:Nat) (x:Str) (v:V),fr[i]?=aT x->cap[i]?=aT v->∃ c o u,clos.lookup x=aT c/\H c=aT (.frz o (.own c))/\o.data=.cell (aT u)/\RelV v u
structure LamScope (N ps fr:yH)(sc:Scope):Prop where
 kind:sc.kind=.function
 co:sc.isCoroutine=dt
 gen:sc.isGenerator=dt
 nd:N.Nodup
 app:N=ps++fr
 par:∀ x∈ps,sc.names.lookup x=aT .local\/sc.names.lookup x=aT .cell
 frs:∀ x∈fr,sc.names.lookup x=aT .free
 cel:∀ y∈sc.names,y.2=.cell->sc.names.lookup y.1=aT .cell
def aS3 (P:aK)(w:World)(K:af)(mg:yC)(base:Heap)(N:yH)(qual:Str)(scope:Scope)(f:Addr)(cd:Value)(clos:yB)(A:aW)(outer:List Env)(s:ah)(H:Hp):Cx where
 prog:=P
 w:=w
 K:=K
 mg:=mg
 base:=base
 A:=A.deeper (dA qual scope s.heap.objs.size f cd (aP (s.heap.objs.size+1) scope.names clos))
 N:=N
 s₀:=s
 H₀:=ah0 clos H
 env:=dA qual scope s.heap.objs.size f cd (aP (s.heap.objs.size+1) scope.names clos)
 outer:=outer
 stack:=dA qual scope s.heap.objs.size f cd (aP (s.heap.objs.size+1) scope.names clos)::outer
 ex:=[]
 fn:=λ x=>scope.names.lookup x==aT .cell
 calm:=cn
 pn:=[]
 xe:=λ _ _=>False
def HOk.drop (x:HOk P w H h)(z:Cells G H):HOk P w (ah0 G H) h:=λ b o e=>by
 obtain⟨_,e'⟩:=ah0.some e;have J:∀ c u,H c=aT u->(∀ o v,u≠.frz o v)->isC G c≠true:=λ c u q d y=>by
  obtain⟨o,v,Y,_⟩:=z.at y
  grind
 exact(x b o e').stay (λ _ _ _ q=>q) (λ c q=>by rw[ah0.ne (J c _ q λ _ _=>by nofun)];exact q) λ c Z q=>by rw[ah0.ne (J c _ q λ _ _=>by nofun)];exact q
def bs0 {K:af}{G:List Env}{s s1:ah}{H:Hp}{us:yG}{vs cap:List V}
  (S:LamScope N ps fr scope) (hd:A.handled=bY) (J:Env0 P w K mg base A G s H) (hl:vs.length=ps.length) (a3:cap.length=fr.length) (r:Vals vs us)
  (hc:Cells h H) (inj:∀ x y c,h.lookup x=aT c->h.lookup y=aT c->x=y) (a4:∀ x,scope.names.lookup x=aT .free->∃ c,h.lookup x=aT c) (a0:Cap h H fr cap)
  (x:f8 s s.heap.objs.size (bindL (dA qual scope s.heap.objs.size f cd (aP (s.heap.objs.size+1) scope.names h)).kindOf (ps.zip us) λ _=>bY) (aP (s.heap.objs.size+1) scope.names [])
   (bindC (dA qual scope s.heap.objs.size f cd (aP (s.heap.objs.size+1) scope.names h)).kindOf (ps.zip us) λ _=>bY) s1) :
  Inv (aS3 P w K mg base N qual scope f cd h A G s H) [] (vs.map aT++cap.map aT) (ah0 h H) s1:=by
 obtain⟨h1,tk,rfl,hk⟩:=x.done;have Z:∀ b:Addr,b ∉ (aS3 P w K mg base N qual scope f cd h A G s H).ex:=λ b z=>iF (show b∈([]:List Addr)from z) (by simp);have lk:∀ y c,(aP (s.heap.objs.size+1) scope.names h).lookup y=aT c->(aP (s.heap.objs.size+1) scope.names []).lookup y=aT c\/((aP (s.heap.objs.size+1) scope.names []).lookup y=bY/\h.lookup y=aT c):=λ y c e=>by
  rw[zF,qh]at e
  simp_all
 have own:∀ y c,(aP (s.heap.objs.size+1) scope.names []).lookup y=aT c->s.heap.objs.size<c:=λ y c e=>x.above y c (aE e);have a2:∀ y c,h.lookup y=aT c->c<s.heap.objs.size:=λ y c e=>by
  obtain⟨o,v,q,_⟩:=hc y c e;exact J.hok.lt q
 have hx:∀ y c,h.lookup y=aT c->scope.names.lookup y=aT .free->(aP (s.heap.objs.size+1) scope.names h).lookup y=aT c:=λ y c e k=>by
  rw[zF,qh];cases q:(aP (s.heap.objs.size+1) scope.names []).lookup y with
  | none=>exact e
  | some d =>
   rcases qc (aE q)with z|z
   .rw[S.cel _ z rfl]at k;cases k
   simp_all
 have dn:∀ b,H b=bY->ah0 h H b=none:=λ b e=>ah0.none e;refine⟨⟨J.mod,S.kind,rfl,rfl,ai _,λ y z c a b=>?inj,λ y hy=>?has,λ y c hy e=>?cab,λ _=>hd,iC J.frames,.inr ⟨rfl,rfl⟩,λ b z=>iF z (Z b),λ b o e=>⟨(J.bs b o e).1,dn b (J.bs b o e).2⟩,J.bsz,λ b _ _=>Z b,λ b z=>iF z (Z b),J.funs,λ b hb=>dn b (J.frf b hb)⟩,
  rfl,J.bare,Un.kept hk,⟨_,x.toInCall.ns,λ i y v q1 q2 q3=>?loc⟩,λ y c e=>?cell,dn _ (J.hok.fresh (ai _)),λ y c e=>?freeC,λ p hp=>iF (show p∈([]:yA)from hp) (by simp),(J.hok.drop hc).kept hk,?len⟩
 case inj =>
  rcases lk y c a with a|⟨_,a⟩<;>rcases lk z c b with b|⟨_,b⟩
  .exact gP x.apart (aE a) (aE b)
  .exact iF (di (own _ _ a) (a2 _ _ b)) (bj _)
  .exact iF (di (own _ _ b) (a2 _ _ a)) (bj _)
  .exact inj y z c a b
 case has =>
  have hy:scope.names.lookup y=aT .cell\/scope.names.lookup y=aT .free:=hy;rcases hy with hy|hy
  .obtain⟨c,e⟩:=qM (n:=s.heap.objs.size+1) hy;refine⟨c,?_⟩;show(aP (s.heap.objs.size+1) scope.names h).lookup y=aT c;rw[zF,qh,e];rfl
  .obtain⟨c,e⟩:=a4 y hy;exact⟨c,hx y c e hy⟩
 case cab =>
  have hy:(scope.names.lookup y==aT .cell)=true:=hy;have a5:scope.names.lookup y=aT .cell:=by simpa using hy
  rcases lk y c e with a|⟨a,_⟩
  .exact dZ (own y c a)
  .obtain⟨d,q⟩:=qM (n:=s.heap.objs.size+1) a5;rw[q]at a;cases a
 case loc =>
  have a1:ps.Nodup:=by have:=S.nd;rw[S.app]at this;exact(List.nodup_append.mp this).1
  by_cases hi:i<vs.length
  .have ha:vs[i]?=aT v:=by
    rw[ax (by simpa using hi),ao]at q2;cases e:vs[i]? with
    | none=>rw[e]at q2;cases q2
    | some a=>rw[e]at q2;cases q2;rfl
   obtain⟨u,hu,rv⟩:=r.get ha;have hp:ps[i]?=aT y:=by
    have Y:N[i]?=aT y:=q1;rw[S.app,ax (by lia)]at Y;exact Y
   refine⟨u,rv,?_⟩;rcases S.par y (aC hp)with k|k
   .exact .inl ⟨k,av6 a1 hp hu k⟩
   .obtain⟨c,e⟩:=qM (n:=s.heap.objs.size+1) k;refine .inr ⟨.inl k,c,?_,?_⟩
    .show(aP (s.heap.objs.size+1) scope.names h).lookup y=aT c;rw[zF,qh,e];rfl
    .have q:=x.cell y c e;rw[av4 a1 hp hu (by show scope.names.lookup y≠_;rw[k];decide)]at q;exact q
  .have hf:fr[i - vs.length]?=aT y:=by
    have Y:N[i]?=aT y:=q1;rw[S.app,ag (by lia)]at Y;rw[hl];exact Y
   have hv:cap[i - vs.length]?=aT v:=by
    rw[ag (by simpa using hi),ao,ar]at q2;cases e:cap[i - vs.length]? with
    | none=>rw[e]at q2;cases q2
    | some a=>rw[e]at q2;cases q2;rfl
   refine wl λ _ kk=>?_;obtain⟨c,o,u,e1,e2,e3,e4⟩:=a0 _ y v hf hv;have kf:=S.frs y (aC hf);refine kk ⟨u,e4,.inr ⟨.inr kf,c,hx y c e1 kf,?_⟩⟩;exact⟨o,hk c o (J.hok c _ e2).1,e3⟩
 case cell =>
  rcases lk y c e with a|⟨_,a⟩
  .exact⟨_,x.cell y c a⟩
  .obtain⟨o,v,q,d⟩:=hc y c a;exact⟨v,o,hk c o (J.hok c _ q).1,d⟩
 case freeC =>
  rcases lk y c e with a|⟨_,a⟩
  .exact dn c (J.hok.fresh (dZ (own y c a)))
  .exact ah0.cell (ak0.mpr ⟨y,a⟩)
 case len =>
  show _=N.length;rw[S.app]
  simp_all
def bn5 {s s':ah}(hok:HOk P w H s.heap)(hc:Cells h H)(frf:∀ b∈frs G,H b=bY)
  (un:Un (frs G) [] (ah0 h H) H' s.heap s'.heap) (Z:HOk P w H' s'.heap):Un (frs G) [] H (Put h H H') s.heap s'.heap/\HOk P w (Put h H H') s'.heap:=by
 have nc:∀ b,H b=bY->isC h b≠true:=λ b e y=>by
  obtain⟨o,v,q,_⟩:=hc.at y;lia
 have J:∀ c u,H c=aT u->(∀ o v,u≠.frz o v)->isC h c≠true:=λ c u q d y=>by
  obtain⟨o,v,q',_⟩:=hc.at y
  grind
 have Y:∀ b,isC h b=cn->H' b=none:=λ b y=>by
  obtain⟨o,v,q,_⟩:=hc.at y;exact un.free b o (hok b _ q).1 (ah0.cell y) (by simp)
 refine⟨⟨λ b o e n hb hx=>un.keep b o e (ah0.none n) hb hx,λ b o e n hb hx=>un.slot b o e (ah0.none n) hb hx,λ b o e n hx=>?_,λ b o e hx=>un.there b o e hx,λ b xs e=>?_,λ b o u e=>?_,λ b ps e=>?_⟩,λ b o e=>?_⟩
 .rw[Put.ne (nc b n)];exact un.free b o e (ah0.none n) hx
 .have z:=J b _ e λ _ _=>by nofun
  rw[Put.ne z];exact un.tups b xs (by rw[ah0.ne z];exact e)
 .by_cases z:isC h b=cn
  .rw[Put.cell z];exact e
  .rw[Put.ne z];exact un.frzs b o u (by rw[ah0.ne z];exact e)
 .have z:=J b _ e λ _ _=>by nofun
  rw[Put.ne z];exact un.tbls b ps (by rw[ah0.ne z];exact e)
 .by_cases z:isC h b=cn
  .rw[Put.cell z]at e;obtain⟨ob,v,q,d⟩:=hc.at z;rw[q]at e;cases e;have g:=(hok b _ q).1;have g':=un.keep b ob g (ah0.cell z) (λ y=>by simp_all) (by simp);exact⟨g',ob,g'⟩
  .rw[Put.ne z]at e;have np:∀ c u,H' c=aT u->Put h H H' c=aT u:=λ c u q=>by
    rw[Put.ne λ y=>by simp_all];exact q
   exact(Z b o e).stay (λ _ _ _ q=>q) (λ c q=>np c _ q) λ c xs q=>np c _ q
structure ClOk (P:aK)(w:World)(K:af)(mg:yC)(base:Heap)(k:Nat)(R:Hp->Prop)(f:Addr)(sp:Sp):Prop where
 run:∀(A:aW) (outer:List Env) (s:ah) (H:Hp) (us:yG) (vs:List V) (Q:VK),Room k A->Env0 P w K mg base A outer s H->R H->Vals vs us->sp vs H Q E0 ->
  f7 (model P w) A (.call (.ref f) ⟨us,[]⟩) (CR CX0 outer P w H s Q E0) s
def ClOk.ofFn {K}(F:FnOk P w K mg base CX0 k f J ps sp)(hb:Binds K J ps []):ClOk P w K mg base k (λ _=>True) f sp :=
 ⟨λ A y s H us vs Q Y G _ r h=>by
  have hl:=F.len _ _ _ _ h;have:=hb s us (G.mod.kin.keeps λ b o e=>(G.bs b o e).1) (by rw[bu,<-r.length];exact hl);rw[bu]at this;exact F.run A y s H ⟨us,[]⟩ us vs Q E0 Y G this r h⟩
def aL6 (H:Hp)(f:Addr)(qual:Str)(params:a9)(body:Expr)(scope:Scope)(fr:yH)(cap:List V)(clos:yB):Prop :=
 ∃ pm c' ctv,H f=aT (aF9 f (bU "<lambda>" qual params body scope clos pm (.ref c') ctv))/\H c'=aT (ji c' qual)/\Cells clos H /\
  (∀ x y c,clos.lookup x=aT c->clos.lookup y=aT c->x=y)/\(∀ x,scope.names.lookup x=aT .free->∃ c,clos.lookup x=aT c)/\Cap clos H fr cap
def BM (mg:yC)(base:Heap):Prop:=∃ bm ob,mg "__builtins__"=aT (.ref bm)/\bm≠eA/\base.get? bm=aT ob/\ob.cls=.type "module"/\ob.dict=aT eA/\ob.data=.plain
def cA0 (cells:yB)(P:Addr)(qual:Str)(params:a9)(body:Expr)(scope:Scope)(pos:Pos):TE:=λ _ H Q =>
 ∃ ps:Array Value,H P=aT (.tbl ps)/\iU ps.toList /\
  (dv pos ps.toList=bY->∀ c' f pm ctv,H c'=bY->H f=bY->c'≠f ->
   Q (.ref f) (upd (upd (upd H P (.tbl (ps++#[cL pos.line,cL pos.col,.ref c']))) c' (ji c' qual)) f (aF9 f (bU "<lambda>" qual params body scope (ai8 cells scope.names []) pm (.ref c') ctv)))) /\
  (∀ cv,dv pos ps.toList=aT cv->∃ c',cv=.ref c'/\∀ f pm ctv,H f=bY->Q (.ref f) (upd H f (aF9 f (bU "<lambda>" qual params body scope (ai8 cells scope.names []) pm (.ref c') ctv))))
noncomputable def lamCheck (scope xs:Scope):Bool:=scope.names.all λ y=>!(y.2==.free)||(xs.names.lookup y.1==aT .cell||xs.names.lookup y.1==aT .free)
def bm6 (Z:X.env.code=.ref c)(Cc:bV X.base c P)(hB:BM X.mg X.base)
  (d1:lamCheck scope X.env.scope=cn) (a2:autoParam (lI params X.env=([],[])) Zq4._auto_1) :
  PE X (.Lambda params body scope pos) (cA0 X.env.cells P (X.env.qual ++ "<lambda>") params body scope pos):=by
 intro e0 s W H Q I h;have d2:∀ y∈scope.names,y.2=.free->X.env.kindOf y.1=aT .cell\/X.env.kindOf y.1=aT .free:=λ y hy e=>by
  have z:=aU.mp d1 y hy;have z':=by simpa [e]using z
  exact z'
 obtain⟨ps,hP,ht,a1,a3⟩:=h;refine PySem.W.kla_eval a2 ?_;have c1:=qY λ y hy e=>I.ok.has y.1 (d2 y hy e);have oP:=I.hok P _ hP;have a0:=I.mod.glob.keeps I.bk;have hC:=Cc.keeps I.bk;have d3:aV≠P:=λ q=>by
  obtain⟨o,es,ep,e,d,_⟩:=a0;rw[q,oP]at e;cases e;cases d
 have hb:s.heap.BuiltinsAt X.mg P:=by
  obtain⟨bm,ob,b1,b2,b3,b4,b5,b6⟩:=hB;refine⟨bm,ob,b1,b2,λ q=>?_,λ q=>?_,I.bk _ _ b3,b4,b5,b6⟩
  .obtain⟨o,es,ep,e,d,_⟩:=I.mod.glob;rw[q,e]at b3;cases b3;rw[d]at b6;cases b6
  .have e:=I.bk _ _ b3;rw[q,oP]at e;cases e;cases b4
 cases q:dv pos ps.toList with
 | none =>
  refine PySem.W.kla_makeFunction c1 I.ok.glob a0 Z hC oP ht q d3 hb λ G J h' tk hx hge hlt a5 b0=>?_;have a4:=aI oP;have d0:=cS (av a4 hge);have c3:=cS (di (av a4 hge) hlt);have c4:=aD hlt;have hsz:=am hge (dZ hlt);have nP:∀ b,H b=bY->b≠P:=λ b n z=>by rw[z,hP]at n;cases n
  have lt:∀ b o,H b=aT o->b≠G/\b≠h'.objs.size:=λ b o e=>⟨aD (av (I.hok.lt e) hge),aD (av (I.hok.lt e) hsz)⟩
  have c0:∀ b o,s.heap.get? b=aT o->b≠G/\b≠h'.objs.size:=λ b o e=>⟨aD (av (aI e) hge),aD (av (aI e) hsz)⟩
  have keep:∀ b o,b≠P->s.heap.get? b=aT o->(h'.push (PySem.W.kla_obj "<lambda>" (X.env.qual ++ "<lambda>") params body scope (ai8 X.env.cells scope.names []) ((X.mg "__name__").getD .none) G J)).get? b=aT o:=λ b o n e=>aj _ (hx b o n e);have Y:∀ b,b≠P->b≠G->b≠h'.objs.size->∀ o1 o2 o3,upd (upd (upd H P o1) G o2) h'.objs.size o3 b=H b:=λ b n1 n2 n3 o1 o2 o3=>by rw[zr n3,zr n2,zr n1]
  refine⟨.ref h'.objs.size,upd (upd (upd H P (.tbl (ps++#[cL pos.line,cL pos.col,.ref G]))) G (ji G (X.env.qual ++ "<lambda>"))) h'.objs.size (aF9 h'.objs.size (bU "<lambda>" (X.env.qual ++ "<lambda>") params body scope (ai8 X.env.cells scope.names []) ((X.mg "__name__").getD .none) (.ref G) J)),I.un (t':=tk) ⟨λ b o e n _ _=>keep b o (nP b n) e,λ b o e n _ _=>⟨o.slots,keep b o (nP b n) e⟩,λ b o e n _=>?fr,λ b o e _=>?th,λ b xs e=>?tu,λ b o u e=>?fz,λ b qs e=>?tb⟩ ?ok,rfl,a1 q G h'.objs.size _ J (I.hok.fresh hge) (I.hok.fresh hsz) c4⟩
  case fr=>rw[Y b (nP b n) (c0 b o e).1 (c0 b o e).2];exact n
  case th =>
   by_cases z:b=P
   .subst z;exact⟨_,aj _ b0⟩
   .exact⟨o,keep b o z e⟩
  case tu=>rw[Y b (λ z=>by rw[z,hP]at e;cases e) (lt b _ e).1 (lt b _ e).2];exact e
  case fz=>rw[Y b (λ z=>by rw[z,hP]at e;cases e) (lt b _ e).1 (lt b _ e).2];exact e
  case tb =>
   by_cases z:b=P
   .subst z;rw[hP]at e;cases e;exact⟨#[cL pos.line,cL pos.col,.ref G],by rw[zr (cg c3),zr (cg d0),zu]⟩
   .exact⟨#[],by rw[Y b z (lt b _ e).1 (lt b _ e).2,e];simp⟩
  case ok =>
   intro b o e;by_cases zf:b=h'.objs.size
   .subst zf;rw[zu]at e;cases e;exact aD9 (aM _ rfl)
   .rw[zr zf]at e;by_cases zc:b=G
    .subst zc;rw[zu]at e;cases e;obtain⟨c2,oc,vs,t,e1,e2,e3⟩:=a5;exact aV4 ⟨c2,oc,vs,t,e1,aj _ e2,e3⟩
    .rw[zr zc]at e;by_cases zp:b=P
     .subst zp;rw[zu]at e;cases e;exact aj _ b0
     .rw[zr zp]at e;have a6:∀ d u,H d=aT u->(∀ ps,u≠.tbl ps)->upd (upd (upd H P (.tbl (ps++#[cL pos.line,cL pos.col,.ref G]))) G (ji G (X.env.qual ++ "<lambda>"))) h'.objs.size (aF9 h'.objs.size (bU "<lambda>" (X.env.qual ++ "<lambda>") params body scope (ai8 X.env.cells scope.names []) ((X.mg "__name__").getD .none) (.ref G) J)) d=aT u:=λ d u e nt=>by
       rw[Y d (λ z=>by rw[z,hP]at e;cases e;exact nt _ rfl) (lt d _ e).1 (lt d _ e).2];exact e
      refine(I.hok b o e).stay (λ d u hd q=>keep d u ?_ q) (λ d q=>a6 d _ q λ _=>by nofun) λ d xs q=>a6 d _ q λ _=>by nofun
      rintro rfl
      rcases hd with hd|hd
      .exact zp hd.symm
      .rw[hP]at hd;cases hd
 | some cv =>
  obtain⟨G,rfl,hq⟩:=a3 cv q;refine PySem.W.kla_makeFunctionHit (mg:=X.mg) c1 I.ok.glob a0 Z hC oP ht q hb λ J h' tk hk hsz=>?_;refine⟨.ref h'.objs.size,_,I.laid (t':=tk) (λ b o e=>aj _ (hk b o e)) hsz (aD9 (aM _ rfl)),rfl,hq h'.objs.size _ J (I.hok.fresh hsz)⟩
structure Caught (cl:yB)(N:yH)(kd:Str->Option bT)(W:St)(H1 H2:Hp):Prop where
 ne:∀ b,isC cl b≠cn->H2 b=H1 b
 free:∀ b,isC cl b=cn->H1 b=bY
 cells:Cells cl H2
 cap:∀(i:Nat) (x:Str) (v:V) (c:Addr),N[i]?=aT x->W[i]?=aT (aT v)->(kd x=aT .cell\/kd x=aT .free)->cl.lookup x=aT c->∃ o u,H2 c=aT (.frz o (.own c))/\o.data=.cell (aT u)/\RelV v u
 inj:∀ x y c,cl.lookup x=aT c->cl.lookup y=aT c->x=y
def bX6 (cl:yB)(N:yH)(kd:Str->Option bT)(sp:Sp)(t:TA):TE:=λ W H Q=>t W H λ vs H1=>∀ H2,Caught cl N kd W H1 H2->sp vs H2 (λ v H3=>Q v (ah0 cl H3)) E0
def bW3 {W:St}{us:yG}(F:FnOk X.prog X.w X.K X.mg X.base CX0 k f fd ps sp)(hr:Room k X.A)(hb:Binds X.K fd ps [])
  (a6:∀ x,X.fn x=cn) (I:Inv X Y W H s) (r:Vals vs us) (h:∀ H2,Caught X.env.cells X.N X.env.kindOf W H H2->sp vs H2 (λ v Z=>Q v (ah0 X.env.cells Z)) E0):wpAny (model X.prog X.w) X.A (call (.ref f) us) (EP X Y W Q) X.xe s:=by
 let H2:Hp:=λ b=>if isC X.env.cells b=cn then(s.heap.get? b).map λ o=>.frz o (.own b)else H b
 have G:∀ b,isC X.env.cells b≠cn->H2 b=H b:=λ b z=>gn z;have J:∀ b,isC X.env.cells b=cn->∃ o v,s.heap.get? b=aT o/\o.data=.cell v/\H2 b=aT (.frz o (.own b)):=λ b z=>by
  obtain⟨x,e⟩:=ak0.mp z;obtain⟨v,o,g,d⟩:=I.cell x b e;exact⟨o,v,g,d,by show(if _ then _ else _)=_;rw[gc z,g];rfl⟩
 have fr:∀ b,isC X.env.cells b=cn->H b=none:=λ b z=>by
  obtain⟨x,e⟩:=ak0.mp z;exact I.freeC x b e
 have up:∀ b,isC X.env.cells b=cn->X.s₀.heap.objs.size<=b:=λ b z=>by
  obtain⟨x,e⟩:=ak0.mp z;exact I.ok.cab x b (a6 x) e
 have a3:∀ b o,X.s₀.heap.get? b=aT o->isC X.env.cells b≠true:=λ b o e z=>iF (av (aI e) (up b z)) (bj _);have a2:∀ b∈frs X.stack,isC X.env.cells b≠true:=λ b hb z=>by
  rcases aL.mp (I.stkSub b hb)with e|hb
  .obtain⟨x,e2⟩:=ak0.mp z;exact I.cne x b e2 e
  .obtain⟨_,o,ho,_⟩:=I.ok.funs.mem hb;exact a3 b o ho z
 have b0:HOk X.prog X.w H2 s.heap:=λ b o e=>by
  by_cases z:isC X.env.cells b=cn
  .obtain⟨ob,v,g,d,q⟩:=J b z;rw[q]at e;cases e;exact⟨g,ob,g⟩
  .rw[G b z]at e;have np:∀ c u,H c=aT u->H2 c=aT u:=λ c u q=>by rw[G c λ y=>by rw[fr c y]at q;cases q];exact q
   exact(I.hok b o e).stay (λ _ _ _ q=>q) (λ c q=>np c _ q) λ c xs q=>np c _ q
 have nb:∀ b o,X.base.get? b=aT o->isC X.env.cells b≠true:=λ b o e=>a3 b o (I.ok.bs b o e).1;have e0:Env0 X.prog X.w X.K X.mg X.base X.A X.stack s H2:=⟨I.ok.frames,I.ok.mod,λ b o e=>⟨(I.bs b o e).1,by rw[G b (nb b o e)];exact(I.bs b o e).2⟩,am I.ok.bsz I.sz,I.stack,λ b hb=>by rw[G b (a2 b hb)];exact I.stkFree b hb,b0,I.bare⟩
 have ca:Caught X.env.cells X.N X.env.kindOf W H H2:=⟨G,fr,λ x c e=>by
   obtain⟨o,v,g,d,q⟩:=J c (ak0.mpr ⟨x,e⟩);exact⟨o,v,q,d⟩,λ i x v c e1 e2 e3 e4=>by
   obtain⟨m,hn,hl⟩:=I.loc;have vis:Vis X.env.scope x:=e3.elim (λ z=>.inr (.inl z)) λ z=>.inr (.inr z);obtain⟨u,ru,lk⟩:=hl i x v e1 e2 vis;rcases lk with⟨z,_⟩|⟨_,c2,z1,z2⟩
   .simp_all
   .rw[e4]at z1;cases z1;refine wl λ _ kk=>?_;obtain⟨o,w',g,d,q⟩:=J c (ak0.mpr ⟨x,e4⟩);obtain⟨o2,g2,d2⟩:=z2;rw[g]at g2;cases g2;exact kk ⟨o,u,q,d2,ru⟩,I.ok.inj⟩
 have a4:=h H2 ca;have hl:=F.len _ _ _ _ a4;have a0:=hb s us I.kIn (by rw[bu,<-r.length];exact hl);rw[bu]at a0;refine lD (fy (F.run X.A X.stack s H2 ⟨us,[]⟩ us vs _ E0 hr e0 a0 r a4) λ r s' hq=>?_);cases r with
 | error e=>exact bG hq
 | ok fl =>
  cases fl with
  | next=>exact bG hq
  | brk=>exact bG hq
  | cont=>exact bG hq
  | ret u =>
   refine wl λ _ kk=>?_;obtain⟨v,Z,os,bare,un,a1,rv,q⟩:=hq;have a5:∀ b,isC X.env.cells b=cn->∃ o,s.heap.get? b=aT o/\s'.heap.get? b=aT o/\Z b=aT (.frz o (.own b)):=λ b z=>by
    obtain⟨o,v,g,d,q2⟩:=J b z;have q3:=un.frzs b o _ q2;exact⟨o,g,(a1 b _ q3).1,q3⟩
   have nz:∀ b u,H b=aT u->isC X.env.cells b≠true:=λ b u e y=>by simp_all
   refine kk ⟨v,_,I.call' (H':=ah0 X.env.cells Z) (ch:=[]) os ⟨λ b o e n hb hx=>?k,λ b o e n hb hx=>?sl,λ b o e n hx=>?fr,λ b o e hx=>un.there b o e hx,λ b xs e=>?tu,λ b o u e=>?fz,λ b ps e=>?tb⟩ (λ b o e=>?hok) bare (λ b z=>iF z (by simp)),rv,q⟩
   case k =>
    by_cases z:isC X.env.cells b=cn
    .grind
    .exact un.keep b o e (by rw[G b z];exact n) hb hx
   case sl=>exact un.slot b o e (by rw[G b (a2 b hb)];exact n) hb hx
   case fr =>
    by_cases z:isC X.env.cells b=cn
    .exact ah0.cell z
    .exact ah0.none (un.free b o e (by rw[G b z];exact n) hx)
   case tu =>
    rw[ah0.ne (nz b _ e)];exact un.tups b xs (by rw[G b (nz b _ e)];exact e)
   case fz =>
    rw[ah0.ne (nz b _ e)];exact un.frzs b o u (by rw[G b (nz b _ e)];exact e)
   case tb =>
    rw[ah0.ne (nz b _ e)];exact un.tbls b ps (by rw[G b (nz b _ e)];exact e)
   case hok =>
    obtain⟨z,e3⟩:=ah0.some e;have np:∀ c u,Z c=aT u->(∀ o w',u≠.frz o w')->ah0 X.env.cells Z c=aT u:=λ c u q d=>by
     rw[ah0.ne λ y=>by grind];exact q
    exact(a1 b o e3).stay (λ _ _ _ q=>q) (λ c q=>np c _ q λ _ _=>by nofun) λ c xs q=>np c _ q λ _ _=>by nofun
def aX1 {p pos}{es:yK}(F:FnOk X.prog X.w X.K X.mg X.base CX0 k f fd ps sp)(hr:Room k X.A)(hg:Gl X x)(hm:X.mg x=aT (.ref f))(hk:cM X.K (.ref f)=cn)(hb:Binds X.K fd ps [])
  (G:∀ x,X.fn x=cn) (ha:PA X (e::es) t) (J:autoParam ((x==("__debug__":Str))=dt) Zq1._auto_1) (he:autoParam (bh (e::es) X.env=(dt,eval e X.env)::bh es X.env) Zq4._auto_1) (Y:autoParam ((eN pos (bh es X.env)).any (·.1)=dt) Zq4._auto_1) :
  PE X (.Call (.Name x p) (e::es) [] pos) (bX6 X.env.cells X.N X.env.kindOf sp t):=by
 intro y s W H Q I h;refine cJ (aC9 I hg hm ?_ J);refine ku I.ok.mod.kin hk (thn (ha pos y s W H _ I h) λ us s1 ⟨vs,H1,Z,r,q⟩=>⟨Z.kIn,?_⟩) he Y;exact bW3 F hr hb G Z r q
def bJ2 (K:af)(H:Hp)(f:Addr):Prop:=(∃ fd,H f=aT (aF9 f fd))\/∃ oc od fd sl,K.lookup f=aT ⟨oc,od,.func fd,sl⟩
def bJ2.at {W:St}(h:bJ2 X.K H f)(I:Inv X y W H s):PySem.W.FnAt f s.heap:=by
 rcases h with⟨G,h⟩|⟨oc,od,G,sl,h⟩
 .exact⟨_,_,_,_,aE1 I.hok h⟩
 .exact⟨_,_,_,_,I.kIn _ _ h⟩
def cf7 (P:aK)(w:World)(K:af)(mg:yC)(base:Heap)(k:Nat)(i:Nat)(t:TA):TE:=λ W H Q=>∃ f,W[i]?=aT (aT (.ref f))/\bJ2 K H f/\t W H λ vs H1=>bJ2 K H1 f/\∃ R sp,ClOk P w K mg base k R f sp/\R H1/\sp vs H1 Q E0
def cm7 {W:St}{us:yG}(F:ClOk X.prog X.w X.K X.mg X.base k R f sp)(G:Room k X.A)(I:Inv X y W H s)(J:R H)(r:Vals vs us)(h:sp vs H Q E0) :
  wpAny (model X.prog X.w) X.A (call (.ref f) us) (EP X y W Q) X.xe s:=by
 refine lD (fy (F.run X.A X.stack s H us vs Q G I.env0 J r h) λ r s' hq=>?_);cases r with
 | error e=>exact bG hq
 | ok fl =>
  cases fl with
  | ret u=>exact I.after hq
  | next=>exact bG hq
  | brk=>exact bG hq
  | cont=>exact bG hq
def bC2 {X:Cx}{K}{mg:yC}{ pos}{es:yK}(hP:X.prog=P)(hw:X.w=w)(hK:X.K=K)(J:X.mg=mg)(G:X.base=base)(hr:Room k X.A)(hv:PE X (.Name x p) (bI7 i))(ha:PA X (e::es) t)
  (he:autoParam (bh (e::es) X.env=(dt,eval e X.env)::bh es X.env) Zq4._auto_1) (Y:autoParam ((eN pos (bh es X.env)).any (·.1)=dt) Zq4._auto_1) :
  PE X (.Call (.Name x p) (e::es) [] pos) (cf7 P w K mg base k i t):=by
 subst hP hw hK J G;intro y s W H Q I h;obtain⟨f,hW,hf,ht⟩:=h;refine cJ (thn (hv y s W H (λ v H'=>v=.ref f/\H'=H) I ⟨.ref f,hW,rfl,rfl⟩) λ u s0 ⟨v,H0,Z,r0,ev,eH⟩=>?_);subst ev;subst eH;cases r0;exact PySem.W.callWith_F (hf.at Z) (thn (ha pos y s0 W H0 _ Z ht) λ us s1 ⟨vs,H1,I1,r,hF,R,sp,F,hR,q⟩=>⟨hF.at I1,cm7 F hr I1 hR r q⟩) he Y
noncomputable def aL9 (K:af)(names:yH):List (Str×Addr×Addr):=names.filterMap λ x=>(a8 K x).map λ p=>(x,p)
def aA0 {K}:y∈aL9 K names↔y.1∈names/\a8 K y.1=aT y.2:=by
 unfold aL9;rw[cI];constructor
 .rintro⟨x,hx,e⟩
  obtain⟨p,h,rfl⟩:=bL.mp e;exact⟨hx,h⟩
 .rintro⟨hx,e⟩
  exact⟨y.1,hx,by rw[e];rfl⟩
def bW9 (K:af)(names:yH)(base:Heap):Prop:=∀ x∈names,∀ c P,a8 K x=aT (c,P)->bV base c P
def bO8 (K:af)(names:yH)(H:Hp):Prop:=∀ x∈names,∀ c P,a8 K x=aT (c,P)->H P=aT (.tbl #[])
noncomputable def cn6 (K:af)(names:yH)(ts:List Addr):Bool:=names.all λ x=>match a8 K x with
 | some (c,P)=>k8 K c P&&ts.contains P
 | none=>cn
def aD7 {K}(h:(a8 K x).isSome=cn):a8 K x=aT (((a8 K x).getD (0,0)).1,((a8 K x).getD (0,0)).2):=by
 obtain⟨p,e⟩:=d8.mp h;rw[e];rfl
def bZ6 (H:Hp)(P:Addr)(q:Str):Prop:=∃ ps:Array Value,H P=aT (.tbl ps)/\iU ps.toList/\∀ pos cv,dv pos ps.toList=aT cv->∃ c',cv=.ref c'/\H c'=aT (ji c' q)
def TabsH (T:List (Addr×Str))(H:Hp):Prop:=∀ y∈T,bZ6 H y.1 y.2
def bi5 (H H':Hp):Prop:=∀ b o,(∀ ps,o≠.tbl ps)->H b=aT o->H' b=aT o
def bi5.of (a:ak4 H y):bi5 H y:=λ c o _ h=>a c o h
def TabsH.keep (h:TabsH T H)(k:∀ b o,(∀ G,o≠.J G)->H b=aT o->H' b=aT o):TabsH T H':=λ y hy=>by
 obtain⟨ps,e,t,c⟩:=h y hy;refine⟨ps,k _ _ (λ _=>by nofun) e,t,λ pos Y q=>?_⟩;obtain⟨J,e1,e2⟩:=c pos Y q;exact⟨J,e1,k _ _ (λ _=>by unfold ji;nofun) e2⟩
def TabsH.same (h:TabsH T H)(s:ak4 H H'):TabsH T H':=h.keep λ b o _ e=>s b o e
theorem TabsH.new (h:TabsH T H)(n:H a=bY):TabsH T (upd H a o):=h.same ((ak4.refl H).new n)
def TabsH.put (h:TabsH T H)(n:H a=aT (.J y)):TabsH T (upd H a o):=h.keep λ b u d e=>by
 rw[zr λ z=>by grind];exact e
def TabsH.init (h:∀ p∈T.map (·.1),H p=aT (.tbl #[])):TabsH T H:=λ y hy =>
 ⟨#[],h _ (bo hy),trivial,λ pos G e=>by simp[dv]at e⟩
set_option tactic.hygienic true in
def codeAmong_add :∀(l:yG),iU l->dv pos (l++[cL a,cL b,c])=aT G->dv pos l=aT G\/G=c:=by
 intro l
 fun_induction iU l with
 | case1 =>
  intro _ e;simp only[dF,dv,cL]at e;split at e
  .exact .inr (aq e).symm
  .cases e
 | case2 x t y u z rest ih =>
  intro h e;simp only[cU,dv]at e ⊢;split at e
  .rename_i q
   left;rw[gc q];exact e
  .rename_i q;rw[gn q];exact ih h e
 | case3 l h1 h2=>simp_all
def by8 (Z:Caught cells N kd W H1 H2)
  (hf:∃ pm Y h,H1 f=aT (aF9 f (bU "<lambda>" q params body scope (ai8 cells scope.names []) pm (.ref Y) h))/\H1 Y=aT (ji Y q))
  (J:∀ x,scope.names.lookup x=aT .free->∃ c,cells.lookup x=aT c)
  (G:∀(i:Nat) (x:Str) (v:V),fr[i]?=aT x->cap[i]?=aT v->scope.names.lookup x=aT .free/\(kd x=aT .cell\/kd x=aT .free)/\∃ j:Nat,N[j]?=aT x/\W[j]?=aT (aT v)) :
  aL6 H2 f q params body scope fr cap (ai8 cells scope.names []):=by
 obtain⟨pm,Y,h,h1,h2⟩:=hf;have up:∀ b o,H1 b=aT o->H2 b=aT o:=λ b o e=>by
  rw[Z.ne b λ z=>by rw[Z.free b z]at e;cases e];exact e
 have sub:∀ x c,(ai8 cells scope.names []).lookup x=aT c->cells.lookup x=aT c:=λ x c e=>by
  rcases clOf_mem (aE e)with z|z
  all_goals simp_all
 refine⟨pm,Y,h,up _ _ h1,up _ _ h2,λ x c e=>Z.cells x c (sub x c e),λ x y c e1 e2=>Z.inj x y c (sub x c e1) (sub y c e2),λ x k=>?_,λ i x v e1 e2=>?_⟩
 .obtain⟨c,e⟩:=J x k;exact⟨c,jb e (aE k)⟩
 .obtain⟨k,kk,j,e3,e4⟩:=G i x v e1 e2;obtain⟨c,e⟩:=J x k;obtain⟨o,u,e5,e6,e7⟩:=Z.cap j x v c e3 e4 kk e;exact⟨c,o,u,jb e (aE k),e5,e6,e7⟩
def Caught.same {cells}(h:Caught cells N kd W y H2):ak4 y H2:=λ b o e=>by
 rw[h.ne b λ z=>by rw[h.free b z]at e;cases e];exact e
def Fun.okC {K}{st}(F:Fun K x qual st f Z)(a0:Z.code=.ref c)(S:FnScope N ps (defScope st))(len:∀ vs H Q E,sp vs H Q E->vs.length=ps.length)
  (G:∀(A:aW) (y:List Env) (s:ah) (H:Hp) (vs:List V) (Q:VK) (E:XK),Room k (A.deeper (fM qual (defScope st) s.heap.objs.size f (.ref c)))->sp vs H Q E ->
   ∃ t,PSs (bw1 CX0 P w K mg base N qual (defScope st) f (.ref c) A y s H E).nox (qv st) t/\t { nx:=λ _ H'=>Q .N H',rt:=Q } (ao0 N vs) H):FnOk P w K mg base CX0 (k+1) f Z ps sp:=by
 obtain⟨oc,od,kV,a1,pm,an,J,ct,a2,rfl,lk,hc⟩:=F.ex;have e:=a0;subst e;refine cm1 lk hc S len λ A y s H vs Q E hr Y=>?_;obtain⟨t,h,q⟩:=G A y s H vs Q E hr Y;exact⟨t,h.nox,q⟩
def rowO (r:List (Option Int)):D:=.tp (r.map cA9)
def bj6 {K}(hc:X.calm=cn)(hK:X.K=K):ai0 X (.builtin "min") (λ xs H Q=>∃ a ns,xs=[.ref a]/\SqL K H a (ns.map V.int)/\ns≠[]/\∀ m∈ns,(∀ y∈ns,m<=y)->Q (.int m) H):=by
 subst hK;intro a1 s W H xs us Q I r h;refine wl λ _ kk=>?_;obtain⟨a,ns,rfl,hS,hne,q⟩:=h;obtain⟨u,rfl,ru⟩:=j9 r;cases ru;obtain⟨its,rv,Z,hz⟩:=I.list hS;have hl:=rv.length;rw[ar]at hl;have a0:=i6.mpr hne;refine kk ?_;refine call_min_walk (dQ Z.isList ?_);have G:a<s.heap.objs.size:=by obtain⟨o,_,e,_⟩:=Z;exact aI e
 have Ww:=lH (prog:=X.prog) (w:=X.w) (A:=X.A.in1) (I.ok.hd hc) s.heap.objs.size a (aD G) its.toArray
 let val:=λ i=>ns.getD i 0
 have J:∀ i v,its.toArray[i]?=aT v->∃ t,v=Value.int (val i) t:=λ i v e=>by
  obtain⟨z,t,e1,e2⟩:=aC6 rv (by rw[c6]at e;exact e);refine⟨t,?_⟩;rw[e2];show Value.int z t=Value.int (ns.getD i 0) t;rw[ay,e1];rfl
 refine⟨_,_,_,_,_,_,_,rfl,Ww,⟨⟨_,aM _ rfl,rfl,rfl⟩,?_⟩,λ b hb=>?_,by simp_all,lW val J,λ v h' tk hP k=>?_⟩
 .obtain⟨o,e,r⟩:=Z.isList;exact⟨o,aj _ e,r⟩
 .skip
  rw[cf];rcases aL.mp hb with z|z
  .rw[z];exact cW _
  .have Y:=by simpa using z
   rw[Y];exact ga G
 .obtain⟨z,t,e1,e2⟩:=aC6 rv (by rw[c6]at hP;exact hP);subst e2;have hv:val (d4 (λ i j=>decide (val i<val j)) (its.toArray.size - 1))=z:=by
   show ns.getD _ 0=z;rw[ay,e1];rfl
  refine⟨.int z,H,I.kept λ b o q=>k b o ?_ (aj _ q),⟨t,rfl⟩,q z (aC e1) λ y hy=>?_⟩
  .intro z;have Y:=by simpa using z
   exact iF (aI q) (by rw[Y];exact bj _)
  .obtain⟨j,hj,e3⟩:=dh.mp hy;have:=xb val (its.toArray.size - 1) j (by simp only[aA];lia);rw[hv]at this;have e4:val j=y:=by
    show ns.getD j 0=y;rw[ay,ac hj];exact e3
   lia
noncomputable def mx (a b:Int):Int:=if b > a then b else a
def bB8 :mx a b<=x↔a<=x/\b<=x:=by unfold mx;lia
noncomputable def sgn (s:Nat->Nat->Int):Nat->Nat->Option Int:=λ i j=>aT (s i j)
def bb7 (n:Nat)(s t:Nat->Nat->Int)(i j:Nat):Int:=(minO ((ae n).map λ k=>mx (s i k) (t k j))).getD 3
def bj3 (h:minO l=aT m):m<=x↔∃ y∈l,y<=x:=by
 obtain⟨G,J⟩:=aI0 h;exact⟨λ z=>⟨m,G,z⟩,λ⟨y,hy,z⟩=>bp (J y hy) z⟩
def aJ4 (h:l≠[]):∃ m,minO l=aT m:=by
 cases e:minO l with
 | none=>exact iF (aq0.mp e) h
 | some m=>exact⟨m,rfl⟩
def aC7 (hn:1<=n):bb7 n s t i j<=x↔∃ k,k<n/\s i k<=x/\t k j<=x:=by
 obtain⟨m,h⟩:=aJ4 (l:=(ae n).map λ k=>mx (s i k) (t k j)) (by
  intro z
  simp_all)
 unfold bb7;rw[h];show m<=x↔_;rw[bj3 h];constructor
 .rintro⟨y,hy,hx⟩
  obtain⟨k,hk,rfl⟩:=au.mp hy;exact⟨k,aX.mp hk,bB8.mp hx⟩
 .rintro⟨k,hk,hx⟩
  exact⟨_,au.mpr ⟨k,aX.mpr hk,rfl⟩,bB8.mpr hx⟩
def ai9 { b:Int}(h:∀ x,a<=x↔b<=x):a=b:=by
 have y:=(h b).mpr (cx _);have G:=(h a).mp (cx _);lia
def aT5 (hn:1<=n)(h:∀ i j,i<n->j<n->0<=s i j/\s i j<=3)(h':∀ i j,i<n->j<n->0<=t i j/\t i j<=3)(y:i<n)(hj:j<n):0<=bb7 n s t i j/\bb7 n s t i j<=3:=by
 constructor
 .obtain⟨k,hk,G,J⟩:=(aC7 hn (s:=s) (t:=t) (i:=i) (j:=j)).mp (cx _);have:=h i k y hk;lia
 .exact(aC7 hn).mpr ⟨0,by lia,(h i 0 y (by omega)).2,(h' 0 j (by omega) hj).2⟩
section
variable {X:Cx}
end
def mx3 (a b c:Int):Int:=mx (mx a b) c
def bE3 :mx3 a b c<=x↔a<=x/\b<=x/\c<=x:=by unfold mx3;rw[bB8,bB8,and_assoc]
def bn9 (hc:X.calm=cn):ai0 X (.builtin "max") (λ y H Q=>∃ i j k,y=[.int i,.int j,.int k]/\Q (.int (mx3 i j k)) H):=by
 intro G s W H y us Q I r h;obtain⟨i,j,k,rfl,q⟩:=h;cases r with
 | cons r1 r =>
  cases r with
  | cons r2 r =>
   cases r with
   | cons r3 r =>
    cases r;obtain⟨t1,rfl⟩:=r1;obtain⟨Y,rfl⟩:=r2;obtain⟨Z,rfl⟩:=r3;refine max_three_ints (I.ok.hd hc) λ h' tk J=>⟨_,H,I.kept J,?_,q⟩
    unfold mx3 mx;by_cases h1:j > i
    .rw[gc h1,gc h1];by_cases h2:k > j
     .rw[gc h2,gc h2];exact⟨_,rfl⟩
     .rw[gn h2,gn h2];exact⟨_,rfl⟩
    .rw[gn h1,gn h1];by_cases h2:k > i
     .rw[gc h2,gc h2];exact⟨_,rfl⟩
     .rw[gn h2,gn h2];exact⟨_,rfl⟩
def InT (n:Nat)(s:Nat->Nat->Int):Prop:=∀ i j,i<n->j<n->0<=s i j/\s i j<=3
def pw (n:Nat)(s:Nat->Nat->Int):Nat->Nat->Nat->Int
 | 0=>s
 | m+1=>bb7 n (pw n s m) s
theorem pw_in (hn:1<=n)(h:InT n s):∀ m,InT n (pw n s m)
 | 0=>h
 | m+1=>λ i j y hj=>aT5 hn (pw_in hn h m) h y hj
noncomputable def rnd (x:Int):Int:=if x=0\/x=3 then x else 2
def sharp (n:Nat)(s:Nat->Nat->Int)(i j:Nat):Int:=(minO ((ae n).map λ k=>mx3 (s i k) (rnd (s k k)) (s k j))).getD 3
def ak5 (hn:1<=n):sharp n s i j<=x↔∃ k,k<n/\s i k<=x/\rnd (s k k)<=x/\s k j<=x:=by
 obtain⟨m,h⟩:=aJ4 (l:=(ae n).map λ k=>mx3 (s i k) (rnd (s k k)) (s k j)) (by
  intro z
  simp_all)
 unfold sharp;rw[h];show m<=x↔_;rw[bj3 h];constructor
 .rintro⟨y,hy,hx⟩
  obtain⟨k,hk,rfl⟩:=au.mp hy;exact⟨k,aX.mp hk,bE3.mp hx⟩
 .rintro⟨k,hk,hx⟩
  exact⟨_,au.mpr ⟨k,aX.mpr hk,rfl⟩,bE3.mpr hx⟩
def bG1 (h:0<=y)(h3:y<=3):0<=rnd y/\rnd y<=3:=by unfold rnd;lia
def bz8 (hn:1<=n)(h:InT n s):InT n (sharp n s):=λ i j y hj=>by
 constructor
 .obtain⟨k,hk,G,_⟩:=(ak5 hn (s:=s) (i:=i) (j:=j)).mp (cx _);have:=h i k y hk;lia
 .exact(ak5 hn).mpr ⟨0,by omega,(h i 0 y (by omega)).2,(bG1 (h 0 0 (by omega) (by omega)).1 (h 0 0 (by omega) (by omega)).2).2,(h 0 j (by omega) hj).2⟩
section
variable {n:Nat} {s:Nat->Nat->Int}
end
def cz9 (cells:yB)(P:Addr)(name q:Str)(params:a9)(body:yL)(scope:Scope)(pos:Pos)(i:Nat):TS:=λ D W H =>
 ∃ ps:Array Value,H P=aT (.tbl ps)/\iU ps.toList /\
  (dv pos ps.toList=bY->∀ c' f doc pm ctv,H c'=bY->H f=bY->c'≠f ->
   D.nx (W.set i (aT (.ref f))) (upd (upd (upd H P (.tbl (ps++#[cL pos.line,cL pos.col,.ref c']))) c' (ji c' q)) f (aF9 f (cT name q params body scope (ai8 cells scope.names []) .none .none doc pm bY (.ref c') ctv)))) /\
  (∀ cv,dv pos ps.toList=aT cv->∃ c',cv=.ref c'/\∀ f doc pm ctv,H f=bY->D.nx (W.set i (aT (.ref f))) (upd H f (aF9 f (cT name q params body scope (ai8 cells scope.names []) .none .none doc pm bY (.ref c') ctv))))
set_option tactic.hygienic true in
def cj4 {X}{params}{body:yL}{pos}(hN:X.N.Nodup)(hi:X.N[i]?=aT name)(hx:Loc X.env.scope name)(a0:X.env.code=.ref c)(Cc:bV X.base c P)(hB:BM X.mg X.base)
  (c4:lamCheck scope X.env.scope=cn) (hq:autoParam (lJ X.env name name=q) Zq4._auto_1) (e4:autoParam (params.defaults=[]) Zq4._auto_1) (hk0:autoParam (params.kw_defaults=[]) Zq4._auto_1) (ha:autoParam (annTrees params bY X.env=[]) Zq4._auto_1) (hf:autoParam (X.fn name=cn\/X.env.scope.names.lookup name=aT .local) Zq7._auto_1) :
  PS X (.FunctionDef name params body [] bY [] scope bY name pos) (cz9 X.env.cells P name q params body scope pos i):=by
 intro a1 s W H D I h;have e0:∀ y∈scope.names,y.2=.free->X.env.kindOf y.1=aT .cell\/X.env.kindOf y.1=aT .free:=λ y hy e=>by
  have z:=aU.mp c4 y hy;have z':X.env.scope.names.lookup y.1=aT .cell\/X.env.scope.names.lookup y.1=aT .free:=by simpa [e]using z
  exact z'
 obtain⟨ps,hP,ht,a3,a4⟩:=h;refine PySem.W.nestDef_K e4 hk0 ha ?_;rw[hq];have fin:∀ {H2:Hp} {f:Addr} {s2:ah},Inv X a1 W H2 s2->D.nx (W.set i (aT (.ref f))) H2->wpAny (model X.prog X.w) X.A (fF X.env name (.ref f)) (λ _ s3=>SP X a1 D .next s3) X.xe s2:=λ {H2 f s2} I2 q2=>as6 (v:=.ref f) I2 hN hi hx rfl (λ s3 I3=>⟨_,H2,I3,q2⟩) hf;have c3:=qY (scope:=scope) (env:=X.env) λ y hy e=>I.ok.has y.1 (e0 y hy e);have oP:s.heap.get? P=aT (eT ps):=I.hok P _ hP;have a2:s.heap.Ns aV X.mg:=I.mod.glob.keeps I.bk;have hC:bV s.heap c P:=Cc.keeps I.bk;have d2:aV≠P:=λ q=>by
  obtain⟨o,es,ep,e,d,_⟩:=a2;rw[q,oP]at e;cases e;cases d
 have hb:s.heap.BuiltinsAt X.mg P:=by
  obtain⟨bm,ob,b1,b2,b3,b4,b5,b6⟩:=hB;refine⟨bm,ob,b1,b2,λ q=>?_,λ q=>?_,I.bk _ _ b3,b4,b5,b6⟩
  .obtain⟨o,es,ep,e,d,_⟩:=I.mod.glob;rw[q,e]at b3;cases b3;rw[d]at b6;cases b6
  .have e:=I.bk _ _ b3;rw[q,oP]at e;cases e;cases b4
 cases qq:dv pos ps.toList with
 | none =>
  refine PySem.W.makeFunction_K (mg:=X.mg) c3 I.ok.glob a2 a0 hC oP ht qq d2 hb λ G J Y h' tk hx hge hlt a5 c0=>?_;have c1:P<s.heap.objs.size:=aI oP;have d3:G≠P:=cS (av c1 hge);have d1:h'.objs.size≠P:=cS (di (av c1 hge) hlt);have e5:G≠h'.objs.size:=aD hlt;have hsz:s.heap.objs.size<=h'.objs.size:=am hge (dZ hlt);have nP:∀ b,H b=bY->b≠P:=λ b n z=>by rw[z,hP]at n;cases n
  have lt:∀ b o,H b=aT o->b≠G/\b≠h'.objs.size:=λ b o e=>⟨aD (av (I.hok.lt e) hge),aD (av (I.hok.lt e) hsz)⟩
  have b0:∀ b o,s.heap.get? b=aT o->b≠G/\b≠h'.objs.size:=λ b o e=>⟨aD (av (aI e) hge),aD (av (aI e) hsz)⟩
  have keep:∀ b o,b≠P->s.heap.get? b=aT o->(h'.push (PySem.W.fnMade name q params body scope (ai8 X.env.cells scope.names []) Y ((X.mg "__name__").getD .none) G J)).get? b=aT o:=λ b o n e=>aj _ (hx b o n e);have Z:∀ b,b≠P->b≠G->b≠h'.objs.size->∀ o1 o2 o3,upd (upd (upd H P o1) G o2) h'.objs.size o3 b=H b:=λ b n1 n2 n3 o1 o2 o3=>by rw[zr n3,zr n2,zr n1]
  refine fin (H2:=upd (upd (upd H P (.tbl (ps++#[cL pos.line,cL pos.col,.ref G]))) G (ji G q)) h'.objs.size (aF9 h'.objs.size (cT name q params body scope (ai8 X.env.cells scope.names []) .none .none Y ((X.mg "__name__").getD .none) bY (.ref G) J))) (I.un (t':=tk) ⟨λ b o e n _ _=>keep b o (nP b n) e,λ b o e n _ _=>⟨o.slots,keep b o (nP b n) e⟩,λ b o e n _=>?fr,λ b o e _=>?th,λ b xs e=>?tu,λ b o u e=>?fz,λ b qs e=>?tb⟩ ?ok) (a3 qq G h'.objs.size Y _ J (I.hok.fresh hge) (I.hok.fresh hsz) e5)
  case fr=>rw[Z b (nP b n) (b0 b o e).1 (b0 b o e).2];exact n
  case th =>
   by_cases z:b=P
   .subst z;exact⟨_,aj _ c0⟩
   .exact⟨o,keep b o z e⟩
  case tu=>rw[Z b (λ z=>by rw[z,hP]at e;cases e) (lt b _ e).1 (lt b _ e).2];exact e
  case fz=>rw[Z b (λ z=>by rw[z,hP]at e;cases e) (lt b _ e).1 (lt b _ e).2];exact e
  case tb =>
   by_cases z:b=P
   .subst z;rw[hP]at e;cases e;exact⟨#[cL pos.line,cL pos.col,.ref G],by rw[zr (cg d1),zr (cg d3),zu]⟩
   .exact⟨#[],by rw[Z b z (lt b _ e).1 (lt b _ e).2,e];simp⟩
  case ok =>
   intro b o e;by_cases zf:b=h'.objs.size
   .subst zf;rw[zu]at e;cases e;exact aD9 (aM _ rfl)
   .rw[zr zf]at e;by_cases zc:b=G
    .subst zc;rw[zu]at e;cases e;obtain⟨c2,oc,vs,t,e1,e2,e3⟩:=a5;exact aV4 ⟨c2,oc,vs,t,e1,aj _ e2,e3⟩
    .rw[zr zc]at e;by_cases zp:b=P
     .subst zp;rw[zu]at e;cases e;exact aj _ c0
     .rw[zr zp]at e;have a6:∀ d u,H d=aT u->(∀ ps,u≠.tbl ps)->upd (upd (upd H P (.tbl (ps++#[cL pos.line,cL pos.col,.ref G]))) G (ji G q)) h'.objs.size (aF9 h'.objs.size (cT name q params body scope (ai8 X.env.cells scope.names []) .none .none Y ((X.mg "__name__").getD .none) bY (.ref G) J)) d=aT u:=λ d u e nt=>by
       rw[Z d (λ z=>by rw[z,hP]at e;cases e;exact nt _ rfl) (lt d _ e).1 (lt d _ e).2];exact e
      refine(I.hok b o e).stay (λ d u hd q=>keep d u ?_ q) (λ d q=>a6 d _ q λ _=>by nofun) λ d xs q=>a6 d _ q λ _=>by nofun
      rintro rfl
      rcases hd with hd|hd
      .exact zp hd.symm
      .rw[hP]at hd;cases hd
 | some cv =>
  obtain⟨G,rfl,d0⟩:=a4 cv qq;refine PySem.W.makeFunction_hit (mg:=X.mg) c3 I.ok.glob a2 a0 hC oP ht qq hb λ J Y h' tk hk hsz=>?_;exact fin (I.laid (t':=tk) (λ b o e=>aj _ (hk b o e)) hsz (aD9 (aM _ rfl))) (d0 h'.objs.size Y _ J (I.hok.fresh hsz))
def aw2 (H:Hp)(f:Addr)(name qual:Str)(params:a9)(body:yL)(scope:Scope)(fr:yH)(cap:List V)(clos:yB):Prop :=
 ∃ doc pm c' ctv,H f=aT (aF9 f (cT name qual params body scope clos .none .none doc pm bY (.ref c') ctv))/\H c'=aT (ji c' qual)/\Cells clos H /\
  (∀ x y c,clos.lookup x=aT c->clos.lookup y=aT c->x=y)/\(∀ x,scope.names.lookup x=aT .free->∃ c,clos.lookup x=aT c)/\Cap clos H fr cap
def bx0 {body:yL}{cap:List V}(ca:Caught cells N kd W H1 H2)
  (hf:∃ h pm Z G,H1 f=aT (aF9 f (cT name q params body scope (ai8 cells scope.names []) .none .none h pm bY (.ref Z) G))/\H1 Z=aT (ji Z q))
  (Y:∀ x,scope.names.lookup x=aT .free->∃ c,cells.lookup x=aT c)
  (J:∀(i:Nat) (x:Str) (v:V),fr[i]?=aT x->cap[i]?=aT v->scope.names.lookup x=aT .free/\(kd x=aT .cell\/kd x=aT .free)/\∃ j:Nat,N[j]?=aT x/\W[j]?=aT (aT v)) :
  aw2 H2 f name q params body scope fr cap (ai8 cells scope.names []):=by
 obtain⟨h,pm,Z,G,h1,h2⟩:=hf;have up:∀ b o,H1 b=aT o->H2 b=aT o:=λ b o e=>by
  rw[ca.ne b λ z=>by rw[ca.free b z]at e;cases e];exact e
 have sub:∀ x c,(ai8 cells scope.names []).lookup x=aT c->cells.lookup x=aT c:=λ x c e=>by
  rcases clOf_mem (aE e)with z|z
  all_goals simp_all
 refine⟨h,pm,Z,G,up _ _ h1,up _ _ h2,λ x c e=>ca.cells x c (sub x c e),λ x y c e1 e2=>ca.inj x y c (sub x c e1) (sub y c e2),λ x k=>?_,λ i x v e1 e2=>?_⟩
 .obtain⟨c,e⟩:=Y x k;exact⟨c,jb e (aE k)⟩
 .obtain⟨k,kk,j,e3,e4⟩:=J i x v e1 e2;obtain⟨c,e⟩:=Y x k;obtain⟨o,u,e5,e6,e7⟩:=ca.cap j x v c e3 e4 kk e;exact⟨c,o,u,jb e (aE k),e5,e6,e7⟩
def aw2.fn {K}(h:aw2 H f name qual params body scope fr cap y):bJ2 K H f:=by
 obtain⟨G,pm,Z,Y,J,_⟩:=h;exact .inl ⟨_,J⟩
end L2
end
noncomputable section
namespace L2
open PySem PySem.Spec PyProof.Rows Builtin
section
variable {P:aK} {w:World} {A:aW} {E:Value->ah->Prop} {s:ah}
def aN6 {l:yJ}(y:s.heap.IsTupleIter it t i)(G:s.heap.IsTuple t l)(hv:l[i]?=aT v)
  (k:∀ h',h'.IsTupleIter it t (i+1)->ci it s.heap h'->Q v { s with heap:=h' }):wpAny (model P w) A (b8 (.ref it)) Q E s:=by
 obtain⟨o,e1,e2,h⟩:=id y;obtain⟨p,p1,_,n,J⟩:=G;unfold b8;refine al (cw y.typeIs cZ (cG cZ y.typeIs fB ?_ (fv _)));show wpAny _ _ (field (.ref it) 0 >>= _) _ _ _;refine al (cD e1 h rfl ?_)
 skip
 rw[gn (λ z=>nomatch z)]
 skip
 refine al (cD e1 h rfl ?_)
 skip
 refine al (eQ p1 J ?_);simp only[cO,hv];refine al (wpAny_setField e1 h (by simp) (aF ⟨v,rfl,aF (k _ ⟨_,dN _ e1 (Obj.isFreed_of_fields (kC h _)),(Obj.cls_mapFields ..).trans e2,by rw[kC h];simp[cL]⟩ (i7 ..))⟩))
def bc1 {l:yJ}(G:A.handled=bY)(y:s.heap.IsTupleIter it t i)(J:s.heap.IsTuple t l)(hv:l[i]?=bY)
  (k:∀ h' e,lc it s.heap h'->(∃ o,h'.get? e=aT o/\o.cls=.type "StopIteration")->E (.ref e) { s with heap:=h' }):wpAny (model P w) A (b8 (.ref it)) Q E s:=by
 obtain⟨o,e1,e2,h⟩:=id y;obtain⟨p,p1,_,n,Y⟩:=J;unfold b8;refine al (cw y.typeIs cZ (cG cZ y.typeIs fB ?_ (fv _)));show wpAny _ _ (field (.ref it) 0 >>= _) _ _ _;refine al (cD e1 h rfl ?_)
 skip
 rw[gn (λ z=>nomatch z)]
 skip
 refine al (cD e1 h rfl ?_)
 skip
 refine al (eQ p1 Y ?_);simp only[cO,hv];refine al (g6 (al (wpAny_setField e1 h (by simp) ?_)))
 skip
 refine al ?_;simp only[newExc];refine al (bJ ?_ (by size_fits));refine al (wpAny_of_eq (by first|rfl|(simp only[];rfl)) (bJ ?_ (by size_fits)));simp only[];refine al (wpAny_handled ?_)
 first|rw[G]|rw[G]
 exact al (aF (wpAny_throw (k _ _ (((i7 ..).extBut.push _).push _) ⟨_,aM _ rfl,rfl⟩)))
end
structure Dw (P:aK)(w:World)(K:af)(J:It)(it:Addr)(tn:Nat->Heap->Prop):Prop where
 obj:∀ i h,tn i h->∃ o,h.get? it=aT o/\∀ v,o.data≠.cell v
 keep:∀ i h h',tn i h->(∀ o,h.get? it=aT o->h'.get? it=aT o)->tn i h'
 item:∀(X:Cx),X.prog=P->X.w=w->X.K=K->∀(A:aW) (i:Nat) (pins:yA) (s:ah) (W:St) (H:Hp) (Q:Value->ah->Prop) (E:Value->ah->Prop),Inv X pins W H s->tn i s.heap->J.go i H ->
  (∀ x u h' tk,RelV x u->J.yld i H x H->tn (i+1) h'->ci it s.heap h'->Q u { s with heap:=h',toks:=tk })->wpAny (model P w) A (b8 (.ref it)) Q E s
 done:∀(X:Cx),X.prog=P->X.w=w->X.K=K->∀(A:aW) (i:Nat) (pins:yA) (s:ah) (W:St) (H:Hp) (Q:Value->ah->Prop) (E:Value->ah->Prop),A.handled=bY->Inv X pins W H s->tn i s.heap->J.stop i H ->
  (∀ h' e,lc it s.heap h'->(∃ o,h'.get? e=aT o/\o.cls=.type "StopIteration")->E (.ref e) { s with heap:=h' })->wpAny (model P w) A (b8 (.ref it)) Q E s
def bM5 {K} a it :Dw P w K (Itl K a) it (λ i h=>h.IsListIter it a i) where
 obj:=λ i h st=>by
  obtain⟨o,e,c,d⟩:=st
  simp_all
 keep:=λ i h h' st k=>st.at k
 item:=by
  intro X J hw Z A i y s W H Q E I st Y k;subst J hw Z;obtain⟨xs,x,hq,hx⟩:=Y;obtain⟨its,G,p,hz⟩:=I.list hq;obtain⟨u,hu,ru⟩:=G.get hx;exact wpAny_nextOf_list_item st p.isList (by simp_all) λ h' a0 sb=>k x u h' s.toks ru ⟨rfl,λ ys hy=>by rw[I.list_inj hy hq];lia⟩ a0 sb
 done:=by
  intro X J hw Z A i y s W H Q E hA I st Y k;subst J hw Z;obtain⟨xs,hq,hx⟩:=Y;obtain⟨its,G,p,hz⟩:=I.list hq;have hl:=G.length;exact wpAny_nextOf_list_end hA st p.isList (by simp_all) k
def cc7 {K} a it :Dw P w K (Itt K a) it (λ i h=>h.IsTupleIter it a i) where
 obj:=λ i h st=>by
  obtain⟨o,e,c,d⟩:=st
  simp_all
 keep:=λ i h h' st k=>st.at k
 item:=by
  intro X J hw Z A i y s W H Q E I st Y k;subst J hw Z;obtain⟨xs,x,hq,hx⟩:=Y;obtain⟨its,G,p,hz⟩:=I.tuple hq;obtain⟨u,hu,ru⟩:=G.get hx;exact aN6 st (p) (by simp_all) λ h' a0 sb=>k x u h' s.toks ru ⟨rfl,λ ys hy=>by rw[I.tuple_inj hy hq];lia⟩ a0 sb
 done:=by
  intro X J hw Z A i y s W H Q E hA I st Y k;subst J hw Z;obtain⟨xs,hq,hx⟩:=Y;obtain⟨its,G,p,hz⟩:=I.tuple hq;have hl:=G.length;exact bc1 hA st (p) (by simp_all) k
def cf9 {K} x  t  it :Dw P w K (Its x) it (λ i h=>h.IsStrIter it (iH x) x t i) where
 obj:=λ i h st=>by
  obtain⟨o,e,c,d⟩:=st
  simp_all
 keep:=λ i h h' st k=>by
  obtain⟨o,ho,r⟩:=st;exact⟨o,k _ ho,r⟩
 item:=by
  intro X Z hw hK A i J s W H Q E I st hg k;subst Z hw hK;have y:i<x.cps.size:=hg;have hc:x.cps[i]?=aT x.cps[i]:=by simp[]
  unfold iH at st k;cases ha:x.cps.all (·<128)
  .rw[ha]at st k;exact wpAny_nextOf_wide_item st hc λ h' G Y=>k (.str ⟨#[x.cps[i]]⟩) _ h' (s.toks+1) ⟨_,rfl⟩ ⟨rfl,_,hc,rfl⟩ G Y
  .rw[ha]at st k;exact wpAny_nextOf_ascii_item st hc λ h' G Y=>k (.str ⟨#[x.cps[i]]⟩) _ h' (s.toks+1) ⟨_,rfl⟩ ⟨rfl,_,hc,rfl⟩ G Y
 done:=by
  intro X Z hw hK A i J s W H Q E hA I st hg k;subst Z hw hK;have y:x.cps.size<=i:=hg;have hc:x.cps[i]?=none:=by simp[y]
  unfold iH at st;cases ha:x.cps.all (·<128)
  .rw[ha]at st;exact wpAny_nextOf_wide_end hA st hc k
  .rw[ha]at st;exact wpAny_nextOf_ascii_end hA st hc k
def Inv.turnedL {W:St}{G:List Addr}(I:Inv X h W H s)(f:∀ b∈G,FpOk X h H b)(k:∀ b o,b ∉ G->s.heap.get? b=aT o->h'.get? b=aT o):Inv X h W H { s with heap:=h',toks:=t' }:=by
 have y:∀ b u,H b=aT u->b ∉ G:=λ b u e z=>by rw[(f b z).1]at e;cases e
 refine I.step (λ b hb=>?_) (λ b o _ _ hc e _=>k b o hc e) (λ b o _ _ hc e _=>⟨o.slots,k b o hc e⟩) (λ _ _ _ _ n=>n)
  (λ b o hc e=>⟨o,k b o hc e⟩) (λ _ _ e=>e) (λ _ _ _ e=>e) (λ b ps e=>⟨#[],by simp_all⟩) (λ m hm=>?_) (λ b u e=>?_) I.bare
 .obtain⟨f0,Z,f2,Y,f4,f5⟩:=f b hb;exact⟨Y,Z,f4,f5⟩
 .obtain⟨o,es,J,ho,r⟩:=hm;exact⟨o,es,J,k _ o (λ z=>(f _ z).2.1 rfl) ho,r⟩
 .refine(I.hok b u e).stay (λ c v hc q=>k c v ?_ q) (λ _ q=>q) λ _ _ q=>q;rcases hc with z|z
  .rw[z];exact y b u e
  .exact y c _ z
section
variable {X:Cx} {pins:yA} {W:St} {H:Hp} {s:ah} {A:aW} {E:Value->ah->Prop} {J1 J2:It} {t1 t2:Nat->Heap->Prop} {z ti to i1 i2:Addr} {n:Nat} {a b:Value}
end
def Mkr (v:Value)(o:Obj)(h:Heap):Prop:=∀ P   w   A   E   s   Q ,(∀ b u,h.get? b=aT u->s.heap.get? b=aT u) ->
 Q (.ref s.heap.objs.size) { s with heap:=s.heap.push o }->wpAny (model P w) A (kW v) Q E s
def Sr (K:af)(H:Hp)(x:V)(J:It):Prop:=(∃ a,x=.ref a/\(∃ xs,SqL K H a xs)/\J=Itl K a)\/(∃ a,x=.ref a/\(∃ xs,SqT K H a xs)/\J=Itt K a)\/∃ y,x=.str y/\J=Its y
def Sr.mk {W:St}(I:Inv X G W H s)(h:Sr X.K H x J)(r:RelV x u) :
  ∃(o:Obj) (Y:Addr->Nat->Heap->Prop),o.isFreed=dt/\Mkr u o s.heap/\(∀ it,Dw X.prog X.w X.K J it (Y it))/\∀ it h',h'.get? it=aT o->Y it 0 h':=by
 rcases h with⟨a,e,⟨xs,hq⟩,e'⟩|⟨a,e,⟨xs,hq⟩,e'⟩|⟨y,e,e'⟩
 .subst e e';cases r;obtain⟨its,Z,p,hz⟩:=I.list hq;exact⟨_,λ it i h=>h.IsListIter it a i,rfl,λ P w A E s' Q hk q=>dQ (p.isList.at λ o e=>hk _ _ e) q,λ it=>bM5 a it,λ it h' e=>⟨_,e,rfl,rfl⟩⟩
 .subst e e';cases r;obtain⟨its,Z,p,hz⟩:=I.tuple hq;exact⟨_,λ it i h=>h.IsTupleIter it a i,rfl,λ P w A E s' Q hk q=>kr (Heap.IsTuple.at (p) λ o e=>hk _ _ e) q,λ it=>cc7 a it,λ it h' e=>⟨_,e,rfl,rfl⟩⟩
 .subst e e';obtain⟨t,rfl⟩:=r;exact⟨_,λ it i h=>h.IsStrIter it (iH y) y t i,rfl,λ P w A E s' Q hk q=>wpAny_pyIter_strU q,λ it=>cf9 y t it,λ it h' e=>⟨_,e,rfl,rfl⟩⟩
end L2
end
noncomputable section
namespace L2
open PySem PySem.Spec PyProof.Rows Builtin
open AutoSeq1 (wpAny_loadPart')
section
variable {X:Cx} {pins:yA} {W:St} {H:Hp} {s:ah} {A:aW} {E:Value->ah->Prop} {J1:It} {t1:Nat->Heap->Prop} {z it:Addr} {n:Nat} {old:Value}
def ba2 {Q:Value->ah->Prop}(D1:Dw X.prog X.w X.K J1 it t1)(ne:z≠it)(I:Inv X pins W H s)(he:iI s.heap z it n old)(h1:t1 n s.heap)(g1:J1.go n H)
  (k:∀ x u t h' tk,RelV x u->J1.yld n H x H->l6 h' z it ((n:Int)+1) u s.heap.objs.size->t1 (n+1) h'->IsPair h' s.heap.objs.size (.int n t) u ->
   (∀ c o,c≠z->c≠it->s.heap.get? c=aT o->h'.get? c=aT o)->Q (.ref s.heap.objs.size) { s with heap:=h',toks:=tk }) :
  wpAny (model X.prog X.w) A (l9.«enumerate.__next__» ⟨[.ref z],[]⟩) (λ fin s'=>∃ v,fin=.done (.ret v)/\Q v s') E s:=by
 obtain⟨hp,g,d,b2,os⟩:=s;show wpAny _ _ (field (.ref z) 2 >>= _) _ _ (_:ah);refine al (cD he rfl rfl ?_);refine al (D1.item X rfl rfl rfl _ n pins _ W H _ _ I h1 g1 λ x u p1 tk rx yx a4 s1=>?_)
 replace s1:=s1
 have Y:=(s1.2 z ne).trans he
 skip
 refine al (cD Y rfl rfl ?_)
 skip
 refine al (cD Y rfl rfl ?_)
 skip
 refine al (wpAny_mkInt ?_)
 skip
 refine al (dB Y (by simp) λ p2 h s2=>?_)
 replace s2:=s2
 replace h:=h
 skip
 refine al (dB h (by simp) λ p3 G s3=>?_)
 replace s3:=s3
 replace G:=G
 skip
 refine al (wpAny_newTuple ?_);have Z:iI (p3.push { cls:=.type "tuple",data:=.seq #[.int n tk,u] }) z it ((n:Int)+1) old:=aj _ G;generalize J:p3.push { cls:=.type "tuple",data:=.seq #[.int n tk,u] }=p4 at Z;have hsz:p3.objs.size=hp.objs.size:=by rw[s3.1,s2.1,s1.1]
 have a6:z<hp.objs.size:=aI he;have a5:p4.get? hp.objs.size=aT { cls:=.type "tuple",data:=.seq #[.int n tk,u] }:=by rw[<-J,<-hsz];exact aM _ rfl
 have b1:∀ b o,b≠z->b≠it->hp.get? b=aT o->p4.get? b=aT o:=λ b o hbe a2 hb=>by
  rw[<-J];exact aj _ (s3.extBut b o hbe (s2.extBut b o hbe (s1.extBut b o a2 hb)))
 have b0:t1 (n+1) p4:=D1.keep _ _ _ a4 λ o y=>by
  rw[<-J];exact aj _ (s3.extBut it o ne.symm (s2.extBut it o ne.symm y))
 show wpAny _ _ (ef (.ref z) >>= _) _ _ ⟨p4,g,d,tk+1,os⟩;rw[hsz];clear J G s3 h s2 Y s1 a4 hsz p3 p2 p1;refine al ?_;unfold ef;refine al (cD Z rfl (x:=.none) rfl (aF ?_));simp only[if_true];refine al (g6 (al (cD Z rfl (x:=old) rfl ?_)));refine al (dB Z (by simp) λ p5 a0 s5=>?_)
 replace s5:ci z p4 p5:=s5
 replace a0:iI p5 z it ((n:Int)+1) u:=a0
 show wpAny _ _ (d6 (.ref z) (.ref hp.objs.size) >>= _) _ _ ⟨p5,g,d,tk+1,os⟩;refine al ?_;unfold d6;refine al (dB a0 (by simp) λ p6 a1 s6=>?_)
 replace s6:ci z p5 p6:=s6
 replace a1:l6 p6 z it ((n:Int)+1) u hp.objs.size:=a1
 refine dB a1 (by simp) λ p7 a3 s7=>?_
 replace s7:ci z p6 p7:=s7
 replace a3:l6 p7 z it ((n:Int)+1) u hp.objs.size:=a3
 have up:∀ b o,b≠z->p4.get? b=aT o->p7.get? b=aT o:=λ b o hb e=>s7.extBut b o hb (s6.extBut b o hb (s5.extBut b o hb e));exact al (gf (aF ⟨_,rfl,k x u tk p7 (tk+1) rx yx a3 (D1.keep _ _ _ b0 λ o e=>up it o ne.symm e) (up _ _ (cS a6) a5) λ b o hbe a2 hb=>up b o hbe (b1 b o hbe a2 hb)⟩))
end
def Je (J1:It):It:=⟨λ i H=>J1.go i H,
 λ i H x H'=>∃ a x1,J1.yld i H x1 H/\H a=bY/\x=.ref a/\H'=upd H a (.tp [.int i,x1]),λ i H=>J1.stop i H⟩
def bg2 {K}{elts:yK}(D1:Dw P w K J1 it t1)(ne:z≠it) :
  Turn P w K (.Tuple elts ek epos) (Je J1) [z,it] z (λ i h=>(∃ J,iI h z it i J)/\t1 i h) where
 mem:=by simp
 obj:=λ i h st b hb=>by
  obtain⟨⟨J,hz⟩,Z⟩:=st;simp only[aL,cK,or_false]at hb;rcases hb with rfl|rfl
  .simp_all
  .exact D1.obj _ _ Z
 keep:=λ i h h' st k=>by
  obtain⟨⟨J,hz⟩,Z⟩:=st;exact⟨⟨J,k _ (by simp) _ hz⟩,D1.keep _ _ _ Z λ o e=>k _ (by simp) o e⟩
 item:=by
  intro X hP hw hK hc i G s W H E I hf st hg;subst hP hw hK;obtain⟨⟨J,hz⟩,Z⟩:=st;have hT:s.TypeIs (.ref z) "enumerate":=⟨_,hz,rfl⟩
  unfold iz;refine al (wpAny_attempt (cw (name:=bX "__next__") hT dP (cG dP hT g7
   (ba2 D1 ne I hz Z hg λ x u t h' tk rx yx z' a4 T' kk=>aF ?_) (gD _))))
  refine⟨_,rfl,wpAny_letOwnedTupleGo_enum (s:={ s with heap:=h',toks:=tk }) z' λ a1 a2 Y=>?_⟩
  replace Y:ci z h' a1:=Y
  have lt:∀ {c o},s.heap.get? c=aT o->s.heap.objs.size≠c:=λ e=>cS (aI e);obtain⟨o1,e1,_⟩:=D1.obj _ _ Z;have I1:Inv X G W (upd H s.heap.objs.size (.tp [.int i,x])) { s with heap:=s.heap.push { cls:=.type "tuple",data:=.seq #[.int i t,u] },toks:=tk } :=
   I.laid (λ b u e=>aj _ e) (ai _) ⟨by simp[aR],[.int i t,u],.cons ⟨t,rfl⟩ (.cons rx .nil),_,aM _ rfl,rfl,_,rfl⟩
  have a0:∀ b∈[z,it],FpOk X G (upd H s.heap.objs.size (.tp [.int i,x])) b:=λ b hb=>by
   have q:=hf b hb;refine⟨?_,q.2⟩;unfold upd;rw[gn ?_]
   .exact q.1
   grind
  have I2:Inv X G W (upd H s.heap.objs.size (.tp [.int i,x])) { s with heap:=a1,toks:=tk }:=by
   refine I1.turnedL (s:={ s with heap:=s.heap.push { cls:=.type "tuple",data:=.seq #[.int i t,u] },toks:=tk }) a0 λ b o hb e=>?_;simp only[aL,cK,or_false,not_or]at hb;refine Y.extBut _ _ hb.1 ?_;by_cases hbT:b=s.heap.objs.size
   .subst hbT;have:=aM s.heap (o:={ cls:=.type "tuple",data:=.seq #[.int i t,u] }) rfl;lia
   .exact kk b o hb.1 hb.2 (by
     have e':(s.heap.push { cls:=.type "tuple",data:=.seq #[.int i t,u] }).get? b=aT o:=e;rw[Heap.get?_push_ne _ _ _ hbT]at e';lia)
  exact⟨.ref s.heap.objs.size,_,I2,rfl,⟨_,x,yx,I.hok.fresh (ai _),rfl,rfl⟩,⟨⟨u,by grind⟩,D1.keep _ _ _ a4 λ o e=>Y.extBut _ _ ne.symm e⟩,λ b hb=>(a0 b hb).1⟩
 done:=by
  intro X hP hw hK hc i G s W H E I hf st hg;subst hP hw hK;obtain⟨⟨J,hz⟩,Z⟩:=st;have hT:s.TypeIs (.ref z) "enumerate":=⟨_,hz,rfl⟩
  unfold iz;refine al (wpAny_attempt (cw (name:=bX "__next__") hT dP (cG dP hT g7 ?_ (gD _))));show wpAny _ _ (field (.ref z) 2 >>= _) _ _ (_:ah);refine al (cD hz rfl (x:=.ref it) rfl ?_);refine al (D1.done X rfl rfl rfl _ i G s W H _ _ (I.ok.hd hc) I Z hg λ h' e he hx=>?_);obtain⟨o,ho,a3⟩:=hx;refine al (wpAny_isInstance (T := "StopIteration") (b:=cn) ⟨o,ho,a3⟩ isSubtype_stop ?_);exact aF ⟨rfl,I.turnedL (t':=s.toks) hf λ b o hb e=>by
   simp only[aL,cK,or_false,not_or]at hb;exact he b o hb.2 e⟩
 self:=λ A i s Q E st h=>by
  obtain⟨⟨J,hz⟩,_⟩:=st;exact kR hz h
set_option tactic.hygienic true in
def aO7  l  o (y:yJ)(n:Nat)(J:yI)(sl:yE) :
  Meets (l9.«enumerate.__new__» ⟨[.type "enumerate",.ref l],[]⟩) (λ _ R s=>s.heap.get? l=aT { cls:=.type "tuple",dict:=J,data:=.seq y n,slots:=sl }/\Mkr (.ref l) o s.heap /\
   R (.ok (.ret (.ref (s.heap.push o).objs.size))) { s with heap:=(s.heap.push o).push { cls:=.type "enumerate",data:=.fields #[.none,.bool dt,.ref s.heap.objs.size,cL 0,.none,.none] } }) :=
 .of_wp λ prog w A R s h=>by
  obtain⟨G,g,d,tk,os⟩:=s;obtain⟨hl,Z,h⟩:=h;have Y:=sub_enumerate;have r1:∀ {P:aK} {w:World} {A:aW} {E:Value->ah->Prop} {Q:Value->ah->Prop},Q (.ref G.objs.size) ⟨G.push o,g,d,tk,os⟩->wpAny (model P w) A (kW (.ref l)) Q E ⟨G,g,d,tk,os⟩:=λ {P w A E Q} q=>Z P w A E ⟨G,g,d,tk,os⟩ Q (λ b u e=>e) q
  wp_walk using cQ hl
  refine wpAny_stack_any λ st=>aF ?_;split
  .rename_i c _ _ _ _ _;cases(c==Value.type "enumerate")
   .wp_walk using cQ hl,r1
    exact⟨_,rfl,h⟩
   .wp_walk using cQ hl,r1
    exact⟨_,rfl,h⟩
  .wp_walk using cQ hl,r1
   exact⟨_,rfl,h⟩
set_option tactic.hygienic true in
def aP5  l  o (y:yJ)(n:Nat)(J:yI)(sl:yE) :
  Meets (l9.«enumerate.__new__» ⟨[.type "enumerate",.ref l],[]⟩) (λ _ R s=>s.heap.get? l=aT { cls:=.type "list",dict:=J,data:=.seq y n,slots:=sl }/\Mkr (.ref l) o s.heap /\
   R (.ok (.ret (.ref (s.heap.push o).objs.size))) { s with heap:=(s.heap.push o).push { cls:=.type "enumerate",data:=.fields #[.none,.bool dt,.ref s.heap.objs.size,cL 0,.none,.none] } }) :=
 .of_wp λ prog w A R s h=>by
  obtain⟨G,g,d,tk,os⟩:=s;obtain⟨hl,Z,h⟩:=h;have Y:=sub_enumerate;have r1:∀ {P:aK} {w:World} {A:aW} {E:Value->ah->Prop} {Q:Value->ah->Prop},Q (.ref G.objs.size) ⟨G.push o,g,d,tk,os⟩->wpAny (model P w) A (kW (.ref l)) Q E ⟨G,g,d,tk,os⟩:=λ {P w A E Q} q=>Z P w A E ⟨G,g,d,tk,os⟩ Q (λ b u e=>e) q
  wp_walk using cQ hl
  refine wpAny_stack_any λ st=>aF ?_;split
  .rename_i c _ _ _ _ _;cases(c==Value.type "enumerate")
   .wp_walk using cQ hl,r1
    exact⟨_,rfl,h⟩
   .wp_walk using cQ hl,r1
    exact⟨_,rfl,h⟩
  .wp_walk using cQ hl,r1
   exact⟨_,rfl,h⟩
def be2 {s:ah}(Y:o.isFreed=dt)(Z:Mkr (.ref l) o s.heap)
  (hl:(∃ h,s.heap.IsList l h)\/∃ h,s.heap.IsTuple l h)
  (k:∀ h',iI h' (s.heap.objs.size+1) s.heap.objs.size 0 .none->h'.get? s.heap.objs.size=aT o->(∀ c o,s.heap.get? c=aT o->h'.get? c=aT o)->Q (.ref (s.heap.objs.size+1)) { s with heap:=h' }) :
  wpAny (model P w) A (call (.type "enumerate") [.ref l]) Q E s:=by
 have hz:(s.heap.push o).objs.size=s.heap.objs.size+1:=cf ..;have G:=by
  have:=aM (s.heap.push o) (o:={ cls:=.type "enumerate",data:=.fields #[.none,.bool dt,.ref s.heap.objs.size,cL 0,.none,.none] }) rfl;rw[hz]at this;exact this
 rcases hl with⟨h,⟨c,y,J,sl⟩,hl,hc,n,hd⟩|⟨h,⟨c,y,J,sl⟩,hl,hc,n,hd⟩
 .replace hc:=hc
  replace hd:=hd
  subst hc hd;refine callType_new kD (by decide) (g8 _) (io _) (λ obj=>iJ obj _) ip (aP5 l o h n y sl) ⟨hl,Z,?_⟩
  skip
  rw[hz];exact⟨⟨_,G,rfl⟩,k _ G (aj _ (aM _ Y)) λ b o x=>aj _ (aj _ x)⟩
 .replace hc:=hc
  replace hd:=hd
  subst hc hd;refine callType_new kD (by decide) (g8 _) (io _) (λ obj=>iJ obj _) ip (aO7 l o h n y sl) ⟨hl,Z,?_⟩
  skip
  rw[hz];exact⟨⟨_,G,rfl⟩,k _ G (aj _ (aM _ Y)) λ b o x=>aj _ (aj _ x)⟩
def bY2 (K:af)(ta:TA):TI:=λ W H R=>ta W H λ vs H1=>∃ a J1,vs=[.ref a]/\((∃ xs,SqL K H1 a xs)/\J1=Itl K a\/(∃ xs,SqT K H1 a xs)/\J1=Itt K a)/\R (Je J1) H1
def bV3 {elts:yK}(hg:Gl X "enumerate")(hm:X.mg "enumerate"=bY)(ha:PA X [a] ta)(hs:autoParam (bh [a] X.env=[(dt,eval a X.env)]) Zq4._auto_1) :
  PI X (.Tuple elts ek epos) (.Call (.Name "enumerate" p) [a] [] pos) (bY2 X.K ta):=by
 intro Y s W H R I h;refine Call_ (aA3 I hg hm boot_enumerate (dR (thn (ha pos Y s W H _ I h) λ us s1 ⟨vs,Z,G,r1,q1⟩=>?_) hs rfl));obtain⟨l,J1,e,S1,q⟩:=q1;subst e;cases r1 with
 | cons r rr =>
  cases rr;have S:Sr X.K Z (.ref l) J1:=by
   rcases S1 with⟨a,b⟩|⟨a,b⟩
   .exact .inl ⟨l,rfl,a,b⟩
   .exact .inr (.inl ⟨l,rfl,a,b⟩)
  have L:(∃ y,s1.heap.IsList l y)\/∃ y,s1.heap.IsTuple l y:=by
   rcases S1 with⟨⟨xs,a⟩,b⟩|⟨⟨xs,a⟩,b⟩
   .obtain⟨its,rv,p,hz⟩:=G.list a;exact .inl ⟨_,p.isList⟩
   .obtain⟨its,rv,p,hz⟩:=G.tuple a;exact .inr ⟨_,p⟩
  obtain⟨o1,n1,f1,m1,d1,z1⟩:=S.mk G r;cases r;refine be2 f1 m1 L λ h' hz g1 kk=>kR hz ?_;refine⟨s1.heap.objs.size+1,[s1.heap.objs.size+1,s1.heap.objs.size],_,_,Z,rfl,G.kept kk,bg2 (d1 _) (cS (cW _)),⟨⟨_,hz⟩,z1 _ _ g1⟩,λ b hb=>?_,q⟩;have J:s1.heap.objs.size<=b:=by
   simp only[aL,cK,or_false]at hb;rcases hb with e|e<;>rw[e]<;>first|exact ai _|exact Nat.le_add_right _ _
  exact G.fpOk J (G.hok.fresh J)
end L2
end
noncomputable section
namespace L2
open PySem PySem.Spec PyProof.Rows Builtin
open AutoSeq1 (wpAny_loadPart')
def aR1:fillsNumberSlot (.type "tuple") "mul"=pure false :=
 PySem.fillsNumberSlot_seq eU.lookup (by decide +kernel) gE.lookup (by decide +kernel)
def ba3:seqRepeat? (.type "tuple")=pure (aT (.builtin "tuple.__mul__")):=by
 unfold seqRepeat?;rw[k9 (name := "__mul__") eU.lookup (by decide +kernel),k9 (name := "__rmul__") gE.lookup (by decide +kernel)];rfl
def aI7  a  t  l (o:Obj)(y:yJ) n (G:yI)(sl:yE) :
  Meets (l9.«int.__rmul__» ⟨[.int a t,.ref l],[]⟩) (λ _ R s=>s.heap.get? l=aT { cls:=.type "tuple",dict:=G,data:=.seq y n,slots:=sl }/\R (.ok (.ret Value.notImplemented)) s) :=
 .of_wp λ prog w A R s h=>by obtain⟨J,g,d,tk,os⟩:=s;obtain⟨hl,h⟩:=h;wp_walk;exact⟨_,rfl,h⟩
noncomputable def ay1 {α:Type}:Nat->List α->List α
 | 0,_=>[]
 | n+1,a=>a++ay1 n a
theorem aY0  l :∀ n  (h:Array α),(ak n l.toArray).foldl (·++·) h=h++(ay1 n l).toArray
 | 0,h=>by simp[ay1]
 | n+1,h=>by rw[bQ,cq,aY0 l n];simp[ay1]
theorem aM0 {α:Type} a :∀ n  (h:Array α),((ak n a).foldl (·++·) h).size=h.size+a.size*n
 | 0,h=>by simp
 | n+1,h=>by rw[bQ,cq,aM0 a n,Array.size_append,Nat.mul_succ];lia
def TmA (items:yJ)(k:Int)(l:Addr)(R:Value->ah->Prop)(s:ah):Prop :=
 ((items.isEmpty||k==1)=cn->R (.ref l) s)/\((items.isEmpty||k==1)=dt->R (.ref s.heap.objs.size) { s with heap:=s.heap.push { cls:=.type "tuple",data:=.seq ((ak k.toNat items).foldl (·++·) #[]) } })
def bp2 {y:yJ}(h0:0<=k)(Z:k<=1000000)(hz:y.size*k.toNat<=1000000)(hl:IsTup s.heap l y)
  (h:TmA y k l Q s):wpAny (model P w) A (call (.builtin "tuple.__mul__") [.ref l,.int k t]) Q E s:=by
 refine cG eU hl.typeIs PySem.F.entry_tuple_mul ?_ (PySem.F.args_tuple_mul_2 _ _);obtain⟨G,q2⟩:=h
 skip
 refine al (aF ?_);rw[gn (by rw[ij (by lia),ij (by lia)];decide)]
 skip
 refine al (kh hl ?_);have J:=by
  have:((y.size*k.toNat:Nat):Int)<=1000000:=by lia
  rw[dH,i8 h0]at this;exact this
 cases hb:(y.isEmpty||k==1)with
 | true =>
  rw[gc rfl];unfold lK;refine al (al (gR hl.typeIs (aF ?_)));rw[gc (by decide)];exact al (g6 (aF ⟨_,rfl,G hb⟩))
 | false =>
  rw[gn aS];have Y:=by
   rw[fi]at hb;exact hb.1
  have q:=q2 hb
  skip
  by_cases hk:k<=0
  .rw[gc (by rw[gW hk];rfl)];have:k.toNat=0:=by lia
   rw[this]at q;exact al (bJ (aF ⟨_,rfl,q⟩) (by size_fits))
  .rw[gn (by rw[ij hk,Y];decide)]
   skip
   rw[gn (by lia)]
   skip
   rw[gn (by unfold fS;rw[ij (by unfold aR;lia)];decide)];refine al (bJ (aF ⟨_,rfl,q⟩) ?_);show Array.size _<=aR;rw[aM0];show 0+_<=_;rw[bB];have h3:y.size*k.toNat<=aR:=am hz (by decide);exact h3
theorem aU1 :∀ n,ay1 n ([]:List α)=[]
 | 0=>rfl
 | n+1=>by simp[ay1,aU1 n]
def bv8 (l:List α):ay1 1 l=l:=by simp[ay1]
theorem aT9 (l:List α):∀ n,(ay1 n l).length=l.length*n
 | 0=>by simp[ay1]
 | n+1=>by simp[ay1,aT9 l n,eK];lia
theorem Vals.repT {us:yG}(r:Vals h us):∀ n,Vals (ay1 n h) (ay1 n us)
 | 0=>.nil
 | n+1=>r.append (Vals.repT r n)
def cu0 (K:af):R2:=λ x y H Q=>∃ a xs n,x=.ref a/\y=.int n/\SqT K H a xs/\(0<=n/\n<=1000000/\xs.length*n.toNat<=1000000)/\∀ p H',ak4 H H'->SqT K H' p (ay1 n.toNat xs)->(H' p=aT (.tp (ay1 n.toNat xs))\/(p=a/\ay1 n.toNat xs=xs))->Q (.ref p) H'
def bP9 {K}(hK:X.K=K):OpR X (cF .Mult) (cu0 K):=by
 subst hK;intro Y s W H x y v u Q I rx ry h;refine wl λ _ kk=>?_;obtain⟨a,J,n,rfl,rfl,ha,⟨h0,Z,hz⟩,q⟩:=h;cases rx;obtain⟨t,rfl⟩:=ry;obtain⟨its,r1,p1,a0⟩:=I.tuple ha;have G:=r1.length;obtain⟨⟨cls,dd,data,sl⟩,ho,hc,n1,hd⟩:=id p1;simp only at hc hd;subst hc hd;refine kk ?_;refine fW (by decide) p1.typeIs (λ s'=>gU s' n t) aR1 kA eF ba3 i4.lookup
  (kz eF (gU s n t) i5 (iD _ _) (aI7 n t a default its.toArray n1 dd sl) ⟨ho,⟨rfl,p1.typeIs,bp2 h0 Z (by simp_all) p1 ⟨λ hb=>?_,λ hb=>?_⟩⟩⟩)
 .have ex:ay1 n.toNat J=J:=by
   rw[bW]at hb;rcases hb with hb|hb
   .have hi:=by simpa using hb
    have hx:=r1.nil_iff.mp hi;rw[hx,aU1]
   .have:=by simpa using hb
    subst this;exact bv8 _
  exact⟨.ref a,H,I,rfl,q a H (ak4.refl H) (by simp_all) (.inr ⟨rfl,ex⟩)⟩
 .have hp:=I.hok.fresh (ai s.heap.objs.size);refine⟨.ref s.heap.objs.size,_,I.laid (λ b ob q=>aj _ q) (ai _) ?_,rfl,q _ _ ((ak4.refl H).new hp) (SqT.of zu) (.inl zu)⟩;refine⟨by rw[aT9];exact am hz (by decide),ay1 n.toNat its,r1.repT _,?_⟩;rw[show(ay1 n.toNat its).toArray=(ak n.toNat its.toArray).foldl (·++·) #[]by rw[aY0];simp];exact⟨_,aM _ rfl,rfl,_,rfl⟩
end L2
end
noncomputable section
namespace L2
open PySem PySem.Spec PyProof.Rows
def aW8 (h:Room k A):A.units+2<cLine:=Nat.lt_of_le_of_lt (Nat.add_le_add_left (by decide) _) h.units
section
variable {κ:Type} [DecidableEq κ]
noncomputable def be8 (kvs:List (κ×V))(k:κ):Option V:=(kvs.find? λ kv=>decide (kv.1=k)).map (·.2)
noncomputable def aN1 (kvs:List (κ×V))(k:κ)(v:V):List (κ×V) :=
 if(kvs.any λ kv=>decide (kv.1=k))=cn then kvs.map (λ kv=>if kv.1=k then(kv.1,v)else kv)else kvs++[(k,v)]
def ar3 {k:κ}(e:p.1=k):be8 (p::r) k=aT p.2:=by simp[be8,e]
def ar6 {k:κ}(e:¬ p.1=k):be8 (p::r) k=be8 r k:=by simp[be8,e]
theorem aE7  k :∀ h:List (κ×V),(h.any λ y=>decide (y.1=k))=(be8 h k).isSome
 | []=>rfl
 | p::r=>by
  rw[gv];by_cases e:p.1=k
  .simp only[ar3 e,gW e,Bool.true_or,fR]
  .rw[ar6 e,ij e,lV];exact aE7 k r
def au5  h (k:κ) v :(aN1 h k v).length<=h.length+1:=by
 unfold aN1;split
 .rw[ar];lia
 .rw[aN,aQ,c9];lia
def bv1.isSome_eq (r:bv1 o u):o.isSome=u.isSome:=by
 cases o with
 | none=>cases u with
  | none=>rfl
  | some _=>exact(r).elim
 | some _=>cases u with
  | none=>exact(r).elim
  | some _=>rfl
theorem bv1.getD (r:bv1 o u)(h:RelV d d'):RelV (o.getD d) (u.getD d'):=by
 cases o with
 | none=>cases u with
  | none=>exact h
  | some _=>exact(r).elim
 | some _=>cases u with
  | none=>exact(r).elim
  | some _=>exact r
def KV.val (r:KV y vs)(k:κ):bv1 (be8 y k) (iV vs k):=by
 unfold KV at r
 induction r with
 | nil=>exact True.intro
 | @cons p q ps qs h t ih =>
  obtain⟨G,J⟩:=h;by_cases e:p.1=k
  .have e':=G.symm.trans e;have b:iV (q::qs) k=aT q.2:=by simp[iV,e']
   rw[ar3 e,b];exact J
  .have e':¬ q.1=k:=λ z=>e (G.trans z);have b:iV (q::qs) k=iV qs k:=by simp[iV,e']
   rw[ar6 e,b];exact ih
theorem KV.any (r:KV y vs)(k:κ):(y.any λ G=>decide (G.1=k))=vs.any λ G=>decide (G.1=k):=by
 unfold KV at r
 induction r with
 | nil=>rfl
 | cons h t ih=>simp_all
def KV.repl (r:KV J vs)(k:κ)(Z:RelV y u) :
  KV (J.map λ G=>if G.1=k then(G.1,y)else G) (vs.map λ G=>if G.1=k then(G.1,u)else G):=by
 unfold KV at r ⊢
 induction r with
 | nil=>exact .nil
 | @cons p q ps qs h t ih =>
  rw[aJ,aJ];refine .cons ?_ ih;obtain⟨Y,h2⟩:=h;by_cases e:p.1=k
  .rw[gc e,gc (Y.symm.trans e)];exact⟨Y,Z⟩
  .rw[gn e,gn (λ z=>e (Y.trans z))];exact⟨Y,h2⟩
def KV.put (r:KV h vs)(k:κ)(G:RelV y u):KV (aN1 h k y) (stored vs k u):=by
 unfold aN1 stored;rw[r.any k];by_cases e:(vs.any λ J=>decide (J.1=k))=cn
 .rw[gc e,gc e];exact r.repl k G
 .rw[gn e,gn e];exact mF r ⟨rfl,G⟩
theorem KV.length {vs:List (κ×Value)}(r:KV h vs):h.length=vs.length:=lU r
end
def bs4 (r:RelV (kV k) u):(qB P w).is k u=true:=by
 cases k with
 | inl i=>obtain⟨t,e⟩:=(r);subst e;exact aP2 P w i t
 | inr x=>obtain⟨t,e⟩:=(r);subst e;exact aO1 P w x t
abbrev KT (H:Hp):List (List NI×V)->List (List NI×Addr×Value)->Prop:=fm λ p q=>p.1=q.1/\NK H p.1 q.2.1/\RelV p.2 q.2.2
def KT.val (r:KT H y G) k :bv1 (be8 y k) ((atKey G k).map (·.2)):=by
 induction r with
 | nil=>exact True.intro
 | @cons p q ps qs h t ih =>
  obtain⟨J,_,Y⟩:=h;by_cases e:p.1=k
  .have e':=J.symm.trans e;have b:atKey (q::qs) k=aT q.2:=by simp[atKey,e']
   rw[ar3 e,b];exact Y
  .have e':¬ q.1=k:=λ z=>e (J.trans z);have b:atKey (q::qs) k=atKey qs k:=by simp[atKey,e']
   rw[ar6 e,b];exact ih
def KT.repl (r:KT H G xs) k (ry:RelV y u) :
  KT H (G.map λ Y=>if Y.1=k then(Y.1,y)else Y) (xs.map (putAt k u)):=by
 induction r with
 | nil=>exact .nil
 | @cons p q ps qs h t ih =>
  rw[aJ,aJ];refine .cons ?_ ih;obtain⟨J,Z,h3⟩:=h;unfold putAt;by_cases e:p.1=k
  .rw[gc e,gc (J.symm.trans e)];exact⟨J,Z,ry⟩
  .rw[gn e,gn (λ z=>e (J.trans z))];exact⟨J,Z,h3⟩
def KT.put (r:KT H h G)(k:List NI){b:Addr}{y:V}{u:Value}(hb:NK H k b)(J:RelV y u) :
  KT H (aN1 h k y) (storedH G k b u):=by
 have e:(h.any λ Y=>decide (Y.1=k))=(atKey G k).isSome:=by
  rw[aE7,(r.val k).isSome_eq,Option.isSome_map]
 unfold aN1 storedH;rw[e];by_cases q:(atKey G k).isSome=cn
 .rw[gc q,gc q];exact r.repl k J
 .rw[gn q,gn q];exact mF r ⟨rfl,hb,J⟩
def KT.keeps (r:KT H h y)(ht:∀ b ys,H b=aT (.tp ys)->H' b=aT (.tp ys)):KT H' h y :=
 fm.mapP r λ _ _ z=>⟨z.1,z.2.1.mono ht,z.2.2⟩
section
variable {P:aK} {w:World} {H:Hp} {h:Heap} {a:Addr}
def ct3 (ok:HOk P w H h)(e:Rd H a u):ai1 P w H h a u:=e.ok ok
def bg1 (ok:HOk P w H h)(e:Rd H a (.dK y)):y.length<=aR/\(a==fJ)=dt/\∃ vs,KV y vs/\h.DictOf (qB P w) a vs :=
 ct3 ok e
def ce3 (ok:HOk P w H h)(e:H a=aT (.dK y)):y.length<=aR/\(a==fJ)=dt/\∃ vs,KV y vs/\h.DictOf (qB P w) a vs:=bg1 ok (.inl e)
end
def bv2 (H:Hp)(a:Addr)(y:V)(r:Option V):Prop :=
 (∃ kvs k,Rd H a (.dK kvs)/\y=kV k/\r=be8 kvs k)\/False
def cp1 (H:Hp)(a:Addr)(y v:V)(H':Hp):Prop :=
 (∃ kvs k,H a=aT (.dK kvs)/\y=kV k/\kvs.length<aR/\H'=upd H a (.dK (aN1 kvs k v)))\/False
def bv2.k {k}(e:H a=aT (.dK h)):bv2 H a (kV k) (be8 h k):=.inl ⟨h,k,.inl e,rfl,rfl⟩
def cp1.k {k}(e:H a=aT (.dK h))(hl:h.length<aR):cp1 H a (kV k) v (upd H a (.dK (aN1 h k v))):=.inl ⟨h,k,e,rfl,hl,rfl⟩
section
variable {X:Cx} {pins:yA} {W:St} {H:Hp} {s:ah} {a:Addr} {y v:V} {u r:Value} {o:Option V} {A:aW} {E:Value->ah->Prop}
def Inv.big (I:Inv X pins W H s):fJ<s.heap.objs.size:=by
 have h:=(I.mod.glob.keeps I.bk).lt;exact di (by decide) h
def bt2 (hu:A.units+2<cLine)(I:Inv X pins W H s)(g:bv2 H a y (aT v))(Y:RelV y u)(h:∀ w' s',Inv X pins W H s'->RelV v w'->Q w' s') :
  wpAny (model X.prog X.w) A (gQ (.ref a) u) Q E s:=by
 rcases g with⟨Z,k,e,ey,l⟩|g
 .subst ey;obtain⟨z,hd,vs,J,dd⟩:=bg1 I.hok e;obtain⟨w',hw,G⟩:=bv1.some_of (by rw[l];exact J.val k);exact wpAny_getItem_of (bs4 Y) dd.mapOf hw (h w' _ (I.tok _) G)
 simp_all
def cB5 (hu:A.units+2<cLine)(I:Inv X pins W H s)(g:bv2 H a y o)(J:RelV y u)(h:∀ s',Inv X pins W H s'->Q (.bool o.isSome) s') :
  wpAny (model X.prog X.w) A (cH .In u (.ref a)) Q E s:=by
 rcases g with⟨Y,k,e,Z,l⟩|g
 .subst Z;obtain⟨z,hd,vs,G,dd⟩:=bg1 I.hok e;refine wpAny_in_of (bs4 J) hd dd.mapOf ?_;rw[<-(G.val k).isSome_eq,<-l];exact h _ (I.tok _)
 simp_all
def bL9 (hu:A.units+2<cLine)(I:Inv X pins W H s)(g:bv2 H a y o)(J:RelV y u)(h:∀ s',Inv X pins W H s'->Q (.bool (!o.isSome)) s') :
  wpAny (model X.prog X.w) A (cH .NotIn u (.ref a)) Q E s:=by
 rcases g with⟨Y,k,e,Z,l⟩|g
 .subst Z;obtain⟨z,hd,vs,G,dd⟩:=bg1 I.hok e;refine wpAny_notIn_of (bs4 J) hd dd.mapOf ?_;rw[<-(G.val k).isSome_eq,<-l];exact h _ (I.tok _)
 simp_all
def bo5 (I:Inv X pins W H s)(mu:Mut (H a))(hs:ci a s.heap h')(h:∃ q,h'.get? a=aT q)(new:ai1 X.prog X.w (upd H a ob) h' a ob) :
  Inv X pins W (upd H a ob) { s with heap:=h',toks:=t' } :=
 I.write mu (.inl rfl) (λ b q hb z=>(hs.2 b hb).trans z) h new
def bE0 (z:h.length<=aR)(hd:(a==fJ)=dt)(y:KV h vs)(dd:h'.DictOf (qB P w) a vs) :
  ai1 P w H' h' a (.dK h):=⟨z,hd,vs,y,dd⟩
def bu2 (hu:A.units+2<cLine)(I:Inv X pins W H s)(g:cp1 H a y v H')(ry:RelV y u)(Z:RelV v r)(h:∀ s',Inv X pins W H' s'->Q () s') :
  wpAny (model X.prog X.w) A (setItem (.ref a) u r) Q E s:=by
 rcases g with⟨G,k,e,ey,l,eH⟩|g
 .subst ey eH;obtain⟨z,hd,vs,J,dd⟩:=ce3 I.hok e;have hz:vs.length<=aR:=by rw[<-J.length];exact z
  have hl:(aN1 G k v).length<=aR:=by have:=au5 G k v;lia
  refine wpAny_setItem_pairs (bs4 ry) dd λ h' Y hs=>h _ ?_;have he:∃ q,h'.get? a=aT q:=let⟨q,_,_,hq,_⟩:=Y;⟨q,hq⟩
  exact bo5 I (by rw[e];exact True.intro) hs he (bE0 hl hd (J.put k Z) Y)
 simp_all
end
section
variable {X:Cx} {pins:yA} {W:St} {H:Hp} {s:ah} {a:Addr} {kvs:List (Key×V)} {k:Key} {u:Value} {A:aW} {E:Value->ah->Prop}
end
def aR3 {W:St}(I:Inv X h W H s)(g:bv2 H a y o):s.TypeIs (.ref a) "dict":=by
 rcases g with⟨G,k,e,_,_⟩|g
 .obtain⟨_,_,vs,_,dd⟩:=bg1 I.hok e;exact dd.typeIs
 simp_all
section
variable {X:Cx} {o i e value:Expr} {pos pos' tpos:Pos} {td ty tv:TE}
end
def aT2 (h:Heap)(hb:fJ<h.objs.size):ai1 P w H (h.push { cls:=.type "dict",data:=.dict #[] }) h.objs.size (.dK []) :=
 ⟨dW _,beq_eq_false_iff_ne.mpr (cg (aD hb)),[],.nil,Heap.DictOf.new h⟩
def bF3:TE:=λ _ H Q=>∀ p,H p=bY->Q (.ref p) (upd H p (.dK []))
section
variable {X:Cx} {pos:Pos}
def bx8:PE X (.Dict [] [] pos) bF3:=λ y s W H Q I h =>
 wpAny_Dict_empty ⟨.ref s.heap.objs.size,_,I.laid (λ _ _ q=>aj _ q) (ai _) (aT2 s.heap I.big),rfl,h _ (I.hok.fresh (ai _))⟩
end
noncomputable def bj5:List (TE×TE)->St->Hp->(List (V×V)->Hp->Prop)->Prop
 | [],_,H,Q=>Q [] H
 | (tk,tv)::r,W,H,Q=>tk W H λ x H1=>tv W H1 λ y H2=>bj5 r W H2 λ ps H3=>Q ((x,y)::ps) H3
abbrev VV:List (V×V)->List (Value×Value)->Prop:=fm λ p q=>RelV p.1 q.1/\RelV p.2 q.2
def PPs (X:Cx)(pos:Pos)(keys:List (Option Expr))(values:yK)(trs:List (TE×TE)):Prop :=
 ∀ pins   s  (W:St)  H   Q ,Inv X pins W H s->bj5 trs W H Q ->
  wpAny (model X.prog X.w) X.A (evalPairs (pairTrees keys values X.env pos)) (λ vs s'=>∃ ps H',Inv X pins W H' s'/\VV ps vs/\Q ps H') X.xe s
def bQ0 :PPs X pos [] [] []:=λ y s W H Q I h=>pairTrees_nil_walk ⟨[],H,I,.nil,h⟩
def bA0 (hk:PE X k tk)(hv:PE X v Z)(hr:PPs X pos ks vs J) :
  PPs X pos (aT k::ks) (v::vs) ((tk,Z)::J):=λ G s W H Q I h =>
 pairTrees_cons_walk (thn (hk G s W H _ I h) λ u s1 ⟨x,H1,I1,rx,q1⟩=>thn (hv G s1 W H1 _ I1 q1) λ w2 s2 ⟨y,H2,I2,ry,q2⟩ =>
  thn (hr G s2 W H2 _ I2 q2) λ ws s3 ⟨ps,H3,I3,Y,q3⟩=>⟨(x,y)::ps,H3,I3,.cons ⟨rx,ry⟩ Y,q3⟩)
def aM5 (kvs more:List (Key×V)):List (Key×V):=more.foldl (λ acc kv=>aN1 acc kv.1 kv.2) kvs
def KV.merge:∀ {more} {G} {y} {vs},KV more G->KV y vs->KV (aM5 y more) (merged vs G):=by
 intro more G y vs r;unfold KV at r
 induction r generalizing y vs with
 | nil=>intro q;exact q
 | @cons p q ps qs h t ih =>
  intro r0;have e:KV (aN1 y p.1 p.2) (stored vs q.1 q.2):=by
   have:=r0.put p.1 h.2;rw[<-h.1];exact this
  exact ih e
theorem am1:∀ more h ,(aM5 h more).length<=h.length+more.length
 | [],h=>by show h.length<=h.length+0;lia
 | p::r,h=>by
  have G:=am1 r (aN1 h p.1 p.2);have y:=au5 h p.1 p.2;show(aM5 (aN1 h p.1 p.2) r).length<=_
  grind
theorem aB9 :∀ {y} {ws},VV (y.map λ J=>(kV J.1,J.2)) ws->∃ G,Carries (qB P w) ws G/\KV y G
 | [],_,r=>by rw[dg]at r;cases r;exact⟨[],True.intro,.nil⟩
 | p::y,_,r=>by
  rw[aJ]at r;cases r with
  | @cons a b as bs h t =>
   obtain⟨G,c,q⟩:=aB9 t;obtain⟨Z,Y⟩:=b;exact⟨(p.1,Y)::G,⟨bs4 h.1,rfl,c⟩,.cons ⟨rfl,h.2⟩ q⟩
def cn1 (trs:List (TE×TE)):TE:=λ W H Q=>∀ p,H p=bY->bj5 trs W (upd H p (.dK [])) λ ps H2=>H2 p=aT (.dK [])/\∃ kvs,ps=kvs.map (λ kv=>(kV kv.1,kv.2))/\kvs.length<=15/\Q (.ref p) (upd H2 p (.dK (aM5 [] kvs)))
def bQ7 (h:PPs X pos keys y J)(Y:keys.all (·.isSome)=cn)(hl:keys.length=y.length)(h0:keys≠[])
  (a1:keys.length<=15):PE X (.Dict keys y pos) (cn1 J):=by
 intro Z s W H Q I q;have hn:=I.hok.fresh (ai s.heap.objs.size);have I1:=I.laid (t':=s.toks) (λ _ _ q=>aj _ q) (ai _) (aT2 s.heap I.big);refine wpAny_Dict_walk (knd:=qB X.prog X.w) Y hl h0 a1 (thn (h Z _ W _ _ I1 (q _ hn)) λ ws s2 ⟨ps,H2,I2,a2,e,G,ep,lk,q2⟩=>?_);subst ep;refine wl λ _ kk=>?_;obtain⟨rs,c,rk⟩:=aB9 a2;obtain⟨z,hd,a3,r0,dd⟩:=ce3 I2.hok e;cases r0;refine kk ⟨rs,c,dd,λ h' a0 hs=>⟨.ref s.heap.objs.size,_,?_,rfl,q2⟩⟩;have hz:(aM5 [] G).length<=aR:=by
  have h1:=am1 G [];rw[c9]at h1;rw[f6];lia
 have he:∃ q,h'.get? s.heap.objs.size=aT q:=let⟨q,_,_,hq,_⟩:=a0;⟨q,hq⟩
 exact bo5 I2 (by rw[e];exact True.intro) hs he (bE0 hz hd (rk.merge .nil) a0)
section
variable {X:Cx} {pins:yA} {W:St} {H:Hp} {s:ah} {a:Addr} {y d:V} {u r:Value} {o:Option V} {A:aW} {E:Value->ah->Prop}
end
section
variable {X:Cx} {o e f:Expr} {apos cpos:Pos} {td ty tx:TE}
end
section
variable {P:aK} {w:World} {A:aW} {E:Value->ah->Prop} {s:ah}
end
section
variable {X:Cx} {pins:yA} {W:St} {H:Hp} {s:ah}
end
section
variable {prog:aK} {w:World} {A:aW} {R:lC->ah->Prop} {I:Addr} {fp wr:List Addr} {n:Nat} {P:Nat->Value->Prop} {St:Nat->Heap->Prop} {kw:List (Str×Value)}
end
section
variable {X:Cx} {pins:yA} {W:St} {H:Hp} {s:ah} {a Cc:Addr} {a0:Value}
end
section
variable {P:aK} {w:World} {K:af} {mg:yC} {base:Heap} {N:yH} {qual:Str} {scope:Scope} {f:Addr} {cd:Value} {A:aW} {outer:List Env} {s0:ah} {H0:Hp} {E:XK}
end
section
variable {X:Cx} {E:XK} {Cc:Addr} {x:Str}
end
section
variable {X:Cx} {pins:yA} {W:St} {H:Hp} {s:ah} {a Cc T:Addr} {fl fl' a0:Value} {h':Heap}
end
section
variable {X:Cx} {pins:yA} {W:St} {H:Hp} {s:ah} {a Cc:Addr} {oe:Obj} {fl:Value}
end
section
variable {prog:aK} {w:World} {A:aW} {R:lC->ah->Prop} {I:Addr} {fp wr:List Addr} {n:Nat} {P:Nat->Value->Prop} {St:Nat->Heap->Prop} {h₀:Heap}
end
section
variable {X:Cx} {pins:yA} {W:St} {H:Hp} {s:ah} {a Cc:Addr} {oe:Obj} {fl:Value}
end
section
variable {X:Cx} {pins:yA} {W:St} {H:Hp} {s:ah} {a Cc D':Addr} {oe:Obj} {fl:Value}
end
section
open PySem.AutoSeq1 (wpAny_loadPart')
open PySem.MeetsSeq PySem.MeetsSeq2 PySem.MeetsSeq3 PySem.SeqAt
end
section
variable {A:aW} {s:ah}
end
section
variable {prog:aK} {w:World} {A:aW} {E:Value->ah->Prop} {s:ah} {x y:Str} {t u:Tok}
end
end L2
end
noncomputable section
namespace DV
set_option genInjectivity true in
inductive D where
 | N|T (b:Bool)|int (i:Int)|str (x:List Nat)|tp (l:List D)|ref (n:Nat)|fn (f:String)|clo (f:String) (cs:List D)
noncomputable abbrev D.ctorIdx (x:D):Nat:=D.casesOn x 0 (λ _=>1) (λ _=>2) (λ _=>3) (λ _=>4) (λ _=>5) (λ _=>6) (λ _ _=>7)
noncomputable instance:DecidableEq D:=λ a b=>gF (a=b)
noncomputable instance (x:D):Decidable (x=.N):=match x with
 | .N=>.isTrue rfl
 | .T _=>.isFalse nofun
 | .int _=>.isFalse nofun
 | .str _=>.isFalse nofun
 | .tp _=>.isFalse nofun
 | .ref _=>.isFalse nofun
 | .fn _=>.isFalse nofun
 | .clo _ _=>.isFalse nofun
inductive O where
 | J (l:List D)|ro (l:List D)|dc (l:List (D×D))|ins (c:String) (fs:List (String×D))
noncomputable abbrev O.ctorIdx (x:O):Nat:=O.casesOn x (λ _=>0) (λ _=>1) (λ _=>2) (λ _ _=>3)
noncomputable instance:DecidableEq O:=λ a b=>gF (a=b)
abbrev Sto:=List O
noncomputable def O.kd:O->Nat
 | .J _=>0|.ro _=>1|.dc _=>2|.ins _ _=>3
set_option genInjectivity true in
inductive R (α:Type) where
 | ok (a:α) (s:Sto)|exc (e:D) (s:Sto)|B
noncomputable abbrev R.ctorIdx {α:Type} (x:R α):Nat:=R.casesOn x (λ _ _=>0) (λ _ _=>1) 2
noncomputable abbrev M  α :=Sto->R α
noncomputable def R.bind (r:R α)(f:α->Sto->R β):R β:=match r with
 | .ok a s=>f a s
 | .exc e s=>.exc e s
 | .B=>.B
@[simp] theorem R.bind_ok  a   s  (f:α->Sto->R β):(R.ok a s).bind f=f a s:=rfl
@[simp] theorem R.bind_bad (f:α->Sto->R β):(R.B).bind f=.B:=rfl
@[simp] theorem R.bind_exc  e   s  (f:α->Sto->R β):(R.exc e s).bind f=.exc e s:=rfl
def R.bind_inv {r:R α}{b:β}(h:r.bind f=.ok b t):∃ a s,r=.ok a s/\f a s=.ok b t:=by
 cases r with
 | ok a s=>exact⟨a,s,rfl,h⟩
 | exc e s=>cases h
 | B=>cases h
@[simp] theorem R.bind_assoc (r:R α)  f  (g:β->Sto->R γ):(r.bind f).bind g=r.bind λ a s=>(f a s).bind g:=by cases r<;>rfl
mutual
noncomputable def D.bnd (n:Nat):D->Bool
 | .tp l=>D.bndL n l
 | .ref k=>decide (k<n)
 | .clo _ l=>D.bndL n l
 | _=>cn
noncomputable def D.bndL (n:Nat):List D->Bool
 | []=>cn
 | d::l=>D.bnd n d&&D.bndL n l
end
def O.bnd (n:Nat):O->Bool
 | .J l=>D.bndL n l
 | .ro l=>D.bndL n l
 | .dc l=>D.bndL n (l.map (·.1))&&D.bndL n (l.map (·.2))
 | .ins _ fs=>D.bndL n (fs.map (·.2))
mutual
noncomputable def D.plain:D->Bool
 | .N=>cn|.int _=>cn|.str _=>cn
 | .tp l=>D.plainL l
 | _=>dt
noncomputable def D.plainL:List D->Bool
 | []=>cn
 | d::l=>D.plain d&&D.plainL l
end
mutual
noncomputable def D.ncl:D->Bool
 | .tp l=>D.nclL l
 | .clo _ _=>dt
 | _=>cn
noncomputable def D.nclL:List D->Bool
 | []=>cn
 | d::l=>D.ncl d&&D.nclL l
end
def O.ncl:O->Bool
 | .J l=>D.nclL l
 | .ro l=>D.nclL l
 | .dc l=>D.nclL (l.map (·.2))
 | _=>dt
noncomputable def D.key:D->Bool
 | .int _=>cn|.str _=>cn|_=>dt
noncomputable def D.hdI:List D->Bool
 | .int _::_=>cn|.N::_=>cn|.tp _::_=>cn|_=>dt
noncomputable def LIM:Nat:=1000000
@[irreducible] noncomputable def BIG:Nat:=2^60000
@[irreducible] noncomputable def DIVL:Nat:=2^4096
set_option genCtorIdx true in
inductive BOp where
 | add|sub|mul|fdiv|mod|pow|shl|shr|band|bor
 deriving DecidableEq
set_option genCtorIdx true in
inductive COp where
 | eq|ne|lt|le|gt|ge|isin|notin
 deriving DecidableEq
set_option genCtorIdx true in
inductive Cn where
 | N|T (b:Bool)|int (i:Int)|str (x:List Nat)
 deriving DecidableEq
noncomputable def Cn.d:Cn->D
 | .N=>.N|.T b=>.T b|.int i=>.int i|.str x=>.str x
set_option genCtorIdx true in
inductive Bi where
 | len|abs|int|str|min2|max2|max3|min3|isInt|isBool|isStr|isTup|isList|ord
 deriving DecidableEq
set_option genCtorIdx true in
inductive Mk where
 | tuple|list|all|any|sum|min|max|sorted|lenset
 deriving DecidableEq
set_option genCtorIdx true in
inductive Mt where
 | append|partition
 deriving DecidableEq
set_option genCtorIdx true in
inductive Tg where
 | Y (i:Nat)|tp (is:List Nat)
 deriving DecidableEq
mutual
inductive E where
 | X (i:Nat)|K (c:Cn)|gl (x:String)
 | G (op:BOp) (a b:E)|neg (a:E)|not (a:E)
 | Z (op:COp) (a b:E)|chain (o p:COp) (a b c:E)
 | isN (a:E)|notN (a:E)|notB (a:E) (b:Bool)
 | and (a b:E)|or (a b:E)|ite (c a b:E)
 | tp (es:Es)|J (es:Es)|dc (ks vs:Es)
 | ix (a b:E)|slU (a hi:E)
 | call (f:String) (as:As)|callC (f:String) (as:As)|callV (i:Nat) (es:Es)
 | bi (b:Bi) (es:Es)|mk (k:Mk) (l:L)|mkD (k:Mk) (l:L) (d:E)
 | me (m:Mt) (o:E) (es:Es)
inductive Es where
 | nil|cons (e:E) (es:Es)
inductive As where
 | nil|ex (e:E) (as:As)|lam (id:String) (caps:List Nat) (as:As)|fn (f:String) (as:As)
inductive I where
 | seq (e:E)|rg (a:E)|enum (it:I)
inductive L where
 | comp (tg:Tg) (it:I) (e:E) (caps:yD)|compIf (tg:Tg) (it:I) (c e:E) (caps:yD)|disp (es:Es)|seq (e:E)
end
noncomputable abbrev E.ctorIdx (x:E):Nat:=E.casesOn x (λ _=>0) (λ _=>1) (λ _=>2) (λ _ _ _=>3) (λ _=>4) (λ _=>5) (λ _ _ _=>6) (λ _ _ _ _ _=>7) (λ _=>8) (λ _=>9) (λ _ _=>10) (λ _ _=>11) (λ _ _=>12) (λ _ _ _=>13) (λ _=>14) (λ _=>15) (λ _ _=>16) (λ _ _=>17) (λ _ _=>18) (λ _ _=>19) (λ _ _=>20) (λ _ _=>21) (λ _ _=>22) (λ _ _=>23) (λ _ _ _=>24) (λ _ _ _=>25)
noncomputable abbrev As.ctorIdx (x:As):Nat:=As.casesOn x 0 (λ _ _=>1) (λ _ _ _=>2) (λ _ _=>3)
noncomputable abbrev I.ctorIdx (x:I):Nat:=I.casesOn x (λ _=>0) (λ _=>1) (λ _=>2)
mutual
inductive S where
 | A (tg:Tg) (e:E)|setIx (o i e:E)|aug (i:Nat) (e:E)|ex (e:E)|ret (e:E)
 | ite (c:E) (a b:Ss)|whl (c:E) (b:Ss)|fo (tg:Tg) (it:I) (b:Ss)|raise|und (i:Nat)
inductive Ss where
 | nil|cons (s:S) (ss:Ss)
end
noncomputable abbrev Ss.ctorIdx (x:Ss):Nat:=Ss.casesOn x 0 (λ _ _=>1)
noncomputable abbrev S.ctorIdx (x:S):Nat:=S.casesOn x (λ _ _=>0) (λ _ _ _=>1) (λ _ _=>2) (λ _=>3) (λ _=>4) (λ _ _ _=>5) (λ _ _=>6) (λ _ _ _=>7) 8 (λ _=>9)
abbrev Env:=List (Option D)
noncomputable def ak7 (o:O):M D:=λ s=>.ok (.ref s.length) (s++[o])
noncomputable def pur (d:D):M D:=λ s=>.ok d s
noncomputable def bad :M α:=λ _=>.B
def mulOk (a b:Int):Bool:=decide (a.natAbs<2^64)||decide (b.natAbs<2^64)||(decide (a.natAbs<BIG)&&decide (b.natAbs<BIG))
noncomputable def rep:Nat->List Nat->List Nat
 | 0,_=>[]
 | n+1,a=>a++rep n a
noncomputable def bs6:Nat->List D->List D
 | 0,_=>[]
 | n+1,a=>a++bs6 n a
def qZ:BOp->D->D->M D
 | .add,.int a,.int b=>pur (.int (a+b))
 | .add,.str a,.str b=>if a.length+b.length<=LIM then pur (.str (a++b))else bad
 | .add,.tp a,.tp b=>if a.length+b.length<=LIM then pur (.tp (a++b))else bad
 | .add,.ref a,.ref b=>λ s=>match s[a]?,s[b]? with
  | some (.J l),aT (.J m)=>if l.length+m.length<=LIM then ak7 (.J (l++m)) s else .B
  | _,_=>.B
 | .sub,.int a,.int b=>pur (.int (a - b))
 | .mul,.int a,.int b=>if mulOk a b then pur (.int (a*b))else bad
 | .mul,.str a,.int n=>if 0<=n/\n<=1000000/\a.length*n.toNat<=LIM then pur (.str (rep n.toNat a))else bad
 | .mul,.tp a,.int n=>if 0<=n/\n<=1000000/\a.length*n.toNat<=LIM then pur (.tp (bs6 n.toNat a))else bad
 | .mul,.ref a,.int n=>λ s=>match s[a]? with
  | some (.J l)=>if 0<=n/\n<=1000000/\l.length*n.toNat<=LIM then ak7 (.J (bs6 n.toNat l)) s else .B
  | _=>.B
 | .fdiv,.int a,.int b=>if 0<b/\b<(DIVL)then pur (.int (a / b))else bad
 | .mod,.int a,.int b=>if 0<b then pur (.int (a % b))else bad
 | .pow,.int a,.int b=>if 0<=b/\b<=1000000/\a.natAbs<2^64 then pur (.int (a^b.toNat))else bad
 | .shl,.int a,.int b=>if 0<=b/\b<=1000000/\a.natAbs<2^64 then pur (.int (a*2^b.toNat))else bad
 | .shr,.int a,.int b=>if 0<=b then pur (.int (a / 2^b.toNat))else bad
 | _,_,_=>bad
noncomputable def kd (s:Sto):D->Nat
 | .N=>0|.T _=>1|.int _=>1|.str _=>2|.tp _=>3
 | .ref r=>match s[r]? with|some (.J _)=>4|_=>9
 | _=>9
noncomputable def aN0 (a b:Nat):Bool:=a==9||b==9||a==b
noncomputable def b2i (b:Bool):Int:=if b then 1 else 0
def bc7:D->D->Option Bool
 | .N,.N=>aT cn
 | .T a,.T b=>aT (a==b)
 | .int a,.int b=>aT (a==b)
 | .T a,.int b=>aT (b2i a==b)
 | .int a,.T b=>aT (a==b2i b)
 | .str a,.str b=>aT (a==b)
 | _,_=>bY
def ai3 (s:Sto)(a b:D):Option Bool:=match bc7 a b with
 | some z=>aT z
 | none=>if aN0 (kd s a) (kd s b)then bY else aT dt
noncomputable def eqL (f:D->D->Option Bool):List D->List D->Option Bool
 | [],[]=>aT cn
 | [],_::_=>aT dt
 | _::_,[]=>aT dt
 | a::l,b::m=>match f a b,eqL f l m with
  | some x,aT y=>aT (x&&y)
  | _,_=>bY
def eqv (s:Sto):Nat->D->D->Option Bool
 | 0,a,b=>ai3 s a b
 | n+1,a,b=>match a,b with
  | .tp l,.tp m=>eqL (eqv s n) l m
  | .ref x,.ref y=>match s[x]?,s[y]? with
   | some (.J l),aT (.J m)=>if l.length=m.length then eqL (eqv s n) l m else aT dt
   | _,_=>bY
  | a,b=>ai3 s a b
noncomputable def DEEP:Nat:=30
def eqM (a b:D):M D:=λ s=>match eqv s DEEP a b with
 | some r=>.ok (.T r) s
 | none=>.B
def inL (s:Sto)(x:D):List D->Option Bool
 | []=>aT dt
 | y::l=>match eqv s DEEP y x,inL s x l with
  | some a,aT b=>aT (a||b)
  | _,_=>bY
noncomputable def look (k:D):List (D×D)->Option D
 | []=>bY
 | (a,v)::l=>if a=k then aT v else look k l
def inM (a b:D):M Bool:=λ s=>match b with
 | .tp l=>match inL s a l with|some r=>.ok r s|none=>.B
 | .ref r=>match s[r]? with
  | some (.J l)=>match inL s a l with|some r=>.ok r s|none=>.B
  | some (.dc l)=>if a.key then .ok (look a l).isSome s else .B
  | _=>.B
 | .str y=>match a with|.str [c]=>.ok (decide (c∈y)) s|_=>.B
 | _=>.B
noncomputable def bC1:D->Option (Int×List Nat)
 | .tp [.int i,.str x]=>aT (i,x)
 | _=>bY
def cx4 (f:Int->List Nat->Int->List Nat->Bool)(a b:D):M D:=λ s=>match bC1 a,bC1 b with
 | some (i,x),aT (j,y)=>.ok (.T (f i x j y)) s
 | _,_=>.B
def qp:COp->D->D->M D
 | .eq,a,b=>eqM a b
 | .ne,a,b=>λ s=>match eqv s DEEP a b with|some r=>.ok (.T (!r)) s|none=>.B
 | .lt,.int a,.int b=>pur (.T (decide (a<b)))
 | .le,.int a,.int b=>pur (.T (decide (a<=b)))
 | .gt,.int a,.int b=>pur (.T (decide (b<a)))
 | .ge,.int a,.int b=>pur (.T (decide (b<=a)))
 | .isin,a,b=>λ s=>(inM a b s).bind λ r s=>.ok (.T r) s
 | .notin,a,b=>λ s=>(inM a b s).bind λ r s=>.ok (.T (!r)) s
 | _,_,_=>bad
noncomputable def ixn (n:Nat)(i:Int):Option Nat:=if 0<=i then(if i<n then aT i.toNat else bY)else if -(n)<=i then aT (i+n).toNat else bY
noncomputable def sbd (n:Nat)(i:Int):Nat:=if 0<=i then min i.toNat n else(i+n).toNat
def loB (n:Nat):Option Int->Nat
 | none=>0
 | some i=>sbd n i
def hiB (n:Nat):Option Int->Nat
 | none=>n
 | some i=>sbd n i
def aN2 {α:Type}(l:List α)(lo hi:Option Int):List α:=(l.drop (loB l.length lo)).take (hiB l.length hi - loB l.length lo)
def ixM (a b:D):M D:=λ s=>match a,b with
 | .tp l,.int i=>match(ixn l.length i).bind λ j=>l[j]? with|some d=>.ok d s|none=>.B
 | .str l,.int i=>match(ixn l.length i).bind λ j=>l[j]? with|some c=>.ok (.str [c]) s|none=>.B
 | .ref r,b=>match s[r]? with
  | some (.J l)=>match b with
   | .int i=>match(ixn l.length i).bind λ j=>l[j]? with|some d=>.ok d s|none=>.B
   | _=>.B
  | some (.ro l)=>match b with
   | .int i=>match(ixn l.length i).bind λ j=>l[j]? with|some d=>.ok d s|none=>.B
   | _=>.B
  | some (.dc l)=>if b.key then match look b l with|some d=>.ok d s|none=>.B else .B
  | _=>.B
 | _,_=>.B
def slM (a:D)(lo hi:Option Int):M D:=λ s=>match a with
 | .tp l=>.ok (.tp (aN2 l lo hi)) s
 | .str l=>.ok (.str (aN2 l lo hi)) s
 | .ref r=>match s[r]? with
  | some (.J l)=>ak7 (.J (aN2 l lo hi)) s
  | _=>.B
 | _=>.B
noncomputable def aq7:List D->Option (List Bool)
 | []=>aT []
 | .T b::l=>(aq7 l).map (b::·)
 | _=>bY
noncomputable def qW:List D->Option (List Int)
 | []=>aT []
 | .int i::l=>(qW l).map (i::·)
 | _=>bY
noncomputable def aB1:List D->Option (List (List Nat))
 | []=>aT []
 | .str i::l=>(aB1 l).map (i::·)
 | _=>bY
noncomputable def cf3 (d:D):M D:=λ s=>match d with
 | .tp l=>.ok (.int l.length) s
 | .str l=>.ok (.int l.length) s
 | .ref r=>match s[r]? with
  | some (.J l)=>.ok (.int l.length) s
  | some (.ro l)=>.ok (.int l.length) s
  | _=>.B
 | _=>.B
noncomputable def isK (k:Nat)(d:D):M D:=λ s=>match d with
 | .N=>.ok (.T dt) s
 | .T _=>.ok (.T (k==1||k==2)) s
 | .int _=>.ok (.T (k==1)) s
 | .str _=>.ok (.T (k==3)) s
 | .tp _=>.ok (.T (k==4)) s
 | .ref r=>match s[r]? with
  | some (.J _)=>.ok (.T (k==5)) s
  | _=>.B
 | _=>.B
def bi1 (f:D->M D):List D->M D
 | [d]=>f d
 | _=>bad
def bI9:List D->M D
 | [.str [c]]=>λ s=>if 48<=c/\c<=57 then .ok (.int ((c - 48:Nat))) s else .B
 | _=>bad
def bS0:List D->M D
 | [.int i]=>λ s=>if 0<=i/\i<=9 then .ok (.str [48+i.toNat]) s else .B
 | [.str w]=>λ s=>.ok (.str w) s
 | _=>bad
def bi:Bi->List D->M D
 | .len,l=>bi1 cf3 l
 | .abs,l=>λ s=>match qW l with|some [i]=>.ok (.int (if i<0 then -i else i)) s|_=>.B
 | .int,l=>λ s=>match aq7 l with|some [b]=>.ok (.int (if b then 1 else 0)) s|some _=>.B|none=>bI9 l s
 | .str,l=>bS0 l
 | .min2,l=>λ s=>match qW l with|some [a,b]=>.ok (.int (if b<a then b else a)) s|_=>.B
 | .max2,l=>λ s=>match qW l with|some [a,b]=>.ok (.int (if b > a then b else a)) s|_=>.B
 | .max3,l=>λ s=>match qW l with|some [a,b,c]=>.ok (.int (max (max a b) c)) s|_=>.B
 | .isInt,l=>bi1 (isK 1) l
 | .isBool,l=>bi1 (isK 2) l
 | .isStr,l=>bi1 (isK 3) l
 | .isTup,l=>bi1 (isK 4) l
 | .isList,l=>bi1 (isK 5) l
 | _,_=>bad
noncomputable def minI:List Int->Option Int
 | []=>bY
 | a::l=>aT (l.foldl min a)
noncomputable def cx6:List Int->Option Int
 | []=>bY
 | a::l=>aT (l.foldl max a)
noncomputable def ins (a:Int):List Int->List Int
 | []=>[a]
 | b::l=>if a<=b then a::b::l else b::ins a l
def bZ7:List Int->List Int
 | []=>[]
 | a::l=>ins a (bZ7 l)
noncomputable def cA2 (is:List Int):Bool:=is.all (λ i=>decide (-1000000000<=i/\i<=1000000000))&&decide (is.length<=1000000)
def mk:Mk->List D->M D
 | .tuple,l=>λ s=>.ok (.tp l) s
 | .list,l=>ak7 (.J l)
 | .all,l=>λ s=>match aq7 l with|some bs=>.ok (.T (bs.all id)) s|none=>.B
 | .any,l=>λ s=>match aq7 l with|some bs=>.ok (.T (bs.any id)) s|none=>.B
 | .sum,l=>λ s=>match qW l with|some is=>if cA2 is then .ok (.int is.sum) s else .B|none=>.B
 | .min,l=>λ s=>match(qW l).bind minI with|some m=>.ok (.int m) s|none=>.B
 | .max,l=>λ s=>match(qW l).bind cx6 with|some m=>.ok (.int m) s|none=>.B
 | .sorted,l=>λ s=>match qW l with|some is=>ak7 (.J ((bZ7 is).map D.int)) s|none=>.B
 | .lenset,l=>bad
def mkD (k:Mk)(l:List D)(d:D):M D:=λ s=>match k with
 | .min=>match qW l with|some is=>(match minI is with|some m=>.ok (.int m) s|none=>.ok d s)|none=>.B
 | .max=>match qW l with|some is=>(match cx6 is with|some m=>.ok (.int m) s|none=>.ok d s)|none=>.B
 | _=>.B
def bc3 (k v:D)(l:List (D×D)):List (D×D):=if(look k l).isSome then l.map (λ p=>if p.1=k then(p.1,v)else p)else l++[(k,v)]
def setIx (o i v:D):Sto->R Unit:=λ s=>match o with
 | .ref r=>match s[r]? with
  | some (.J l)=>match i with
   | .int i=>match ixn l.length i with|some j=>.ok () (s.set r (.J (l.set j v)))|none=>.B
   | _=>.B
  | some (.dc l)=>if i.key&&decide (l.length<LIM)then .ok () (s.set r (.dc (bc3 i v l)))else .B
  | _=>.B
 | _=>.B
def meth:Mt->D->List D->M D
 | .append,.ref r,[d]=>λ s=>match s[r]? with
  | some (.J l)=>if l.length<LIM then .ok .N (s.set r (.J (l++[d])))else .B
  | _=>.B
 | _,_,_=>bad
structure Fns where
 call:String->List D->M D
 lam:String->List D->List D->M D
 con:String->Option D
 xcall:String->List D->Sto->Option (String×Sto)
 xc:String->Bool
 xt:String->Bool
 cdc:String->Option (List (List Nat×List Nat))
 kd:String->Bool
noncomputable def bb2 (U:Env)(i:Nat):M D:=λ s=>match U[i]? with|some (aT d)=>.ok d s|_=>.B
noncomputable def al4 (U:Env):List Nat->Option (List D)
 | []=>aT []
 | i::is=>match U[i]?,al4 U is with|some (aT d),aT l=>aT (d::l)|_,_=>bY
noncomputable def qb (U:Env)(caps:yD):Env:=caps.map λ o=>match o with|none=>bY|some j=>(U[j]?).join
noncomputable def aA5 (U:Env)(i:Nat)(d:D):Option Env:=if i < U.length then aT (U.set i (aT d))else bY
noncomputable def am9 (U:Env)(i:Nat):Option Env:=if i < U.length then aT (U.set i bY)else bY
def aw7 (U:Env):List Nat->List D->Option Env
 | [],[]=>aT U
 | i::is,d::l=>(aA5 U i d).bind λ U=>aw7 U is l
 | _,_=>bY
def ai5 (U:Env):Tg->D->Option Env
 | .Y i,d=>aA5 U i d
 | .tp is,.tp l=>aw7 U is l
 | _,_=>bY
structure Sq where
 its:List D
 src:List Nat
noncomputable def ay0 (d:D):M Sq:=λ s=>match d with
 | .tp l=>.ok ⟨l,[]⟩ s
 | .str l=>.ok ⟨l.map λ c=>.str [c],[]⟩ s
 | .ref r=>match s[r]? with
  | some (.J l)=>.ok ⟨l,[r]⟩ s
  | some (.ro l)=>.ok ⟨l,[]⟩ s
  | _=>.B
 | _=>.B
noncomputable def bk4 (d:D):M Sq:=λ s=>match d with
 | .tp l=>.ok ⟨l,[]⟩ s
 | .str l=>.ok ⟨l.map λ c=>.str [c],[]⟩ s
 | .ref r=>match s[r]? with
  | some (.J l)=>.ok ⟨l,[r]⟩ s
  | some (.ro l)=>.ok ⟨l,[]⟩ s
  | _=>.B
 | _=>.B
noncomputable def be6 (d:D):M Sq:=λ s=>match d with
 | .tp l=>.ok ⟨l,[]⟩ s
 | .ref r=>match s[r]? with
  | some (.J l)=>.ok ⟨l,[r]⟩ s
  | some (.ro l)=>.ok ⟨l,[]⟩ s
  | _=>.B
 | _=>.B
noncomputable def bf1 (d:D):Sto->R (List D):=λ s=>match d with
 | .tp l=>.ok l s
 | .str l=>.ok (l.map λ c=>.str [c]) s
 | .ref r=>match s[r]? with
  | some (.J l)=>.ok l s
  | some (.ro l)=>.ok l s
  | _=>.B
 | _=>.B
noncomputable def Ww62:Int:=4611686018427387904
noncomputable def j4 (a b:Int):List D:=(ae (b - a).toNat).map λ(k:Nat)=>.int (a+k)
noncomputable def aj1 (n:Nat):List D->List D
 | []=>[]
 | d::l=>.tp [.int n,d]::aj1 (n+1) l
noncomputable def chk (s0 s:Sto)(src:List Nat):Bool:=src.all λ r=>decide (s[r]?=s0[r]?)
noncomputable def tru (r:R D)(f:Bool->Sto->R α):R α:=r.bind λ d s=>match d with|.T b=>f b s|_=>.B
@[simp] theorem zD  b   s  (f:Bool->Sto->R α):tru (.ok (.T b) s) f=f b s:=rfl
noncomputable def qX (ok:Sto->Bool)(g:D->Env->Sto->R (Option D×Env)):List D->Env->Sto->R (List D)
 | [],_,s=>if ok s then .ok [] s else .B
 | d::l,U,s=>if ok s then(g d U s).bind λ p s=>(qX ok g l p.2 s).bind λ r s=>.ok (match p.1 with|some v=>v::r|none=>r) s else .B
def kAt (x:D)(s:Sto):Option Nat:=match x with
 | .ref r=>s[r]?.map O.kd
 | _=>bY
def mkq (x:D)(s t:Sto)(r:R D):R D:=if kAt x s=kAt x t then r else .B
mutual
noncomputable def ev (F:Fns):E->Env->Sto->R D
 | .X i,U,s=>bb2 U i s
 | .K c,_,s=>.ok c.d s
 | .gl x,_,s=>match F.con x with|some d=>.ok d s|none=>.B
 | .G op a b,U,s=>(ev F a U s).bind λ x s=>(ev F b U s).bind λ y s=>qZ op x y s
 | .neg a,U,s=>(ev F a U s).bind λ x s=>match x with|.int i=>.ok (.int (-i)) s|_=>.B
 | .not a,U,s=>tru (ev F a U s) λ b s=>.ok (.T (!b)) s
 | .Z op a b,U,s=>(ev F a U s).bind λ x s=>(ev F b U s).bind λ y s=>qp op x y s
 | .chain o p a b c,U,s=>(ev F a U s).bind λ x s=>(ev F b U s).bind λ y s=>tru (qp o x y s) λ k s=>if k then(ev F c U s).bind λ z s=>qp p y z s else .ok (.T dt) s
 | .isN a,U,s=>(ev F a U s).bind λ x s=>.ok (.T (decide (x=.N))) s
 | .notN a,U,s=>(ev F a U s).bind λ x s=>.ok (.T (!decide (x=.N))) s
 | .notB a b,U,s=>(ev F a U s).bind λ x s=>match x with|.T c=>.ok (.T (!(c==b))) s|_=>.B
 | .and a b,U,s=>tru (ev F a U s) λ c s=>if c then tru (ev F b U s) λ c s=>.ok (.T c) s else .ok (.T dt) s
 | .or a b,U,s=>tru (ev F a U s) λ c s=>if c then .ok (.T cn) s else tru (ev F b U s) λ c s=>.ok (.T c) s
 | .ite c a b,U,s=>tru (ev F c U s) λ k s=>if k then ev F a U s else ev F b U s
 | .tp es,U,s=>(evs F es U s).bind λ l s=>.ok (.tp l) s
 | .J es,U,s=>(evs F es U s).bind λ l s=>ak7 (.J l) s
 | .dc .nil .nil,U,s=>ak7 (.dc []) s
 | .dc (.cons k .nil) (.cons v .nil),U,s=>(ev F k U (s++[.dc []])).bind λ kd s1=>(ev F v U s1).bind λ vd s2=>if kd.key=cn/\s2[s.length]?=aT (.dc [])then .ok (.ref s.length) (s2.set s.length (.dc [(kd,vd)]))else .B
 | .dc _ _,U,s=>.B
 | .ix a b,U,s=>(ev F a U s).bind λ x s=>(ev F b U s).bind λ y s=>ixM x y s
 | .slU a hi,U,s=>(ev F a U s).bind λ x s=>(ev F hi U s).bind λ y s=>match y with|.int i=>slM x bY (aT i) s|_=>.B
 | .call f as,U,s=>(ay2 F as U s).bind λ l s=>F.call f l s
 | .callC f as,U,s=>(ay2 F as U s).bind λ l s=>(F.call f l s).bind λ d s'=>if(d.ncl&&s'.all O.ncl)=cn then .ok d s' else .B
 | .callV i es,U,s=>(evs F es U s).bind λ l s=>match U[i]? with
  | some (aT (.fn f))=>F.call f l s
  | some (aT (.clo id cs))=>F.lam id cs l s
  | _=>.B
 | .bi b es,U,s=>(evs F es U s).bind λ l s=>bi b l s
 | .mk k it,U,s=>(evL F it U s).bind λ q s=>mk k q s
 | .mkD k it d,U,s=>(evL F it U s).bind λ q s=>(ev F d U s).bind λ d s=>mkD k q d s
 | .me m o es,U,s=>(ev F o U s).bind λ x s=>(evs F es U s).bind λ l t=>mkq x s t (meth m x l t)
noncomputable def evs (F:Fns):Es->Env->Sto->R (List D)
 | .nil,_,s=>.ok [] s
 | .cons e es,U,s=>(ev F e U s).bind λ d s=>(evs F es U s).bind λ l s=>.ok (d::l) s
noncomputable def ay2 (F:Fns):As->Env->Sto->R (List D)
 | .nil,_,s=>.ok [] s
 | .ex e as,U,s=>(ev F e U s).bind λ d s=>(ay2 F as U s).bind λ l s=>.ok (d::l) s
 | .lam id caps as,U,s=>match al4 U caps with
  | some cs=>(ay2 F as U s).bind λ l s=>.ok (.clo id cs::l) s
  | none=>.B
 | .fn f as,U,s=>(ay2 F as U s).bind λ l s=>.ok (.fn f::l) s
noncomputable def evI (F:Fns):I->Env->Sto->R Sq
 | .seq e,U,s=>(ev F e U s).bind λ d s=>ay0 d s
 | .rg a,U,s=>(ev F a U s).bind λ x s=>match x with|.int i=>if -Ww62<=i/\i<Ww62 then .ok ⟨j4 0 i,[]⟩ s else .B|_=>.B
 | .enum (.seq e),U,s=>(ev F e U s).bind λ d s=>(be6 d s).bind λ q s=>.ok ⟨aj1 0 q.its,q.src⟩ s
 | .enum _,_,_=>.B
noncomputable def evL (F:Fns):L->Env->Sto->R (List D)
 | .comp tg it e caps,U,s=>(evI F it U s).bind λ q s0=>if q.its.length<=LIM then qX (λ s=>chk s0 s q.src) (λ d U s=>match ai5 U tg d with
   | some U=>(ev F e U s).bind λ v s=>.ok (aT v,U) s
   | none=>.B) q.its (qb U caps) s0 else .B
 | .compIf tg it c e caps,U,s=>(evI F it U s).bind λ q s0=>if q.its.length<=LIM then qX (λ s=>chk s0 s q.src) (λ d U s=>match ai5 U tg d with
   | some U=>tru (ev F c U s) λ k s=>if k then(ev F e U s).bind λ v s=>.ok (aT v,U) s else .ok (bY,U) s
   | none=>.B) q.its (qb U caps) s0 else .B
 | .disp es,U,s=>evs F es U s
 | .seq e,U,s=>(ev F e U s).bind λ d s=>bf1 d s
end
inductive Ct where
 | next (U:Env)|ret (d:D)|cont (U:Env)|brk (U:Env)
noncomputable abbrev Ct.ctorIdx (x:Ct):Nat:=Ct.casesOn x (λ _=>0) (λ _=>1) (λ _=>2) (λ _=>3)
set_option tactic.hygienic true in
noncomputable def bo2 (ok:Sto->Bool)(g:D->Env->Sto->R Ct):List D->Env->Sto->R Ct
 | [],U,s=>if ok s then .ok (.next U) s else .B
 | d::l,U,s=>if ok s then(g d U s).bind λ c s=>match c with
   | .next U=>bo2 ok g l U s
   | .cont U=>bo2 ok g l U s
   | .brk U=>.ok (.next U) s
   | .ret d=>.ok (.ret d) s
  else .B
set_option tactic.hygienic true in
def al3 (c:Env->Sto->R D)(g:Env->Sto->R Ct):Nat->Env->Sto->R Ct
 | 0,_,_=>.B
 | n+1,U,s=>tru (c U s) λ b s=>if b then(g U s).bind λ c' s=>match c' with
   | .next U=>al3 c g n U s
   | .cont U=>al3 c g n U s
   | .brk U=>.ok (.next U) s
   | .ret d=>.ok (.ret d) s
  else .ok (.next U) s
open Classical in
def whl (c:Env->Sto->R D)(g:Env->Sto->R Ct)(U:Env)(s:Sto):R Ct :=
 if h:∃ n,al3 c g n U s≠.B then al3 c g h.choose U s else .B
mutual
noncomputable def ex (F:Fns):S->Env->Sto->R Ct
 | .A tg e,U,s=>(ev F e U s).bind λ d s=>match ai5 U tg d with|some U=>.ok (.next U) s|none=>.B
 | .setIx o i e,U,s=>(ev F e U s).bind λ d s=>(ev F o U s).bind λ x s=>(ev F i U s).bind λ y s=>(setIx x y d s).bind λ _ s=>.ok (.next U) s
 | .aug i e,U,s=>(bb2 U i s).bind λ x s=>(ev F e U s).bind λ y s=>match x,y with
  | .int a,.int b=>match aA5 U i (.int (a+b))with|some U=>.ok (.next U) s|none=>.B
  | _,_=>.B
 | .ex e,U,s=>(ev F e U s).bind λ _ s=>.ok (.next U) s
 | .ret e,U,s=>(ev F e U s).bind λ d s=>.ok (.ret d) s
 | .ite c a b,U,s=>tru (ev F c U s) λ k s=>if k then exs F a U s else exs F b U s
 | .whl c b,U,s=>whl (ev F c) (exs F b) U s
 | .fo tg it b,U,s=>(evI F it U s).bind λ q s0=>bo2 (λ s=>chk s0 s q.src) (λ d U s=>match ai5 U tg d with
   | some U=>exs F b U s
   | none=>.B) q.its U s0
 | .raise,_,_=>.B
 | .und i,U,s=>match am9 U i with|some U=>.ok (.next U) s|none=>.B
noncomputable def exs (F:Fns):Ss->Env->Sto->R Ct
 | .nil,U,s=>.ok (.next U) s
 | .cons st ss,U,s=>(ex F st U s).bind λ c s=>match c with|.next U=>exs F ss U s|c=>.ok c s
end
structure Df where
 name:String
 ps:Nat
 vs:Nat
 body:Ss
structure Lm where
 id:String
 ps:Nat
 cs:Nat
 body:E
structure Pr where
 df:String->Option Df
 lm:String->Option Lm
 con:String->Option D
 xf:String->Option Nat
 tf:String->Option Nat
 xc:String->Bool
 xt:String->Bool
 cdc:String->Option (List (List Nat×List Nat))
noncomputable def az2 (st st':Sto):Bool:=(ae st.length).all λ i=>decide (st'[i]?=st[i]?)||(match st'[i]? with|some o=>o.bnd st.length|none=>dt)
def zY (st:Sto)(d:D)(st':Sto):R D :=
 if az2 st st' then
  match d with
  | .ref r=>if r<st.length then .ok d (st'.take st.length)else match st'[r]? with
   | some o=>if o.bnd st.length then .ok (.ref st.length) (st'.take st.length++[o])else .ok d st'
   | none=>.B
  | d=>if d.bnd st.length then .ok d (st'.take st.length)else .ok d st'
 else .ok d st'
set_option tactic.hygienic true in
def aa0 (P:Pr):Nat->Fns
 | 0=>⟨λ _ _ _=>.B,λ _ _ _ _=>.B,P.con,λ _ _ _=>bY,P.xc,P.xt,P.cdc,λ _=>dt⟩
 | n+1=>⟨λ f l s=>match P.df f with
   | some d=>if l.length=d.ps then(exs (aa0 P n) d.body (l.map aT++ak d.vs bY) s).bind λ c s'=>match c with
     | .ret v=>zY s v s'
     | .next _=>zY s .N s'
     | _=>.B else .B
   | none=>.B,
  λ id cs l s=>match P.lm id with
   | some d=>if l.length=d.ps/\cs.length=d.cs/\(D.nclL l&&D.nclL cs&&s.all O.ncl)=cn then(ev (aa0 P n) d.body (l.map aT++cs.map aT) s).bind λ v s'=>zY s v s' else .B
   | none=>.B,P.con,
  λ _ _ _=>bY,P.xc,P.xt,P.cdc,λ _=>dt⟩
end DV
end
open DV renaming Sto->mK,D->mM,Env->mO,R->mP,ev->mQ,LIM->mU,eqv->mV,aa0->mW,tru->mY,DEEP->mZ,Pr->m7,eqL->m8,rep->m9,Fns->ng,kd->nh,Es->ni,ai3->nj,ai5->nk,evs->nq,O->nr,aN2->nu,aj1->nv,al4->nw,bc3->nA,aA5->nB,look->nD,Bi->nE,Tg->nF,Ct->nG,bs6->nH,sbd->nI,chk->nJ,qW->nK,Sq->nM,loB->nN,ak7->nO,inL->nQ,ixn->nR,As->nV,minI->nW,aN0->nX,aq7->nY,E->nZ,ay2->n0,M->n4,qb->n5,mk->n6,Lm->n8,Df->n9,COp->oa,hiB->og,slM->oh,bk4->ol,aw7->om,kAt->on,aB1->oq,bi->ot,j4->ou,qX->ow,Mk->ox,Mt->oy,Ss->oz,bc7->oA,pur->oB,inM->oC,bi1->oD,bb2->oE,bo2->oF,evI->oG,meth->oH,BOp->oI,isK->oJ,Ww62->oN,be6->oO,S->oQ,exs->oS,am9->oT,az2->oU
open DV.D renaming bndL->mN,bnd->mR,hdI->ny,nclL->nU,ncl->oK
open DV.O renaming bnd->mT,ncl->oM
noncomputable section
namespace L2
def fb {p:Prop}(h:(DV.R.B:mP α)=.ok d s):p:=nomatch h
open PySem PySem.Spec PyProof.Rows
structure LamI where
 qual:Str
 params:a9
 body:Expr
 scope:Scope
 ps:List Str
 fr:List Str
 nm:Option (Str×Pos)
def CloAt (H:Hp)(f:Addr)(J:LamI)(cap:List V)(clos:yB):Prop:=match J.nm with
 | none=>aL6 H f J.qual J.params J.body J.scope J.fr cap clos
 | some p=>aw2 H f p.1 J.qual J.params [.Return (aT J.body) p.2] J.scope J.fr cap clos
def an6 (H:Hp)(f:Addr)(J:LamI)(clos:yB):Prop:=match J.nm with
 | none=>∃ pm c' ctv,H f=aT (aF9 f (bU "<lambda>" J.qual J.params J.body J.scope clos pm (.ref c') ctv))/\H c'=aT (ji c' J.qual)
 | some p=>∃ doc pm c' ctv,H f=aT (aF9 f (cT p.1 J.qual J.params [.Return (aT J.body) p.2] J.scope clos .none .none doc pm bY (.ref c') ctv))/\H c'=aT (ji c' J.qual)
structure Gm where
 K:af
 fa:String->Option Addr
 lg:String->LamI->Prop
 T:List (Addr×Str)
variable (Γ:Gm)
mutual
noncomputable def RV (C:Nat->Addr)(H:Hp):mM->V->Prop
 | .N,v=>v=.N
 | .T b,v=>v=.T b
 | .int i,v=>v=.int i
 | .str x,v=>v=.str ⟨x.toArray⟩/\x.length<=mU
 | .tp l,v=>∃ a xs,v=.ref a/\(SqT Γ.K H a xs/\(ny l=cn->H a=aT (.tp xs)))/\RVL C H l xs
 | .ref n,v=>v=.ref (C n)
 | .fn f,v=>∃ a,Γ.fa f=aT a/\v=.ref a
 | .clo id cs,v=>∃ f cap J clos,v=.ref f/\Γ.lg id J/\CloAt H f J cap clos/\cap.length=J.fr.length/\RVL C H cs cap
noncomputable def RVL (C:Nat->Addr)(H:Hp):List mM->List V->Prop
 | [],xs=>xs=[]
 | d::l,xs=>∃ x r,xs=x::r/\RV C H d x/\RVL C H l r
end
noncomputable def cp3:HO->Bool
 | .tp _=>cn
 | .frz _ _=>cn
 | .ext _=>cn
 | _=>dt
def Kp (H H':Hp):Prop:=∀ b o,H b=aT o->cp3 o=cn->H' b=aT o
def Kp.refl  H :Kp H H:=λ _ _ h _=>h
def Kp.trans (a:Kp H y)(b:Kp y H2):Kp H H2:=λ c o h f=>b c o (a c o h f) f
def Kp.new (a:Kp H y)(h:y p=bY):Kp H (upd y p o):=λ c u e f=>by
 have e1:=a c u e f;rw[zr (zV e1 h)];exact e1
def Kp.put (a:Kp H y)(h:y p=aT u)(hu:cp3 u=dt):Kp H (upd y p o):=λ c v e f=>by
 have e1:=a c v e f;rw[zr (λ z=>by lia)];lia
def Kp.sqT {K}(e:Kp H H')(h:SqT K H a y):SqT K H' a y:=by
 rcases h with(h|⟨o,h⟩)|h
 .exact .inl (.inl (e _ _ h rfl))
 .exact .inl (.inr ⟨o,e _ _ h rfl⟩)
 .exact .inr h
def aL6.kp (h:aL6 H f qual params body scope fr cap y)(e:Kp H H'):aL6 H' f qual params body scope fr cap y:=by
 obtain⟨pm,c',G,J,h2,h3,h4,Y,Z⟩:=h;refine⟨pm,c',G,e _ _ J rfl,e _ _ h2 rfl,λ x c q=>?_,h4,Y,λ i x v a b=>?_⟩
 .obtain⟨o,v,z,d⟩:=h3 x c q;exact⟨o,v,e _ _ z rfl,d⟩
 .obtain⟨c,o,u,z1,z2,z3⟩:=Z i x v a b;exact⟨c,o,u,z1,e _ _ z2 rfl,z3⟩
def aw2.kp (h:aw2 H f name qual params body scope fr cap y)(e:Kp H H'):aw2 H' f name qual params body scope fr cap y:=by
 refine wl λ _ kk=>?_;obtain⟨G,pm,c',J,Y,h2,h3,h4,Z,h6⟩:=h;refine kk ⟨G,pm,c',J,e _ _ Y rfl,e _ _ h2 rfl,λ x c q=>?_,h4,Z,λ i x v a b=>?_⟩
 .obtain⟨o,v,z,d⟩:=h3 x c q;exact⟨o,v,e _ _ z rfl,d⟩
 .obtain⟨c,o,u,z1,z2,z3⟩:=h6 i x v a b;exact⟨c,o,u,z1,e _ _ z2 rfl,z3⟩
theorem CloAt.kp (h:CloAt H f J cap y)(e:Kp H H'):CloAt H' f J cap y:=by
 unfold CloAt at h ⊢;cases q:J.nm with
 | none=>rw[q]at h;exact aL6.kp h e
 | some p=>rw[q]at h;exact aw2.kp h e
def an6.kp (h:an6 H f J y)(e:Kp H H'):an6 H' f J y:=by
 unfold an6 at h ⊢;cases q:J.nm with
 | none =>
  rw[q]at h;refine wl λ _ kk=>?_;obtain⟨pm,c',G,Z,h2⟩:=h;exact kk ⟨pm,c',G,e _ _ Z rfl,e _ _ h2 rfl⟩
 | some p =>
  rw[q]at h;refine wl λ _ kk=>?_;obtain⟨Y,pm,c',G,Z,h2⟩:=h;exact kk ⟨Y,pm,c',G,e _ _ Z rfl,e _ _ h2 rfl⟩
theorem CloAt.fn {K}(h:CloAt H f J cap y):bJ2 K H f:=by
 unfold CloAt at h;cases q:J.nm with
 | none=>rw[q]at h;obtain⟨pm,Z,Y,G,_⟩:=h;exact .inl ⟨_,G⟩
 | some p=>rw[q]at h;exact aw2.fn h
structure Gw (C:Nat->Addr)(n:Nat)(H:Hp)(C':Nat->Addr)(H':Hp):Prop where
 map:∀ i,i<n->C' i=C i
 kp:Kp H H'
variable {Γ:Gm}
mutual
theorem RV.monoW {C C':Nat->Addr}{n:Nat}{H H':Hp}(g:Gw C n H C' H'):∀(d:mM) (v:V),d.bnd n=cn->RV Γ C H d v->RV Γ C' H' d v
 | .N,_,_,h=>by unfold RV at h ⊢;exact h
 | .T _,_,_,h=>by unfold RV at h ⊢;exact h
 | .int _,_,_,h=>by unfold RV at h ⊢;exact h
 | .str _,_,_,h=>by unfold RV at h ⊢;exact h
 | .tp l,_,b,h=>by
  unfold RV at h ⊢;unfold mR at b;obtain⟨a,G,e,q,r⟩:=h;exact⟨a,G,e,⟨g.kp.sqT q.1,λ z=>g.kp _ _ (q.2 z) rfl⟩,RVL.monoW g l G b r⟩
 | .ref k,_,b,h=>by
  unfold RV at h ⊢;unfold mR at b;rw[g.map k (dO b)];exact h
 | .fn _,_,_,h=>by unfold RV at h ⊢;exact h
 | .clo id cs,_,b,h=>by
  unfold RV at h ⊢;unfold mR at b;obtain⟨f,cap,J,y,e,Y,Z,h3,h4⟩:=h;exact⟨f,cap,J,y,e,Y,Z.kp g.kp,h3,RVL.monoW g cs cap b h4⟩
theorem RVL.monoW {C C':Nat->Addr}{n:Nat}{H H':Hp}(g:Gw C n H C' H'):∀(l:List mM) (y:List V),mN n l=cn->RVL Γ C H l y->RVL Γ C' H' l y
 | [],_,_,h=>by unfold RVL at h ⊢;exact h
 | d::l,_,b,h=>by
  unfold RVL at h ⊢;unfold mN at b;rw[aw]at b;obtain⟨x,r,e,q,t⟩:=h;exact⟨x,r,e,RV.monoW g d x b.1 q,RVL.monoW g l r b.2 t⟩
end
mutual
theorem zH {n m:Nat}(h:n<=m):∀ d:mM,d.bnd n=cn->d.bnd m=cn
 | .N,_=>rfl
 | .T _,_=>rfl
 | .int _,_=>rfl
 | .str _,_=>rfl
 | .tp l,b=>by unfold mR at b ⊢;exact ae9 h l b
 | .ref k,b=>by unfold mR at b ⊢;exact gW (av (dO b) h)
 | .fn _,_=>rfl
 | .clo _ l,b=>by unfold mR at b ⊢;exact ae9 h l b
theorem ae9 {n m:Nat}(h:n<=m):∀ l:List mM,mN n l=cn->mN m l=cn
 | [],_=>rfl
 | d::l,b=>by
  unfold mN at b ⊢;rw[aw]at b ⊢;exact⟨zH h d b.1,ae9 h l b.2⟩
end
theorem ad8 :∀ {l},mN n l=cn↔∀ d∈l,d.bnd n=cn
 | []=>by unfold mN;simp
 | d::l=>by
  unfold mN;rw[aw,ad8 ];simp
def qI (h:mN n l=cn)(h':mN n m=cn):mN n (l++m)=true :=
 ad8.mpr λ d hd=>(bN.mp hd).elim (ad8.mp h d) (ad8.mp h' d)
def aS5 (h:mN n l=cn)(s:∀ d∈m,d∈l):mN n m=true:=ad8.mpr λ d hd=>ad8.mp h d (s d hd)
def ar2 {i:Nat}(h:mN n l=cn)(e:l[i]?=aT d):d.bnd n=true:=ad8.mp h d (aC e)
section
variable {C:Nat->Addr} {H:Hp}
def RVL.nil:RVL Γ C H [] []:=by unfold RVL;rfl
def RVL.cons (a:RV Γ C H d x)(b:RVL Γ C H l h):RVL Γ C H (d::l) (x::h):=by unfold RVL;exact⟨x,h,rfl,a,b⟩
def RVL.unnil (h:RVL Γ C H [] y):y=[]:=by unfold RVL at h;exact h
def RVL.uncons (h:RVL Γ C H (d::l) y):∃ x r,y=x::r/\RV Γ C H d x/\RVL Γ C H l r:=by unfold RVL at h;exact h
theorem RVL.length:∀ {l} {y},RVL Γ C H l y->y.length=l.length
 | [],_,h=>by rw[h.unnil];rfl
 | d::l,_,h=>by
  obtain⟨x,r,rfl,_,t⟩:=h.uncons;rw[aQ,aQ,RVL.length t]
theorem RVL.get:∀ {l} {G} {i:Nat} {d},RVL Γ C H l G->l[i]?=aT d->∃ x,G[i]?=aT x/\RV Γ C H d x
 | [],_,_,_,_,e=>by simp at e
 | d::l,_,0,d',h,e=>by
  obtain⟨x,r,rfl,q,t⟩:=h.uncons
  simp_all
 | d::l,_,i+1,_,h,e=>by
  obtain⟨x,r,rfl,q,t⟩:=h.uncons;obtain⟨y,e1,e2⟩:=RVL.get t (by simpa using e)
  simp_all
theorem RVL.append:∀ {l m} {y ys},RVL Γ C H l y->RVL Γ C H m ys->RVL Γ C H (l++m) (y++ys)
 | [],_,_,_,h,h'=>by rw[h.unnil];exact h'
 | d::l,_,_,_,h,h'=>by
  obtain⟨x,r,rfl,q,t⟩:=h.uncons;exact .cons q (RVL.append t h')
theorem RVL.drop:∀ {l} {y}  n ,RVL Γ C H l y->RVL Γ C H (l.drop n) (y.drop n)
 | _,_,0,h=>h
 | [],_,n+1,h=>by rw[h.unnil];exact .nil
 | d::l,_,n+1,h=>by
  obtain⟨x,r,rfl,q,t⟩:=h.uncons;exact RVL.drop n t
theorem RVL.take:∀ {l} {y}  n ,RVL Γ C H l y->RVL Γ C H (l.take n) (y.take n)
 | _,_,0,h=>.nil
 | [],_,n+1,h=>by rw[h.unnil];exact .nil
 | d::l,_,n+1,h=>by
  obtain⟨x,r,rfl,q,t⟩:=h.uncons;exact .cons q (RVL.take n t)
theorem RVL.set:∀ {l} {y} {d} {x}  i ,RVL Γ C H l y->RV Γ C H d x->RVL Γ C H (l.set i d) (y.set i x)
 | [],_,_,_,_,h,_=>by rw[h.unnil];exact .nil
 | d::l,_,_,_,0,h,q=>by
  obtain⟨x,r,rfl,_,t⟩:=h.uncons;exact .cons q t
 | d::l,_,_,_,i+1,h,q=>by
  obtain⟨x,r,rfl,G,t⟩:=h.uncons;exact .cons G (RVL.set i t q)
def RV.intE (h:RV Γ C H (.int i) v):v=.int i:=by unfold RV at h;exact h
def RV.blE (h:RV Γ C H (.T i) v):v=.T i:=by unfold RV at h;exact h
def RV.nonE (h:RV Γ C H .N v):v=.N:=by unfold RV at h;exact h
def RV.strE (h:RV Γ C H (.str x) v):v=.str ⟨x.toArray⟩:=by unfold RV at h;exact h.1
def RV.strL (h:RV Γ C H (.str x) v):x.length<=mU:=by unfold RV at h;exact h.2
def RV.tupE (h:RV Γ C H (.tp l) v):∃ a y,v=.ref a/\SqT Γ.K H a y/\RVL Γ C H l y:=by unfold RV at h;obtain⟨a,y,e,q,r⟩:=h;exact⟨a,y,e,q.1,r⟩
def RV.tupZ (h:RV Γ C H (.tp l) v):∃ a y,(v=.ref a/\(ny l=cn->H a=aT (.tp y)))/\SqT Γ.K H a y/\RVL Γ C H l y:=by unfold RV at h;obtain⟨a,y,e,q,r⟩:=h;exact⟨a,y,⟨e,q.2⟩,q.1,r⟩
def RVL.tonil (h:RVL Γ C H l []):l=[]:=cy.mp h.length.symm
def RV.refE (h:RV Γ C H (.ref n) v):v=.ref (C n):=by unfold RV at h;exact h
def RV.intI :RV Γ C H (.int i) (.int i):=by unfold RV;rfl
def RV.blI :RV Γ C H (.T i) (.T i):=by unfold RV;rfl
def RV.nonI:RV Γ C H .N .N:=by unfold RV;rfl
def RV.strI (h:x.length<=mU):RV Γ C H (.str x) (.str ⟨x.toArray⟩):=by unfold RV;exact⟨rfl,h⟩
def RV.tupI (h:H a=aT (.tp y))(q:RVL Γ C H l y):RV Γ C H (.tp l) (.ref a):=by unfold RV;exact⟨a,y,rfl,⟨SqT.of h,λ _=>h⟩,q⟩
def RV.tupC (h:SqT Γ.K H a y)(z:ny l=cn->H a=aT (.tp y))(q:RVL Γ C H l y):RV Γ C H (.tp l) (.ref a):=by unfold RV;exact⟨a,y,rfl,⟨h,z⟩,q⟩
def RV.refI :RV Γ C H (.ref n) (.ref (C n)):=by unfold RV;rfl
end
def bL5 (h:ny (nH n l)=cn):ny l=true:=by
 cases n with
 | zero=>cases h
 | succ n =>
  cases l with
  | nil => 
   have:∀ k,nH k ([])=[]:=λ k=>by
    induction k with
    | zero=>rfl
    | succ k ih=>show[]++nH k []=[];simp_all
   simp_all
  | cons a l =>
   have e:nH (n+1) (a::l)=a::(l++nH n (a::l)):=rfl;rw[e]at h;cases a with
   | int _=>rfl
   | N=>rfl
   | tp _=>rfl
   | _=>cases h
def br2 (h:(nu l y G).length=l.length):nu l y G=l:=by
 unfold nu at h ⊢;rw[br,fc]at h;by_cases z:l=[]
 .simp_all
 .have J:=i6.mpr z;have e1:nN l.length y=0:=by lia
  rw[e1]at h ⊢;rw[fT];exact cB (by lia)
def SqF (K:af)(H:Hp)(a:Addr)(xs:List V):Prop:=SqL K H a xs/\∀ H',Kp H H'->SqL K H' a xs
noncomputable def bl5:mM->Option Key
 | .int i=>aT (.inl i)
 | .str x=>aT (.inr ⟨x.toArray⟩)
 | _=>bY
def RVD {κ:Type}(kf:mM->Option κ)(Γ:Gm)(C:Nat->Addr)(H:Hp):List (mM×mM)->List (κ×V)->Prop
 | [],kvs=>kvs=[]
 | (d,e)::l,kvs=>∃ k v r,kvs=(k,v)::r/\kf d=aT k/\RV Γ C H e v/\RVD kf Γ C H l r
variable (Γ)
def RO (C:Nat->Addr)(H:Hp)(a:Addr):nr->Prop
 | .J l=>∃ xs,H a=aT (.J xs)/\RVL Γ C H l xs
 | .ro l=>∃ xs,SqF Γ.K H a xs/\RVL Γ C H l xs
 | .dc l=>∃ kvs,H a=aT (.dK kvs)/\RVD bl5 Γ C H l kvs
 | .ins _ _=>False
abbrev okd:nr->Nat:=DV.O.kd
noncomputable def isMut:nr->Bool
 | .ro _=>dt
 | _=>cn
structure Rp (C:Nat->Addr)(H:Hp)(s:mK):Prop where
 inj:∀(i j:Nat) (o o':nr),s[i]?=aT o->s[j]?=aT o'->isMut o=cn->isMut o'=cn->C i=C j->i=j
 obj:∀(i:Nat) (o:nr),s[i]?=aT o->RO Γ C H (C i) o
 wf:∀(i:Nat) (o:nr),s[i]?=aT o->o.bnd s.length=cn
 tab:TabsH Γ.T H
structure RE (C:Nat->Addr)(H:Hp)(n:Nat)(U:mO)(W:St):Prop where
 len:U.length=W.length
 val:∀(i:Nat) (d:mM),U[i]?=aT (aT d)->d.bnd n=cn/\∃ v,W[i]?=aT (aT v)/\RV Γ C H d v
structure Gr (C:Nat->Addr)(s:mK)(H:Hp)(C':Nat->Addr)(s':mK)(H':Hp):Prop where
 w:Gw C s.length H C' H'
 le:s.length<=s'.length
 new:∀ i:Nat,s.length<=i->i<s'.length->H (C' i)=bY
 kd:∀(i:Nat) (o o':nr),s[i]?=aT o->s'[i]?=aT o'->okd o'=okd o
 st:∀ b,H b≠bY->H' b≠bY
 fr:∀ b o,H b=aT o->(∀ ps,o≠.tbl ps)->(∀(i:Nat) (ob:nr),s[i]?=aT ob->isMut ob=cn->C i≠b)->H' b=aT o
variable {Γ}
def bM3 (h:okd y=okd o)(m:isMut y=cn):isMut o=true:=by
 cases o with
 | ro _=>cases y with
  | ro _=>cases m
  | _=>cases h
 | _=>rfl
def Gr.mu (g:Gr C s H C' s' H')(i:Nat) o h (e:s[i]?=aT o)(e':s'[i]?=aT h)(m:isMut h=cn):isMut o=true:=bM3 (g.kd i o h e e') m
theorem Gr.refl  C  s  H :Gr C s H C s H:=⟨⟨λ _ _=>rfl,Kp.refl H⟩,ai _,λ i G y=>iF y (by lia),λ i o J e e'=>by lia,λ _ h=>h,λ _ _ h _ _=>h⟩
theorem Gr.trans (a:Gr C s H C1 s1 Z)(b:Gr C1 s1 Z C2 s2 H2)(_h:s.length<=s1.length):Gr C s H C2 s2 H2:=by
 refine⟨⟨λ i y=>(b.w.map i (av y a.le)).trans (a.w.map i y),a.w.kp.trans b.w.kp⟩,am a.le b.le,λ i h1 h2=>?_,λ i o o' e e'=>?_,λ c h=>b.st c (a.st c h),λ c o h Y ne=>?_⟩
 .by_cases y:i<s1.length
  .rw[b.w.map i y];exact a.new i h1 y
  .have e:=b.new i (by lia) h2;cases q:H (C2 i)with
   | none=>rfl
   | some o=>exact iF e (a.st _ (by lia))
 .have hl:i<s1.length:=av (ab.mp e).1 a.le;obtain⟨G,e1⟩:∃ G,s1[i]?=aT G:=⟨s1[i],ac hl⟩
  exact(b.kd i G o' e1 e').trans (a.kd i o G e e1)
 .refine b.fr c o (a.fr c o h Y ne) Y λ i ob e m z=>?_;by_cases y:i<s.length
  .obtain⟨J,e0⟩:∃ J,s[i]?=aT J:=⟨s[i],ac y⟩
   exact ne i J e0 (a.mu i J ob e0 e m) (by rw[<-a.w.map i y];exact z)
  .have:=a.new i (by lia) (ab.mp e).1;lia
def RV.mono (g:Gr C s H C' s' H') d  v (b:d.bnd s.length=cn)(h:RV Γ C H d v):RV Γ C' H' d v:=RV.monoW g.w d v b h
def RVL.mono (g:Gr C s H C' s' H') d  v (b:mN s.length d=cn)(h:RVL Γ C H d v):RVL Γ C' H' d v:=RVL.monoW g.w d v b h
theorem RE.mono (h:RE Γ C H s.length U W)(g:Gr C s H C' s' H')(hn:s.length<=s'.length):RE Γ C' H' s'.length U W :=
 ⟨h.len,λ i d e=>by
  obtain⟨b,v,e1,e2⟩:=h.val i d e;exact⟨zH hn d b,v,e1,RV.mono g d v b e2⟩⟩
def aj2 (Γ:Gm)(C:Nat->Addr)(s:mK)(H:Hp)(d:mM)(s':mK)(Q:VK):Prop :=
 ∀ v C' H',Gr C s H C' s' H'->s.length<=s'.length->d.bnd s'.length=cn->RV Γ C' H' d v->Rp Γ C' H' s'->Q v H'
theorem aj2.trans (h:aj2 Γ C s H d s' Q)(g:Gr C s H C1 s1 y)(l:s.length<=s1.length):aj2 Γ C1 s1 y d s' Q :=
 λ v C' H' g' G b r p=>h v C' H' (g.trans g' l) (am l G) b r p
def aj2.here (h:aj2 Γ C s H d s Q)(p:Rp Γ C H s)(b:d.bnd s.length=cn)(r:RV Γ C H d v):Q v H :=
 h v C H (Gr.refl C s H) (ai _) b r p
theorem RVD.monoW (g:Gw C n H C' H'):∀ l  (y:List (κ×V)),mN n (l.map (·.2))=cn->RVD G Γ C H l y->RVD G Γ C' H' l y
 | [],_,_,h=>h
 | (d,e)::l,_,b,h=>by
  obtain⟨k,v,r,e1,e2,J,Y⟩:=h;rw[aJ]at b;unfold mN at b;rw[aw]at b;exact⟨k,v,r,e1,e2,RV.monoW g e v b.1 J,RVD.monoW g l r b.2 Y⟩
def RO.mono (h:RO Γ C H a o)(g:Gw C n H C' H')(b:o.bnd n=cn)(hl:isMut o=cn->∀ u,H a=aT u->H' a=aT u):RO Γ C' H' a o:=by
 cases o with
 | J l =>
  unfold mT at b;obtain⟨G,e,r⟩:=h;exact⟨G,hl rfl _ e,RVL.monoW g l G b r⟩
 | ro l =>
  unfold mT at b;obtain⟨G,e,r⟩:=h;exact⟨G,⟨e.2 _ g.kp,λ H2 k=>e.2 _ (g.kp.trans k)⟩,RVL.monoW g l G b r⟩
 | dc l =>
  unfold mT at b;rw[aw]at b;obtain⟨y,e,r⟩:=h;exact⟨y,hl rfl _ e,RVD.monoW g l y b.2 r⟩
 | ins _ _=>exact h.elim
def RO.there (h:RO Γ C H a o)(m:isMut o=cn):∃ u,H a=aT u/\cp3 u=dt/\∀ ps,u≠.tbl ps:=by
 cases o with
 | J l=>obtain⟨y,e,_⟩:=h;exact⟨_,e,rfl,by nofun⟩
 | ro l=>cases m
 | dc l=>obtain⟨y,e,_⟩:=h;exact⟨_,e,rfl,by nofun⟩
 | ins _ _=>exact h.elim
def Rp.addr (p:Rp Γ C H s)(e:s[i]?=aT (.J l)):∃ h,H (C i)=aT (.J h)/\RVL Γ C H l h:=p.obj i _ e
def ja (h:n<=m)(o:nr)(b:o.bnd n=cn):o.bnd m=true:=by
 cases o with
 | J l=>unfold mT at b ⊢;exact ae9 h l b
 | ro l=>unfold mT at b ⊢;exact ae9 h l b
 | dc l =>
  unfold mT at b ⊢;rw[aw]at b ⊢;exact⟨ae9 h _ b.1,ae9 h _ b.2⟩
 | ins c l=>unfold mT at b ⊢;exact ae9 h _ b
def TabsH.keepF (h:TabsH T H)(k:∀ b o,(cp3 o=cn\/∃ ps,o=.tbl ps)->H b=aT o->H' b=aT o):TabsH T H':=λ y hy=>by
 obtain⟨ps,e,t,c⟩:=h y hy;refine⟨ps,k _ _ (.inr ⟨_,rfl⟩) e,t,λ pos J q=>?_⟩;obtain⟨G,e1,e2⟩:=c pos J q;exact⟨G,e1,k _ _ (.inl rfl) e2⟩
theorem Rp.new (r:Rp Γ C H s)(J:H p=bY)(hb:o.bnd s.length=cn)
  (ho:∀ C' H',Gw C s.length H C' H'->H' p=aT u->RO Γ C' H' p o):Gr C s H (λ i=>if i=s.length then p else C i) (s++[o]) (upd H p u)/\Rp Γ (λ i=>if i=s.length then p else C i) (upd H p u) (s++[o]):=by
 have g:Gw C s.length H (λ i=>if i=s.length then p else C i) (upd H p u):=⟨λ i y=>gn (aD y),(Kp.refl H).new J⟩
 have key:∀ i G,(s++[o])[i]?=aT G->(i<s.length/\s[i]?=aT G)\/(i=s.length/\G=o):=λ i G e=>by
  rcases gh i s.length with h|h|h
  .rw[ax h]at e;exact .inl ⟨h,e⟩
  .subst h;simp at e;exact .inr ⟨rfl,e.symm⟩
  .rw[bn (by simp;lia)]at e;cases e
 refine⟨⟨g,by simp,λ i h1 h2=>?_,λ i o1 o2 e1 e2=>?_,λ b hb=>?_,λ b ob hb _ _=>by rw[zr (zV hb J)];exact hb⟩,λ i j oi Z Y ej mi mj e=>?_,λ i G e=>?_,λ i G e=>?_,r.tab.new J⟩
 .rw[aN,c5]at h2;rw[gc (by lia)];exact J
 .grind
 .unfold upd;split
  .simp
  .exact hb
 .rcases key i oi Y with⟨y,Y⟩|⟨y,rfl⟩<;>rcases key j Z ej with⟨hj,ej⟩|⟨hj,ej'⟩
  .rw[gn (aD y),gn (aD hj)]at e;exact r.inj i j oi Z Y ej mi mj e
  .rw[gn (aD y),gc hj]at e;obtain⟨u,hu,_,_⟩:=(r.obj i oi Y).there mi;lia
  .rw[gn (aD hj),gc y]at e;obtain⟨u,hu,_,_⟩:=(r.obj j Z ej).there mj;lia
  .rw[y,hj]
 .rcases key i G e with⟨y,e⟩|⟨y,rfl⟩
  .show RO Γ _ _ (if i=s.length then p else C i) G;rw[gn (aD y)];exact(r.obj i G e).mono g (r.wf i G e) λ _ v hv=>by rw[zr (zV hv J)];exact hv
  .show RO Γ _ _ (if i=s.length then p else C i) G;rw[gc y];exact ho _ _ g zu
 .rw[aN,c5];rcases key i G e with⟨y,e⟩|⟨y,rfl⟩
  .exact ja (dX _) _ (r.wf i G e)
  .exact ja (dX _) _ hb
theorem Rp.set (r:Rp Γ C H s)(hk:s[k]?=aT G)(Z:isMut G=cn)(hb:o.bnd s.length=cn)
  (ho:∀ H',Gw C s.length H C H'->H' (C k)=aT u->RO Γ C H' (C k) o) (a0:autoParam (okd o=okd G) Zq4._auto_1):Gr C s H C (s.set k o) (upd H (C k) u)/\Rp Γ C (upd H (C k) u) (s.set k o):=by
 obtain⟨v0,Y,f0,a2⟩:=(r.obj k G hk).there Z;have a1:=(ab.mp hk).1;have g:Gw C s.length H C (upd H (C k) u):=⟨λ _ _=>rfl,(Kp.refl H).put Y f0⟩
 have key:∀ i y,(s.set k o)[i]?=aT y->(i≠k/\s[i]?=aT y)\/(i=k/\y=o):=λ i y e=>by
  by_cases h:i=k
  .subst h;rw[a7 a1]at e;exact .inr ⟨rfl,(aq e).symm⟩
  .rw[bq (cg h)]at e;exact .inl ⟨h,e⟩
 have mm:∀ i y,(s.set k o)[i]?=aT y->isMut y=cn->∃ J,s[i]?=aT J/\isMut J=true:=λ i y e m=>by
  rcases key i y e with⟨_,e⟩|⟨h,_⟩
  .exact⟨y,e,m⟩
  .exact⟨G,by rw[h];exact hk,Z⟩
 refine⟨⟨g,by simp,λ i h1 h2=>by grind,λ i o1 o2 e1 e2=>?_,λ b hb=>?_,λ b ob hb nt ne=>by rw[zr (cg (ne k G hk Z))];exact hb⟩,λ i j oi oj ei ej mi mj e=>?_,λ i y e=>?_,λ i y e=>?_,r.tab.keepF λ b v hv q=>?_⟩
 .rcases key i o2 e2 with⟨_,e⟩|⟨h,rfl⟩
  .rw[e1]at e;cases e;rfl
  .subst h;rw[hk]at e1;cases e1;exact a0
 .unfold upd;split
  .simp
  .exact hb
 .obtain⟨o1,e1,m1⟩:=mm i oi ei mi;obtain⟨o2,e2,m2⟩:=mm j oj ej mj;exact r.inj i j o1 o2 e1 e2 m1 m2 e
 .rcases key i y e with⟨h,e⟩|⟨h,rfl⟩
  .refine(r.obj i y e).mono g (r.wf i y e) λ m v hv=>?_;rw[zr λ z=>h (r.inj i k y G e hk m Z z)];exact hv
  .subst h;exact ho _ g zu
 .rw[bE];rcases key i y e with⟨_,e⟩|⟨_,rfl⟩
  .exact r.wf i y e
  .exact hb
 .rw[zr λ z=>by
   simp_all]
  exact q
theorem Rp.same (r:Rp Γ C H s)(e:ak4 H H'):Gr C s H C s H'/\Rp Γ C H' s:=by
 have g:Gw C s.length H C H':=⟨λ _ _=>rfl,λ b o h _=>e b o h⟩
 exact⟨⟨g,ai _,λ i G y=>iF y (by omega),λ i o J e e'=>by lia,λ b hb=>by
  cases q:H b with
  | none=>lia
  | some o=>rw[e b o q];simp,λ b o h _ _=>e b o h⟩,r.inj,λ i o h=>(r.obj i o h).mono g (r.wf i o h) λ _ u hu=>e _ u hu,r.wf,r.tab.same e⟩
section
variable {C:Nat->Addr} {H:Hp} {s:mK} {Q:VK}
def aj2.alloc (h:aj2 Γ C s H (.ref s.length) (s++[.J l]) Q)(r:Rp Γ C H s)(hl:RVL Γ C H l y)(hb:mN s.length l=cn)(J:H p=bY):Q (.ref p) (upd H p (.J y)):=by
 obtain⟨g,G⟩:=r.new (o:=.J l) J hb λ C' H' g e=>⟨y,e,RVL.monoW g l y hb hl⟩
 have:=h (.ref p) _ _ g (by simp) (by unfold mR;simp) (by unfold RV;simp) G
 simp_all
def aj2.tup (h:aj2 Γ C s H (.tp l) s Q)(r:Rp Γ C H s)(hl:RVL Γ C H l y)(hb:mN s.length l=cn)(J:H p=bY):Q (.ref p) (upd H p (.tp y)):=by
 obtain⟨g,G⟩:=r.same ((ak4.refl H).new J);exact h _ _ _ g (ai _) (by unfold mR;exact hb) (RV.tupI zu (RVL.mono g l y hb hl)) G
def aj2.put (h:aj2 Γ C s H d (s.set k (.J l)) Q)(r:Rp Γ C H s)(hk:s[k]?=aT (.J l0))(hl:RVL Γ C H l y)(hb:mN s.length l=cn)
  (hd:d.bnd s.length=cn) (hv:RV Γ C H d v):Q v (upd H (C k) (.J y)):=by
 obtain⟨g,G⟩:=r.set (o:=.J l) hk rfl hb λ H' g e=>⟨y,e,RVL.monoW g l y hb hl⟩
 exact h _ _ _ g (by simp) (by rw[bE];exact hd) (RV.mono g d v hd hv) G
end
variable {Γ:Gm}
def keyOf_inj (ha:bl5 a=aT k)(hb:bl5 b=aT k):a=b:=by
 cases a with
 | int i =>
  cases ha;cases b with
  | int j=>cases hb;rfl
  | str y=>cases hb
  | _=>cases hb
 | str x =>
  cases ha;cases b with
  | int j=>cases hb
  | str y =>
   have h:=aq hb;lia
  | _=>cases hb
 | _=>cases ha
def as4 (h:d.key=cn):∃ k,bl5 d=aT k:=by
 cases d with
 | int i=>exact⟨_,rfl⟩
 | str x=>exact⟨_,rfl⟩
 | _=>cases h
def aW9 (h:bl5 d=aT k)(r:RV Γ C H d v):v=kV k:=by
 cases d with
 | int i=>cases h;exact r.intE
 | str x=>cases h;exact r.strE
 | _=>cases h
def co1 {κ:Type}(kf:mM->Option κ):Prop:=∀ {a b} {k},kf a=aT k->kf b=aT k->a=b
section
variable {κ:Type} [DecidableEq κ] {kf:mM->Option κ}
theorem RVD.val (J:co1 kf)(hk:kf d=aT k):∀ {l} {y},RVD kf Γ C H l y->(nD d l=bY/\be8 y k=bY)\/∃ e v,nD d l=aT e/\be8 y k=aT v/\RV Γ C H e v/\e∈l.map (·.2)
 | [],y,h=>by
  have h:=h;subst h;exact .inl ⟨rfl,rfl⟩
 | (a,e)::l,y,h=>by
  obtain⟨G,v,r,rfl,e2,Y,Z⟩:=h;by_cases z:a=d
  .subst z;rw[hk]at e2;cases e2;exact .inr ⟨e,v,by unfold nD;rw[gc rfl],ar3 rfl,Y,by simp⟩
  .have zk:¬ G=k:=λ q=>z (J e2 (by rw[q];exact hk));have e5:nD d ((a,e)::l)=nD d l:=by
    conv=>lhs;unfold nD
    rw[gn z]
   rw[e5,ar6 (zk)];rcases RVD.val J hk Z with q|⟨e',v',q1,q2,q3,q4⟩
   .exact .inl q
   .exact .inr ⟨e',v',q1,q2,q3,by simp at q4 ⊢;exact .inr q4⟩
theorem RVD.repl (G:co1 kf)(hk:kf d=aT k)(hv:RV Γ C H e v):∀ {l} {y},RVD kf Γ C H l y->RVD kf Γ C H (l.map λ p=>if p.1=d then(p.1,e)else p) (y.map λ J=>if J.1=k then(J.1,v)else J)
 | [],y,h=>by
  have h:=h;subst h;exact(rfl)
 | (a,e0)::l,y,h=>by
  obtain⟨Z,v0,r,rfl,e2,e3,Y⟩:=h;rw[aJ,aJ];by_cases z:a=d
  .subst z;rw[hk]at e2;cases e2;rw[gc rfl,gc rfl];exact⟨k,v,_,rfl,hk,hv,RVD.repl G hk hv Y⟩
  .have zk:¬ Z=k:=λ q=>z (G e2 (by rw[q];exact hk));rw[gn z,gn zk];exact⟨Z,v0,_,rfl,e2,e3,RVD.repl G hk hv Y⟩
theorem RVD.snoc (Z:co1 kf)(hk:kf d=aT k)(hv:RV Γ C H e v):∀ {l} {y},RVD kf Γ C H l y->RVD kf Γ C H (l++[(d,e)]) (y++[(k,v)])
 | [],y,h=>by
  have h:=h;subst h;exact⟨k,v,[],rfl,hk,hv,rfl⟩
 | (a,e0)::l,y,h=>by
  refine wl λ _ kk=>?_;obtain⟨Y,v0,r,rfl,e2,G,J⟩:=h;exact kk ⟨Y,v0,_,rfl,e2,G,RVD.snoc Z hk hv J⟩
def RVD.put (J:co1 kf)(hk:kf d=aT k)(hv:RV Γ C H e v)(h:RVD kf Γ C H l y):RVD kf Γ C H (nA d e l) (aN1 y k v):=by
 unfold nA aN1;rw[aE7];rcases h.val J hk with⟨G,q2⟩|⟨e',v',G,q2,_⟩
 .rw[G,q2];exact h.snoc J hk hv
 .rw[G,q2];exact h.repl J hk hv
theorem RVD.get :∀ {l} {y} {i:Nat} {d e},RVD kf Γ C H l y->l[i]?=aT (d,e)->∃ k v,y[i]?=aT (k,v)/\kf d=aT k/\RV Γ C H e v
 | [],_,_,_,_,_,h=>by cases h
 | (a,b)::l,y,0,d,e,h,q=>by
  obtain⟨k,v,r,rfl,e2,G,J⟩:=h
  grind
 | (a,b)::l,y,i+1,d,e,h,q=>by
  refine wl λ _ kk=>?_;obtain⟨k,v,r,rfl,e2,G,J⟩:=h;exact kk $ RVD.get (i:=i) J (q)
theorem RVD.keys :∀ {l} {y},RVD kf Γ C H l y->∀ kv∈y,∃ d,kf d=aT kv.1
 | [],y,h,kv,hk=>by
  have h:=h;subst h;cases hk
 | (a,b)::l,y,h,kv,hk=>by
  obtain⟨k,v,r,rfl,e2,J,G⟩:=h;rcases aL.mp hk with z|z
  .subst z;exact⟨a,e2⟩
  .exact RVD.keys G kv z
theorem RVD.length :∀ {l} {y},RVD kf Γ C H l y->y.length=l.length
 | [],y,h=>by
  have h:=h;subst h;rfl
 | (a,e)::l,y,h=>by
  obtain⟨Y,v,r,rfl,e2,J,G⟩:=h;rw[aQ,aQ,RVD.length G]
end
def bA5 (h:(DV.O.dc l).bnd n=cn)(hd:d.bnd n=cn)(J:e.bnd n=cn):(DV.O.dc (nA d e l)).bnd n=true:=by
 unfold mT at h ⊢;rw[aw]at h ⊢;obtain⟨Y,Z⟩:=h;have g1:=ad8.mp Y;have G:=ad8.mp Z;unfold nA;refine⟨ad8.mpr λ x hx=>?_,ad8.mpr λ x hx=>?_⟩
 .obtain⟨p,y,rfl⟩:=au.mp hx;split at y
  .obtain⟨q,hq,rfl⟩:=au.mp y;split
   .exact g1 _ (bo (f:=(·.1)) hq)
   .exact g1 _ (bo hq)
  .rcases bN.mp y with q|q
   .exact g1 _ (bo q)
   .rw[bv.mp q];exact hd
 .obtain⟨p,y,rfl⟩:=au.mp hx;split at y
  .obtain⟨q,hq,rfl⟩:=au.mp y;split
   .exact J
   .exact G _ (bo hq)
  .rcases bN.mp y with q|q
   .exact G _ (bo q)
   .rw[bv.mp q];exact J
def as8 (h:m8 f (a::l) (b::m)=aT z):∃ x y,f a b=aT x/\m8 f l m=aT y/\z=(x&&y):=by
 unfold m8 at h;cases e1:f a b with
 | none=>rw[e1]at h;cases h
 | some x =>
  cases e2:m8 f l m with
  | none=>rw[e1,e2]at h;cases h
  | some y=>rw[e1,e2]at h;exact⟨x,y,rfl,rfl,(aq h).symm⟩
theorem bl1 :∀ {l m} {z},m8 f l m=aT z->∃ e,(∀ j d d',l[j]?=aT d->m[j]?=aT d'->f d d'=aT (e j))/\((l.length==m.length)&&(ae (min l.length m.length)).all e)=z
 | [],[],z,h=>by
  unfold m8 at h
  simp_all
 | [],b::m,z,h=>by
  unfold m8 at h
  simp_all
 | a::l,[],z,h=>by
  unfold m8 at h
  simp_all
 | a::l,b::m,z,h=>by
  refine wl λ _ kk=>?_;obtain⟨x,y,e1,e2,Z⟩:=as8 h;obtain⟨e,Y,G⟩:=bl1 e2;refine kk ⟨λ j=>match j with|0=>x|j+1=>e j,λ j d d' g1 J=>?_,?_⟩
  .cases j with
   | zero=>simp at g1 J;subst g1;subst J;exact e1
   | succ j=>exact Y j d d' (by simpa using g1) (by simpa using J)
  .rw[aQ,aQ,show min (l.length+1) (m.length+1)=min l.length m.length+1 by lia,eV,cA,List.all_map,Z,<-G]
   grind
section
variable {X:Cx} {pins:yA} {W:St} {H:Hp} {sh:ah} {C:Nat->Addr} {s:mK}
def ax1 (I:Inv X pins W H sh)(h:H a=aT (.J y))(h':SqT X.K H a ys):False:=by
 rcases h' with(z|⟨o,z⟩)|⟨o,its,n,hk,_⟩
 .lia
 .lia
 .have:=(I.bs a o (I.mod.kin a o hk)).2;lia
def rv_two (I:Inv X pins W H sh)(hK:X.K=Γ.K)(R:Rp Γ C H s)(J:RV Γ C H a x)(y:RV Γ C H b x)(n1:nh s a≠9)(n2:nh s b≠9):a=b\/∃ l m p Y,a=.tp l/\b=.tp m/\x=.ref p/\RVL Γ C H l Y/\RVL Γ C H m Y:=by
 have G:∀ {r:Nat},nh s (.ref r)≠9->∃ l,s[r]?=aT (.J l):=λ {r} h=>by
  have h:(match s[r]? with|some (DV.O.J l)=>4|_=>9:Nat)≠9:=h;cases hs:s[r]? with
  | none=>rw[hs]at h;exact iF rfl h
  | some o =>
   rw[hs]at h;cases o with
   | J l=>exact⟨l,rfl⟩
   | _=>exact iF rfl h
 cases a with
 | N=>have e:=J.nonE;subst e;cases b with
  | N=>exact .inl rfl
  | T _=>cases y.blE
  | int _=>cases y.intE
  | str _=>cases y.strE
  | tp _=>obtain⟨_,_,e,_⟩:=y.tupE;cases e
  | ref _=>cases y.refE
  | fn _=>exact iF rfl n2
  | clo _ _=>exact iF rfl n2
 | T p=>have e:=J.blE;subst e;cases b with
  | N=>cases y.nonE
  | T _=>cases y.blE;exact .inl rfl
  | int _=>cases y.intE
  | str _=>cases y.strE
  | tp _=>obtain⟨_,_,e,_⟩:=y.tupE;cases e
  | ref _=>cases y.refE
  | fn _=>exact iF rfl n2
  | clo _ _=>exact iF rfl n2
 | int p=>have e:=J.intE;subst e;cases b with
  | N=>cases y.nonE
  | T _=>cases y.blE
  | int _=>cases y.intE;exact .inl rfl
  | str _=>cases y.strE
  | tp _=>obtain⟨_,_,e,_⟩:=y.tupE;cases e
  | ref _=>cases y.refE
  | fn _=>exact iF rfl n2
  | clo _ _=>exact iF rfl n2
 | str p=>have e:=J.strE;subst e;cases b with
  | N=>cases y.nonE
  | T _=>cases y.blE
  | int _=>cases y.intE
  | str q =>
   have e':p.toArray=q.toArray:=Str.mk.inj (V.str.inj y.strE);have a0:p=q:=by simpa using congrArg kI e'
   subst a0;exact .inl rfl
  | tp _=>obtain⟨_,_,e,_⟩:=y.tupE;cases e
  | ref _=>cases y.refE
  | fn _=>exact iF rfl n2
  | clo _ _=>exact iF rfl n2
 | tp l =>
  obtain⟨p,Y,e,Z,d1⟩:=J.tupE;subst e;cases b with
  | N=>cases y.nonE
  | T _=>cases y.blE
  | int _=>cases y.intE
  | str _=>cases y.strE
  | tp m =>
   obtain⟨p',ys,e,q2,d2⟩:=y.tupE;cases e;rw[<-hK]at Z q2;rw[I.tuple_inj q2 Z]at d2;exact .inr ⟨l,m,p,Y,rfl,rfl,rfl,d1,d2⟩
  | ref r =>
   cases y.refE;obtain⟨m,hm⟩:=G n2;obtain⟨ys,hy,_⟩:=R.addr hm;rw[<-hK]at Z;exact(ax1 I hy Z).elim
  | fn _=>exact iF rfl n2
  | clo _ _=>exact iF rfl n2
 | ref r =>
  have e:=J.refE;subst e;obtain⟨l,hl⟩:=G n1;obtain⟨Y,hx,_⟩:=R.addr hl;cases b with
  | N=>cases y.nonE
  | T _=>cases y.blE
  | int _=>cases y.intE
  | str _=>cases y.strE
  | tp m =>
   refine wl λ _ kk=>?_;obtain⟨p',ys,e,q2,d2⟩:=y.tupE;cases e;rw[<-hK]at q2;exact kk $ (ax1 I hx q2).elim
  | ref r' =>
   obtain⟨m,hm⟩:=G n2;have e:C r=C r':=V.ref.inj y.refE;rw[R.inj r r' _ _ hl hm rfl rfl e];exact .inl rfl
  | fn _=>exact iF rfl n2
  | clo _ _=>exact iF rfl n2
 | fn _=>exact iF rfl n1
 | clo _ _=>exact iF rfl n1
def jS (h:nj s a b=aT z):oA a b=aT z\/(oA a b=bY/\nX (nh s a) (nh s b)=dt/\z=dt):=by
 unfold nj at h;cases e:oA a b with
 | some w=>rw[e]at h;exact .inl h
 | none =>
  rw[e]at h;cases q:nX (nh s a) (nh s b)with
  | true=>rw[q]at h;cases h
  | false=>rw[q]at h;exact .inr ⟨rfl,rfl,(aq h).symm⟩
def bx3 (h:oA a b=aT z):nh s a≠9/\nh s b≠9:=by
 cases a<;>cases b<;>first|(cases h;done)|(constructor<;>(intro z;cases z))
def an3 (h:nj s a b=aT z):nh s a≠9/\nh s b≠9:=by
 rcases jS h with h|⟨_,h,_⟩
 .exact bx3 h
 .unfold nX at h;lia
def aS2 (h:nj s a a=aT z):z=true:=by
 rcases jS h with h|⟨_,h,_⟩
 .cases a<;>cases h<;>first|rfl|exact beq_self_eq_true _
 .unfold nX at h;simp at h
set_option tactic.hygienic true in
def aX2 (I:Inv X pins W H sh)(hK:X.K=Γ.K)(R:Rp Γ C H s):∀ n   a b   x   z ,mV s n a b=aT z->RV Γ C H a x->RV Γ C H b x->z=true:=by
 have J:∀ a b   x   z ,nj s a b=aT z->RV Γ C H a x->RV Γ C H b x->z=true:=by
  intro a b x z h y G;rcases rv_two I hK R y G (an3 h).1 (an3 h).2 with e|⟨l,m,_,_,rfl,rfl,_⟩
  .subst e;exact aS2 h
  .rcases jS h with h|⟨_,h,_⟩
   .cases h
   .unfold nX at h;simp[nh]at h
 intro n
 induction n with
 | zero=>intro a b x z h;unfold mV at h;exact J a b x z h
 | succ n ih =>
  have a1:∀ l m   Y   z ,m8 (mV s n) l m=aT z->RVL Γ C H l Y->RVL Γ C H m Y->z=true:=by
   intro l
   induction l with
   | nil =>
    intro m Y z h y G;cases m with
    | nil=>unfold m8 at h;exact(aq h).symm
    | cons b m=>obtain⟨x,r,e,_⟩:=G.uncons;rw[y.unnil]at e;cases e
   | cons a l ihl =>
    intro m Y z h y G;cases m with
    | nil=>obtain⟨x,r,e,_⟩:=y.uncons;rw[G.unnil]at e;cases e
    | cons b m =>
     obtain⟨p,q,e1,e2,ez⟩:=as8 h;obtain⟨v,r,rfl,g1,g2⟩:=y.uncons;obtain⟨v',r',e,g3,g4⟩:=G.uncons;cases e;rw[ez,ih a b v p e1 g1 g3,ihl m r q e2 g2 g4];rfl
  intro a b x z h y G;unfold mV at h;split at h
  .rename_i l m;obtain⟨a,Y,rfl,q1,d1⟩:=y.tupE;obtain⟨b,ys,e,q2,Z⟩:=G.tupE;cases e;rw[<-hK]at q1 q2;rw[I.tuple_inj q2 q1]at Z;exact a1 l m Y z h d1 Z
  .rename_i p q;split at h
   .rename_i l m hl hm;obtain⟨Y,e1,d1⟩:=R.addr hl;obtain⟨ys,e2,Z⟩:=R.addr hm;have e:=y.refE.symm.trans G.refE;have e':=V.ref.inj e;rw[e',e2]at e1;have e3:=by injection (aq e1)
    subst e3;split at h
    .exact a1 l m ys z h d1 Z
    .rename_i a0;exact iF (d1.length.symm.trans Z.length) a0
   .cases h
  .exact J a b x z h y G
end
variable {Γ:Gm}
inductive Vw (sh:ah):Nat->Value->Prop where
 | N:Vw sh 0 .none
 | T (b:Bool):Vw sh 1 (.bool b)
 | int (i:Int) (t:Tok):Vw sh 1 (.int i t)
 | str (x:Str) (t:Tok):Vw sh 2 (.str x t)
 | tp {l:Addr} {items:yJ} (h:sh.heap.IsTuple l items):Vw sh 3 (.ref l)
 | J {l:Addr} {items:yJ} (h:sh.heap.IsList l items):Vw sh 4 (.ref l)
def Vw.eq (a:Vw sh k u)(b:Vw sh y v)(hne:k≠y)(hu:A.units<cLine):g9 A sh u v false:=by
 cases a with
 | N=>cases b with
  | N=>simp_all
  | T b=>exact SeqAt.EqAt.none_bool b
  | int i t=>exact iW i t
  | str x t=>exact iX x t
  | tp h=>exact SeqAt.EqAt.none_tuple h hu
  | J h=>exact SeqAt.EqAt.none_list h hu
 | T a=>cases b with
  | N=>exact SeqAt.EqAt.bool_none a
  | T b=>simp_all
  | int i t=>simp_all
  | str x t=>exact SeqAt.EqAt.bool_str a x t
  | tp h=>exact SeqAt.EqAt.bool_tuple a h hu
  | J h=>exact SeqAt.EqAt.bool_list a h hu
 | int a q=>cases b with
  | N=>exact iY a q
  | T b=>simp_all
  | int i t=>simp_all
  | str x t=>exact kn a q x t
  | tp h=>exact SeqAt.EqAt.int_tuple a q h hu
  | J h=>exact SeqAt.EqAt.int_list a q h hu
 | str a q=>cases b with
  | N=>exact iZ a q
  | T b=>exact SeqAt.EqAt.str_bool a q b
  | int i t=>exact ko a q i t
  | str x t=>simp_all
  | tp h=>exact SeqAt.EqAt.str_tuple a q h hu
  | J h=>exact SeqAt.EqAt.str_list a q h hu
 | tp g=>cases b with
  | N=>exact SeqAt.EqAt.tuple_none g hu
  | T b=>exact SeqAt.EqAt.tuple_bool b g hu
  | int i t=>exact SeqAt.EqAt.tuple_int i t g hu
  | str x t=>exact SeqAt.EqAt.tuple_str x t g hu
  | tp h=>simp_all
  | J h=>exact SeqAt.EqAt.tuple_list g h hu
 | J g=>cases b with
  | N=>exact SeqAt.EqAt.list_none g hu
  | T b=>exact SeqAt.EqAt.list_bool b g hu
  | int i t=>exact SeqAt.EqAt.list_int i t g hu
  | str x t=>exact SeqAt.EqAt.list_str x t g hu
  | tp h=>exact SeqAt.EqAt.list_tuple g h hu
  | J h=>simp_all
def Vw.rc (a:Vw sh k u)(b:Vw sh y v)(hne:k≠y)(hu:A.units<cLine):mJ A sh u v false:=by
 cases a with
 | N=>cases b with
  | N=>simp_all
  | T b=>exact SeqAt.RcAt.none_bool b
  | int i t=>exact SeqAt.RcAt.none_int i t
  | str x t=>exact SeqAt.RcAt.none_str x t
  | tp h=>exact SeqAt.RcAt.none_tuple h hu
  | J h=>exact SeqAt.RcAt.none_list h hu
 | T a=>cases b with
  | N=>exact SeqAt.RcAt.bool_none a
  | T b=>simp_all
  | int i t=>simp_all
  | str x t=>exact SeqAt.RcAt.bool_str a x t
  | tp h=>exact SeqAt.RcAt.bool_tuple a h hu
  | J h=>exact SeqAt.RcAt.bool_list a h hu
 | int a q=>cases b with
  | N=>exact SeqAt.RcAt.int_none a q
  | T b=>simp_all
  | int i t=>simp_all
  | str x t=>exact SeqAt.RcAt.int_str a q x t
  | tp h=>exact SeqAt.RcAt.int_tuple a q h hu
  | J h=>exact SeqAt.RcAt.int_list a q h hu
 | str a q=>cases b with
  | N=>exact SeqAt.RcAt.str_none a q
  | T b=>exact SeqAt.RcAt.str_bool a q b
  | int i t=>exact SeqAt.RcAt.str_int a q i t
  | str x t=>simp_all
  | tp h=>exact SeqAt.RcAt.str_tuple a q h hu
  | J h=>exact SeqAt.RcAt.str_list a q h hu
 | tp g=>cases b with
  | N=>exact SeqAt.RcAt.tuple_none g hu
  | T b=>exact SeqAt.RcAt.tuple_bool b g hu
  | int i t=>exact SeqAt.RcAt.tuple_int i t g hu
  | str x t=>exact SeqAt.RcAt.tuple_str x t g hu
  | tp h=>simp_all
  | J h=>exact SeqAt.RcAt.tuple_list g h hu
 | J g=>cases b with
  | N=>exact SeqAt.RcAt.list_none g hu
  | T b=>exact SeqAt.RcAt.list_bool b g hu
  | int i t=>exact SeqAt.RcAt.list_int i t g hu
  | str x t=>exact SeqAt.RcAt.list_str x t g hu
  | tp h=>exact SeqAt.RcAt.list_tuple g h hu
  | J h=>simp_all
def Vw.ne (a:Vw sh k u)(b:Vw sh y v)(hne:k≠y)(hu:A.units<cLine):mf A sh u v true:=by
 cases a with
 | N=>cases b with
  | N=>simp_all
  | T b=>exact SeqAt.RcNeAt.none_bool b
  | int i t=>exact SeqAt.RcNeAt.none_int i t
  | str x t=>exact SeqAt.RcNeAt.none_str x t
  | tp h=>exact SeqAt.RcNeAt.none_tuple h hu
  | J h=>exact SeqAt.RcNeAt.none_list h hu
 | T a=>cases b with
  | N=>exact SeqAt.RcNeAt.bool_none a
  | T b=>simp_all
  | int i t=>simp_all
  | str x t=>exact SeqAt.RcNeAt.bool_str a x t
  | tp h=>exact SeqAt.RcNeAt.bool_tuple a h hu
  | J h=>exact SeqAt.RcNeAt.bool_list a h hu
 | int a q=>cases b with
  | N=>exact SeqAt.RcNeAt.int_none a q
  | T b=>simp_all
  | int i t=>simp_all
  | str x t=>exact SeqAt.RcNeAt.int_str a q x t
  | tp h=>exact SeqAt.RcNeAt.int_tuple a q h hu
  | J h=>exact SeqAt.RcNeAt.int_list a q h hu
 | str a q=>cases b with
  | N=>exact SeqAt.RcNeAt.str_none a q
  | T b=>exact SeqAt.RcNeAt.str_bool a q b
  | int i t=>exact SeqAt.RcNeAt.str_int a q i t
  | str x t=>simp_all
  | tp h=>exact SeqAt.RcNeAt.str_tuple a q h hu
  | J h=>exact SeqAt.RcNeAt.str_list a q h hu
 | tp g=>cases b with
  | N=>exact SeqAt.RcNeAt.tuple_none g hu
  | T b=>exact SeqAt.RcNeAt.tuple_bool b g hu
  | int i t=>exact SeqAt.RcNeAt.tuple_int i t g hu
  | str x t=>exact SeqAt.RcNeAt.tuple_str x t g hu
  | tp h=>simp_all
  | J h=>exact SeqAt.RcNeAt.tuple_list g h hu
 | J g=>cases b with
  | N=>exact SeqAt.RcNeAt.list_none g hu
  | T b=>exact SeqAt.RcNeAt.list_bool b g hu
  | int i t=>exact SeqAt.RcNeAt.list_int i t g hu
  | str x t=>exact SeqAt.RcNeAt.list_str x t g hu
  | tp h=>exact SeqAt.RcNeAt.list_tuple g h hu
  | J h=>simp_all
def ca5 (a b:List Nat):((⟨a.toArray⟩:Str)==⟨b.toArray⟩)=(a==b):=by
 lia
structure Cmp (A:aW)(sh:ah)(u v:Value)(z:Bool):Prop where
 rc:mJ A sh u v z
 ne:mf A sh u v (!z)
section
variable {X:Cx} {pins:yA} {W:St} {H:Hp} {sh:ah} {C:Nat->Addr} {s:mK}
def ch3 (I:Inv X pins W H sh)(G:X.K=Γ.K)(R:Rp Γ C H s)(h:RV Γ C H d x)(r:RelV x u)(hk:nh s d≠9):Vw sh (nh s d) u:=by
 cases d with
 | N=>have e:=h.nonE;subst e;cases r;exact .N
 | T b=>have e:=h.blE;subst e;cases r;exact .T b
 | int i=>have e:=h.intE;subst e;obtain⟨t,rfl⟩:=r;exact .int i t
 | str y=>have e:=h.strE;subst e;obtain⟨t,rfl⟩:=r;exact .str _ t
 | tp l =>
  obtain⟨a,J,e,q,_⟩:=h.tupE;subst e;cases r;rw[<-G]at q;obtain⟨its,_,t,_⟩:=I.tuple q;exact .tp t
 | ref n =>
  have e:=h.refE;subst e;cases r;have hk:(match s[n]? with|some (DV.O.J l)=>4|_=>9:Nat)≠9:=hk;show Vw sh (match s[n]? with|some (DV.O.J l)=>4|_=>9:Nat) _;cases hs:s[n]? with
  | none=>simp_all
  | some o =>
   rw[hs]at hk;cases o with
   | J l =>
    obtain⟨J,e,_⟩:=R.addr hs;obtain⟨its,_,t,_⟩:=I.list (SqL.of e);exact .J t.isList
   | _=>simp_all
 | fn _=>exact iF rfl hk
 | clo _ _=>exact iF rfl hk
def aK6 (I:Inv X pins W H sh)(hK:X.K=Γ.K)(R:Rp Γ C H s)(h:nj s a b=aT z)(G:RV Γ C H a x)(J:RV Γ C H b y)(r1:RelV x u)(Y:RelV y v)(hu:A.units<cLine) :
  g9 A sh u v z/\Cmp A sh u v z:=by
 rcases jS h with h|⟨_,hn,hz⟩
 .cases a<;>cases b<;>try cases h
  .cases G.nonE;cases J.nonE;cases r1;cases Y;exact⟨fk _,SeqAt.RcAt.none_none,SeqAt.RcNeAt.none_none⟩
  .cases G.blE;cases J.blE;cases r1;cases Y;exact⟨SeqAt.EqAt.bool_bool _ _,SeqAt.RcAt.bool_bool _ _,SeqAt.RcNeAt.bool_bool _ _⟩
  .cases G.blE;cases J.intE;cases r1;obtain⟨t',rfl⟩:=Y;exact⟨SeqAt.EqAt.bool_int _ _ _,SeqAt.RcAt.bool_int _ _ _,SeqAt.RcNeAt.bool_int _ _ _⟩
  .cases G.intE;cases J.blE;obtain⟨t,rfl⟩:=r1;cases Y;exact⟨SeqAt.EqAt.int_bool _ _ _,SeqAt.RcAt.int_bool _ _ _,SeqAt.RcNeAt.int_bool _ _ _⟩
  .cases G.intE;cases J.intE;obtain⟨t,rfl⟩:=r1;obtain⟨t',rfl⟩:=Y;exact⟨SeqAt.EqAt.int_int _ _ _ _,SeqAt.RcAt.int_int _ _ _ _,SeqAt.RcNeAt.int_int _ _ _ _⟩
  .cases G.strE;cases J.strE;obtain⟨t,rfl⟩:=r1;obtain⟨t',rfl⟩:=Y;rw[<-ca5];exact⟨SeqAt.EqAt.str_str _ _ _ _,SeqAt.RcAt.str_str _ _ _ _,SeqAt.RcNeAt.str_str _ _ _ _⟩
 .subst hz;unfold nX at hn;simp only[fi,beq_eq_false_iff_ne]at hn;have Z:=ch3 I hK R G r1 hn.1.1;have w2:=ch3 I hK R J Y hn.1.2;exact⟨Z.eq w2 hn.2 hu,Z.rc w2 hn.2 hu,Z.ne w2 hn.2 hu⟩
set_option tactic.hygienic true in
def bs8 (I:Inv X pins W H sh)(hK:X.K=Γ.K)(R:Rp Γ C H s):∀ n   a b   x y   u v   A   z ,mV s n a b=aT z->RV Γ C H a x->RV Γ C H b y->RelV x u->RelV y v->Room n A ->
  g9 A sh u v z/\Cmp A sh u v z:=by
 intro n
 induction n with
 | zero=>intro a b x y u v A z h h1 h2 r1 r2 J;unfold mV at h;exact aK6 I hK R h h1 h2 r1 r2 J.units0
 | succ n ih =>
  have G:∀ {l m:List mM} {xs ys:List V} {its its':yG} {A:aW} {e:Nat->Bool},RVL Γ C H l xs->RVL Γ C H m ys->Vals xs its->Vals ys its'->Room n A->(∀ j d d',l[j]?=aT d->m[j]?=aT d'->mV s n d d'=aT (e j)) ->
    ∀ j (h1:j<its.toArray.size) (h2:j<its'.toArray.size),g9 A sh its.toArray[j] its'.toArray[j] (e j):=by
   intro l m xs ys its its' A e d1 d2 v1 v2 J he j h1 h2;have l1:=v1.length;have l2:=v2.length;have e1:=d1.length;have e2:=d2.length;have a4:=by simpa using h1
   have a2:=by simpa using h2
   have hj:j<l.length:=by lia
   have a1:j<m.length:=by lia
   obtain⟨x,ex,dx⟩:=d1.get (ac hj);obtain⟨y,ey,dy⟩:=d2.get (ac a1);obtain⟨u,eu,ru⟩:=v1.get ex;obtain⟨w,ew,a3⟩:=v2.get ey;have g1:its.toArray[j]=u:=by
    have:=ac a4;rw[eu]at this;simpa using(aq this).symm
   have g2:its'.toArray[j]=w:=by
    have:=ac a2;rw[ew]at this;simpa using(aq this).symm
   rw[g1,g2];exact(ih _ _ x y u w A (e j) (he j _ _ (ac hj) (ac a1)) dx dy ru a3 J).1
  intro a b x y u v A z h h1 h2 r1 r2 J;have hz:=h;unfold mV at h;split at h
  .rename_i l m;obtain⟨p,xs,ex,q1,d1⟩:=id h1.tupE;obtain⟨q,ys,ey,q2,d2⟩:=id h2.tupE;subst ex;subst ey;cases r1;cases r2;rw[<-hK]at q1 q2;obtain⟨its,v1,t1,_⟩:=I.tuple q1;obtain⟨its',v2,t2,_⟩:=I.tuple q2;obtain⟨e,he,Z⟩:=bl1 h;have l1:=v1.length;have l2:=v2.length;have e1:=d1.length;have e2:=d2.length;have sz:((ae (min its.toArray.size its'.toArray.size)).all e&&its.toArray.size==its'.toArray.size)=z:=by
    rw[<-Z,Bool.and_comm,show its.toArray.size=l.length by simp;lia,show its'.toArray.size=m.length by simp;lia]
   have key:=SeqAt.RcAt.tuples (A:=A) (s:=sh) (e:=e) t1 t2 J.units0 (G d1 d2 v1 v2 J.in1 he);have Y:=SeqAt.RcNeAt.tuples (A:=A) (s:=sh) (e:=e) t1 t2 J.units0 (G d1 d2 v1 v2 J.in1 he);rw[sz]at key Y;refine⟨?_,key,Y⟩;by_cases hab:p=q
   .subst hab;rw[aX2 I hK R _ _ _ _ _ hz h1 h2];exact fk _
   .exact kE hab key
  .rename_i p q;split at h
   .rename_i l m hl hm;obtain⟨xs,e1,d1⟩:=R.addr hl;obtain⟨ys,e2,d2⟩:=R.addr hm;have ex:=h1.refE;have ey:=h2.refE;subst ex;subst ey;cases r1;cases r2;obtain⟨its,v1,t1,_⟩:=I.list (SqL.of e1);obtain⟨its',v2,t2,_⟩:=I.list (SqL.of e2);have l1:=v1.length;have l2:=v2.length;have c1:=d1.length;have c2:=d2.length;have fin:Cmp A sh (.ref (C p)) (.ref (C q)) z:=by
     split at h
     .rename_i a0;obtain⟨e,he,Z⟩:=bl1 h;have sz:(ae its.toArray.size).all e=z:=by
       rw[<-Z,show its.toArray.size=l.length by simp;omega,a0];simp
      have key:=SeqAt.RcAt.lists (A:=A) (s:=sh) (e:=e) t1.isList t2.isList (by simp;lia) J.units0 (G d1 d2 v1 v2 J.in1 he);have Y:=SeqAt.RcNeAt.lists (A:=A) (s:=sh) (e:=e) t1.isList t2.isList (by simp;omega) J.units0 (G d1 d2 v1 v2 J.in1 he);rw[sz]at key Y;exact⟨key,Y⟩
     .rename_i a0;cases h;have hs:(its.toArray.size != its'.toArray.size)=true:=by simp;lia
      exact⟨SeqAt.RcAt.lists_lengths t1.isList t2.isList hs J.units0,SeqAt.RcNeAt.lists_lengths t1.isList t2.isList hs J.units0⟩
    refine⟨?_,fin⟩;by_cases hab:C p=C q
    .rw[aX2 I hK R _ _ _ _ _ hz RV.refI (by rw[hab];exact RV.refI),hab];exact fk _
    .exact kE hab fin.rc
   .cases h
  .exact aK6 I hK R h h1 h2 r1 r2 J.units0
end
variable {Γ:Gm} {X:Cx}
noncomputable def cq9:oI->lA
 | .add=>.Add|.sub=>.Sub|.mul=>.Mult|.fdiv=>.FloorDiv|.mod=>.Mod|.pow=>.Pow|.shl=>.LShift|.shr=>.RShift|.band=>.BitAnd|.bor=>.BitOr
noncomputable def ay5:oa->CmpOp
 | .eq=>.Eq|.ne=>.NotEq|.lt=>.Lt|.le=>.LtE|.gt=>.Gt|.ge=>.GtE|.isin=>.In|.notin=>.NotIn
def rOp (Γ:Gm)(f:mM->mM->mK->mP mM):R2:=λ x y H Q=>∃ C s a b d s',Rp Γ C H s/\RV Γ C H a x/\RV Γ C H b y/\a.bnd s.length=cn/\b.bnd s.length=cn/\f a b s=.ok d s'/\aj2 Γ C s H d s' Q
def qU (h:oB d s=.ok e t):d=e/\s=t:=by
 unfold oB at h;lia
def jj (h:nO o s=.ok e t):e=.ref s.length/\t=s++[o]:=by
 unfold nO at h;lia
def bk1 (a b:List Nat):(⟨a.toArray⟩:Str)++⟨b.toArray⟩=⟨(a++b).toArray⟩:=by
 show Str.append _ _=_;unfold Str.append;simp
def qR:mU<=aR:=by rw[f6];decide
def bU0:OpR X (cF .Mult) (rI (λ i j=>DV.mulOk i j=cn) λ i j=>.int (i*j)):=opI λ i j _ _ _ _ _ hc q=>mul_int q (by
 unfold DV.mulOk at hc;simp only[bW,aw,iN]at hc;rcases hc with(h|h)|⟨G,y⟩
 .exact cp0.ok (.inl (by omega))
 .exact cp0.ok (.inr (by omega))
 .unfold DV.BIG at G y;exact IntMulOk.of_le (intBits_le_iff.mpr G) (intBits_le_iff.mpr y) (by decide))
theorem aW4  l :∀ n   h ,(ak n l.toArray).foldl (·++·) h=h++(m9 n l).toArray
 | 0,h=>by simp[m9]
 | n+1,h=>by
  rw[bQ,cq,aW4 l n];simp[m9]
def bJ8  l :m9 1 l=l:=by simp[m9]
theorem bo6:∀ n,m9 n []=[]
 | 0=>rfl
 | n+1=>by simp[m9,bo6 n]
theorem rep_len  l :∀ n,(m9 n l).length=l.length*n
 | 0=>by simp[m9]
 | n+1=>by simp[m9,rep_len l n,eK];lia
set_option tactic.hygienic true in
def bQ6:OpR X (cF .Mult) (λ x y H Q=>∃ l   n ,x=.str ⟨l.toArray⟩/\y=.int n/\(0<=n/\n<=1000000/\l.length*n.toNat<=mU)/\Q (.str ⟨(m9 n.toNat l).toArray⟩) H):=by
 intro Y s W H x y v u Q I rx ry h;obtain⟨l,n,rfl,rfl,⟨h0,Z,h2⟩,q⟩:=h;obtain⟨t,rfl⟩:=rx;obtain⟨t',rfl⟩:=ry;have G:(⟨l.toArray⟩:Str).length=l.length:=by show l.toArray.size=_;simp
 have hL:=qR;have a0:=ax4;refine SB.mul ⟨?_,λ hn _=>?_,λ hn _=>?_⟩ λ t2 k=>?_
 .rw[ij (by lia),ij (by lia)];rfl
 .rw[G];have J:1<=n:=by omega
  intro a1;have h3:(l.length:Int)*n<=1000000:=by
   have:=Int.ofNat_le.mpr h2;rw[dH,i8 h0]at this;have e:((mU:Nat):Int)=1000000:=by unfold mU;rfl
   lia
  have h4:=by
   have:(l.length:Int)*1<=(l.length:Int)*n:=dw J (by lia);omega
  have h5:(1000000:Int)<=(2^63 - 1) / n:=by
   rw[Int.le_ediv_iff_mul_le (by omega)];have:=dw Z (by omega);lia
  omega
 .rw[G];unfold lP;exact ij (by lia)
 .have e:Txt.mul ⟨l.toArray⟩ n=⟨(m9 n.toNat l).toArray⟩:=by
   unfold Txt.mul;split
   .have:n.toNat=0:=by lia
    rw[this];rfl
   .split
    .rename_i hc;rw[bW]at hc;rcases hc with hc|hc
     .have:n=1:=by simpa using hc
      subst this;show(⟨l.toArray⟩:Str)=⟨(m9 1 l).toArray⟩;rw[bJ8]
     .have:l=[]:=by
       have:=eq_of_beq hc;rw[G]at this;exact cy.mp this
      subst this;rw[bo6]
    .show(⟨(ak n.toNat l.toArray).foldl (·++·) #[]⟩:Str)=_;rw[aW4];simp
  rw[e];exact⟨.str _,H,I.tok _,⟨_,rfl⟩,q⟩
theorem au7 (h:mN n l=cn):∀ k,mN n (nH k l)=cn
 | 0=>rfl
 | k+1=>qI h (au7 h k)
theorem RVL.repD (h:RVL Γ C H l y):∀ k,RVL Γ C H (nH k l) (ay1 k y)
 | 0=>RVL.nil
 | k+1=>h.append (RVL.repD h k)
theorem aJ9 (h:List α):∀ k,ay1 k h=(ak k h).flatten
 | 0=>rfl
 | k+1=>by rw[bQ,db,<-aJ9 h k];rfl
set_option tactic.hygienic true in
def ch4 (hK:X.K=Γ.K) op :OpR X (cF (cq9 op)) (rOp Γ (DV.qZ op)):=by
 intro J s W H x y v u Q I Z ry h;obtain⟨C,st,a,b,d,a0,R,ha,hb,na,nb,G,q⟩:=h;cases op with
 | add =>
  cases a with
  | int a =>
   cases b with
   | int b =>
    skip
    obtain⟨rfl,rfl⟩:=qU G;have ex:=ha.intE;have Y:=hb.intE;subst ex;subst Y;exact ci6 J s W H _ _ v u Q I Z ry ⟨_,_,rfl,rfl,q.here R rfl RV.intI⟩
   | _=>exact fb G
  | str a =>
   cases b with
   | str b =>
    change(if _ then _ else _:n4 mM) st=_ at G;split at G
    .rename_i hl;obtain⟨rfl,rfl⟩:=qU G;have ex:=ha.strE;have Y:=hb.strE;subst ex;subst Y;refine aZ7 J s W H _ _ v u Q I Z ry ⟨_,_,rfl,rfl,?_,?_⟩
     .show a.toArray.size+b.toArray.size<=_;simp only[aA];exact am hl qR
     .rw[bk1];exact q.here R rfl (RV.strI (by simp_all))
    .exact fb G
   | _=>exact fb G
  | tp a =>
   cases b with
   | tp b =>
    change(if _ then _ else _:n4 mM) st=_ at G;split at G
    .rename_i hl;obtain⟨rfl,rfl⟩:=qU G;obtain⟨p,xs,⟨rfl,z1⟩,h1,d1⟩:=ha.tupZ;obtain⟨p',ys,⟨rfl,z2⟩,h2,d2⟩:=hb.tupZ;refine bU2 hK J s W H _ _ v u Q I Z ry ⟨p,p',xs,ys,rfl,rfl,h1,h2,?_,λ t H' e ht hn=>?_⟩
     .rw[d1.length,d2.length];exact am hl qR
     .obtain⟨g,r'⟩:=R.same e;unfold mR at na nb;refine q _ _ _ g (ai _) (by unfold mR;exact qI na nb) (RV.tupC ht (λ z=>?_) ((RVL.mono g _ _ na d1).append (RVL.mono g _ _ nb d2))) r';rcases hn with hn|⟨rfl,rfl⟩|⟨rfl,rfl⟩
      .exact hn
      .rw[d2.tonil,bu]at z;rw[bu];exact e _ _ (z1 z)
      .rw[d1.tonil]at z;exact e _ _ (z2 z)
    .exact fb G
   | _=>exact fb G
  | ref a =>
   cases b with
   | ref b =>
    change(match st[a]?,st[b]? with|some (DV.O.J l),aT (DV.O.J m)=>if l.length+m.length<=mU then nO (.J (l++m)) st else .B|_,_=>.B:mP mM)=_ at G;split at G
    .rename_i l m h1 h2;split at G
     .rename_i hl;refine wl λ _ kk=>?_;obtain⟨rfl,rfl⟩:=jj G;obtain⟨xs,e1,d1⟩:=R.addr h1;obtain⟨ys,e2,d2⟩:=R.addr h2;have ex:=ha.refE;have Y:=hb.refE;subst ex;subst Y;have b1:=R.wf _ _ h1;have b2:=R.wf _ _ h2;unfold mT at b1 b2;refine kk ?_;refine ce9 J s W H _ _ v u Q I Z ry ⟨C a,C b,xs,ys,rfl,rfl,e1,e2,?_,λ p hp=>?_⟩
      .rw[d1.length,d2.length];exact am hl qR
      .exact q.alloc R (d1.append d2) (qI b1 b2) hp
     .exact fb G
    .exact fb G
   | _=>exact fb G
  | _=>exact fb G
 | sub =>
  cases a with
  | int a =>
   cases b with
   | int b =>
    skip
    obtain⟨rfl,rfl⟩:=qU G;have ex:=ha.intE;have Y:=hb.intE;subst ex;subst Y;exact ca8 J s W H _ _ v u Q I Z ry ⟨_,_,rfl,rfl,q.here R rfl RV.intI⟩
   | _=>exact fb G
  | _=>exact fb G
 | mul =>
  cases a with
  | int a =>
   cases b with
   | int b =>
    change(if _ then _ else _:n4 mM) st=_ at G;split at G
    .rename_i hc;obtain⟨rfl,rfl⟩:=qU G;have ex:=ha.intE;have Y:=hb.intE;subst ex;subst Y;exact bU0 J s W H _ _ v u Q I Z ry ⟨_,_,rfl,rfl,hc,q.here R rfl RV.intI⟩
    .exact fb G
   | _=>exact fb G
  | str a =>
   cases b with
   | int b =>
    change(if _ then _ else _:n4 mM) st=_ at G;split at G
    .rename_i hc;obtain⟨rfl,rfl⟩:=qU G;have ex:=ha.strE;have Y:=hb.intE;subst ex;subst Y;exact bQ6 J s W H _ _ v u Q I Z ry ⟨_,_,rfl,rfl,hc,q.here R rfl (RV.strI (by rw[rep_len];exact hc.2.2))⟩
    .exact fb G
   | _=>exact fb G
  | tp a =>
   cases b with
   | int b =>
    change(if _ then _ else _:n4 mM) st=_ at G;split at G
    .rename_i hc;obtain⟨rfl,rfl⟩:=qU G;obtain⟨p,xs,⟨rfl,z1⟩,h1,d1⟩:=ha.tupZ;have Y:=hb.intE;subst Y;refine bP9 hK J s W H _ _ v u Q I Z ry ⟨p,xs,_,rfl,rfl,h1,⟨hc.1,hc.2.1,by rw[d1.length];exact hc.2.2⟩,λ t H' e ht hn=>?_⟩;obtain⟨g,r'⟩:=R.same e;unfold mR at na;refine q _ _ _ g (ai _) (by unfold mR;exact au7 na _) (RV.tupC ht (λ z=>?_) (RVL.repD (RVL.mono g _ _ na d1) _)) r';rcases hn with hn|⟨rfl,ex⟩
     .exact hn
     .rw[ex];exact e _ _ (z1 (bL5 z))
    .exact fb G
   | _=>exact fb G
  | ref a =>
   cases b with
   | int b =>
    change(match st[a]? with|some (DV.O.J l)=>if 0<=b/\b<=1000000/\l.length*b.toNat<=mU then nO (.J (nH b.toNat l)) st else .B|_=>.B:mP mM)=_ at G;split at G
    .rename_i l h1;split at G
     .rename_i hc;obtain⟨rfl,rfl⟩:=jj G;obtain⟨xs,e1,d1⟩:=R.addr h1;have ex:=ha.refE;have Y:=hb.intE;subst ex;subst Y;have b1:=R.wf _ _ h1;unfold mT at b1;refine ci5 J s W H _ _ v u Q I Z ry ⟨C a,b,xs,rfl,rfl,e1,by lia,by omega,?_,λ p hp=>?_⟩
      .rw[d1.length];exact am hc.2.2 qR
      .rw[<-aJ9];exact q.alloc R (RVL.repD d1 _) (au7 b1 _) hp
     .exact fb G
    .exact fb G
   | _=>exact fb G
  | _=>exact fb G
 | fdiv =>
  cases a with
  | int a =>
   cases b with
   | int b =>
    change(if _ then _ else _:n4 mM) st=_ at G;split at G
    .rename_i hc;obtain⟨rfl,rfl⟩:=qU G;have ex:=ha.intE;have Y:=hb.intE;subst ex;subst Y;refine bC9 J s W H _ _ v u Q I Z ry ⟨_,_,rfl,rfl,⟨hc.1,?_⟩,q.here R rfl RV.intI⟩;have:=hc.2;unfold DV.DIVL at this;simpa using this
    .exact fb G
   | _=>exact fb G
  | _=>exact fb G
 | mod =>
  cases a with
  | int a =>
   cases b with
   | int b =>
    change(if _ then _ else _:n4 mM) st=_ at G;split at G
    .rename_i hc;obtain⟨rfl,rfl⟩:=qU G;have ex:=ha.intE;have Y:=hb.intE;subst ex;subst Y;exact cg6 J s W H _ _ v u Q I Z ry ⟨_,_,rfl,rfl,hc,q.here R rfl RV.intI⟩
    .exact fb G
   | _=>exact fb G
  | _=>exact fb G
 | pow =>
  cases a with
  | int a =>
   cases b with
   | int b =>
    change(if _ then _ else _:n4 mM) st=_ at G;split at G
    .rename_i hc;obtain⟨rfl,rfl⟩:=qU G;have ex:=ha.intE;have Y:=hb.intE;subst ex;subst Y;exact ck8 J s W H _ _ v u Q I Z ry ⟨_,_,rfl,rfl,hc,q.here R rfl RV.intI⟩
    .exact fb G
   | _=>exact fb G
  | _=>exact fb G
 | shl =>
  cases a with
  | int a =>
   cases b with
   | int b =>
    change(if _ then _ else _:n4 mM) st=_ at G;split at G
    .rename_i hc;obtain⟨rfl,rfl⟩:=qU G;have ex:=ha.intE;have Y:=hb.intE;subst ex;subst Y;exact ch5 J s W H _ _ v u Q I Z ry ⟨_,_,rfl,rfl,hc,q.here R rfl RV.intI⟩
    .exact fb G
   | _=>exact fb G
  | _=>exact fb G
 | shr =>
  cases a with
  | int a =>
   cases b with
   | int b =>
    change(if _ then _ else _:n4 mM) st=_ at G;split at G
    .rename_i hc;obtain⟨rfl,rfl⟩:=qU G;have ex:=ha.intE;have Y:=hb.intE;subst ex;subst Y;exact cm5 J s W H _ _ v u Q I Z ry ⟨_,_,rfl,rfl,hc,q.here R rfl RV.intI⟩
    .exact fb G
   | _=>exact fb G
  | _=>exact fb G
 | band=>exact fb G
 | bor=>exact fb G
variable {Γ:Gm} {X:Cx} {pins:yA} {W:St} {H:Hp} {sh:ah} {C:Nat->Addr} {s:mK}
set_option tactic.hygienic true in
def aX8 (h:mV s n a b=aT z):nh s a≠9:=by
 cases n with
 | zero=>unfold mV at h;exact(an3 h).1
 | succ n =>
  unfold mV at h;split at h
  .simp[nh]
  .split at h
   .rename_i y _;simp[nh,y]
   .cases h
  .exact(an3 h).1
def bh5 (I:Inv X pins W H sh)(Y:X.K=Γ.K)(R:Rp Γ C H s):∀ n   a b c   x   p q ,RV Γ C H a x->RV Γ C H b x->mV s n a c=aT p->mV s n b c=aT q->p=q:=by
 intro n
 induction n with
 | zero =>
  intro a b c x p q y h e1 e2;rcases rv_two I Y R y h (aX8 e1) (aX8 e2)with e|⟨l,m,_,_,rfl,rfl,_⟩
  .subst e;rw[e1]at e2;exact aq e2
  .unfold mV at e1 e2;have:nj s (.tp l) c=nj s (.tp m) c:=by unfold nj;cases c<;>rfl
   rw[this,e2]at e1;exact(aq e1).symm
 | succ n ih =>
  have J:∀ l m k   G   p q ,RVL Γ C H l G->RVL Γ C H m G->m8 (mV s n) l k=aT p->m8 (mV s n) m k=aT q->p=q:=by
   intro l
   induction l with
   | nil =>
    intro m k G p q y h e1 e2;have:=y.unnil;subst this;have hm:=by have:=h.length;exact cy.mp this.symm
    subst hm;rw[e1]at e2;exact aq e2
   | cons a l ihl =>
    intro m k G p q y h e1 e2;obtain⟨x,r,rfl,g1,g2⟩:=y.uncons;cases m with
    | nil=>have:=h.unnil;cases this
    | cons b m =>
     obtain⟨x',r',e,g3,g4⟩:=h.uncons;cases e;cases k with
     | nil=>unfold m8 at e1 e2;rw[<-aq e1,<-aq e2]
     | cons c k =>
      obtain⟨p1,p2,a1,a2,a3⟩:=as8 e1;obtain⟨q1,q2,b1,b2,b3⟩:=as8 e2;rw[a3,b3,ih a b c x p1 q1 g1 g3 a1 b1,ihl m k r p2 q2 g2 g4 a2 b2]
  intro a b c x p q y h e1 e2;rcases rv_two I Y R y h (aX8 e1) (aX8 e2)with e|⟨l,m,_,G,rfl,rfl,_,d1,Z⟩
  .subst e;rw[e1]at e2;exact aq e2
  .cases c with
   | tp k=>unfold mV at e1 e2;exact J l m k G p q d1 Z e1 e2
   | _ =>
    unfold mV at e1 e2;simp only at e1 e2;have e3:nj s (.tp l)=nj s (.tp m):=by funext c;unfold nj;cases c<;>rfl
    rw[e3]at e1;exact aq (e1.symm.trans e2)
theorem bH0 :∀ {l} {z},nQ s x l=aT z->∃ e:Nat->Bool,(∀ j d,l[j]?=aT d->mV s mZ d x=aT (e j))/\(z=cn↔∃ j,j<l.length/\e j=cn)
 | [],z,h=>by
  unfold nQ at h
  simp_all
 | y::l,z,h=>by
  unfold nQ at h;cases e1:mV s mZ y x with
  | none=>simp_all
  | some a =>
   cases e2:nQ s x l with
   | none=>simp_all
   | some b =>
    rw[e1,e2]at h;obtain⟨e,G,J⟩:=bH0 e2;refine⟨λ j=>match j with|0=>a|j+1=>e j,λ j d g=>?_,?_⟩
    .cases j with
     | zero=>simp at g;subst g;exact e1
     | succ j=>exact G j d (by simpa using g)
    .have hz:=aq h;rw[<-hz,bW,J];constructor
     .rintro(q|⟨j,hj,q⟩)
      .exact⟨0,by simp,q⟩
      .exact⟨j+1,by simp_all,q⟩
     .rintro⟨j,hj,q⟩
      cases j with
      | zero=>exact .inl q
      | succ j=>exact .inr ⟨j,by simpa using hj,q⟩
def bH6 (I:Inv X pins W H sh)(hK:X.K=Γ.K)(R:Rp Γ C H s)(hx:RV Γ C H x xv)(rx:RelV xv Z){its:yG}(hl:RVL Γ C H l ys)(hv:Vals ys its)(h:nQ s x l=aT z)(hr:Room mZ A) :
  ∃ e:Value->Bool,(∀ y,y∈its.toArray->g9 A sh y Z (e y))/\its.toArray.any e=z:=by
 obtain⟨e,h1,h2⟩:=bH0 h;have len:its.length=l.length:=by rw[<-hv.length];exact hl.length
 have G:∀ j u,its[j]?=aT u->∃ d y,l[j]?=aT d/\ys[j]?=aT y/\RV Γ C H d y/\RelV y u:=λ j u g=>by
  have hj:j<l.length:=by rw[<-len];exact(ab.mp g).1
  refine wl λ _ kk=>?_;obtain⟨y,g1,g2⟩:=hl.get (ac hj);obtain⟨u',g3,Y⟩:=hv.get g1;rw[g]at g3;cases g3;exact kk ⟨_,y,ac hj,g1,g2,Y⟩
 classical
 let f:Value->Bool:=λ u=>decide (∃ j,its[j]?=aT u/\e j=cn)
 have hf:∀ j u,its[j]?=aT u->f u=e j:=λ j u g=>by
  obtain⟨d,y,g1,g2,g3,Y⟩:=G j u g;cases q:e j with
  | true=>exact gW ⟨j,g,q⟩
  | false =>
   refine ij λ⟨k,g',q'⟩=>?_;obtain⟨d',y',k1,k2,k3,k4⟩:=G k u g';have ey:y'=y:=k4.inj Y;subst ey;have:=bh5 I hK R _ d d' x _ _ _ g3 k3 (h1 j d g1) (h1 k d' k1);lia
 refine⟨f,λ u hu=>?_,?_⟩
 .obtain⟨j,hj,g⟩:=dh.mp (by simp_all:u∈its);have g':its[j]?=aT u:=by rw[ac hj,g]
  obtain⟨d,y,g1,g2,g3,Y⟩:=G j u g';rw[hf j u g'];exact(bs8 I hK R _ d x y xv u Z A _ (h1 j d g1) g3 hx Y rx hr).1
 .have e1:its.toArray.any f=cn↔z=true:=by
   rw[h2,List.any_toArray,k7];constructor
   .rintro⟨u,hu,q⟩
    obtain⟨j,hj,g⟩:=dh.mp hu;have g':its[j]?=aT u:=by rw[ac hj,g]
    exact⟨j,by lia,by rw[<-hf j u g'];exact q⟩
   .rintro⟨j,hj,q⟩
    have J:j<its.length:=by lia
    exact⟨its[j],gG J,by rw[hf j _ (ac J)];exact q⟩
  cases z<;>cases q:its.toArray.any f
  .rfl
  .have:=e1.mp q;cases this
  .rw[q]at e1;have:=e1.mpr rfl;cases this
  .rfl
variable {Γ:Gm} {X:Cx}
def aa1 {r:mP α}{b:β}{t:mK}(h:r.bind f=.ok b t):∃ a s,r=.ok a s/\f a s=.ok b t:=DV.R.bind_inv h
set_option tactic.hygienic true in
def bH4 (hK:X.K=Γ.K)(hr:Room (mZ+1) X.A)(neg:Bool){st :mK}
  (I:Inv X G W H sh) (Z:RelV x v) (ry:RelV y u) (R:Rp Γ C H st) (ha:RV Γ C H a x) (hb:RV Γ C H b y) (h:oC a b st=.ok z a2) :
  a2=st/\∀ Q:Value->ah->Prop,(∀ a0,Inv X G W H a0->Q (.bool (if neg then !z else z)) a0)->wpAny (model X.prog X.w) X.A (cH (if neg then .NotIn else .In) v u) Q X.xe sh:=by
 unfold oC at h;cases b with
 | tp l =>
  simp only at h;cases e:nQ st a l with
  | none=>rw[e]at h;cases h
  | some w =>
   rw[e]at h;cases h;obtain⟨p,ys,rfl,q,d⟩:=hb.tupE;cases ry;rw[<-hK]at q;obtain⟨its,rv,t,_⟩:=I.tuple q;obtain⟨f,Y,h2⟩:=bH6 I hK R ha Z d rv e (A:=X.A.in1) hr.in1;refine⟨rfl,λ Q hq=>?_⟩;cases neg with
   | false=>exact SeqAt.in_tupleAt f t Y (by rw[h2];exact hq _ I)
   | true=>exact SeqAt.notIn_tupleAt f t Y (by rw[h2];exact hq _ I)
 | str y0 =>
  simp only at h;split at h
  case h_2=>exact fb h
  rename_i c;cases h;refine⟨rfl,λ Q hq=>?_⟩;have e1:=ha.strE;have e2:=hb.strE;subst e1 e2;obtain⟨t1,rfl⟩:=Z;obtain⟨t2,rfl⟩:=ry;have a1:=l7 (⟨y0.toArray⟩:Str) c;cases neg with
  | false=>exact in_str (by simp_all)
  | true=>exact notIn_str (by simp_all)
 | ref r =>
  simp only at h;cases hs:st[r]? with
  | none=>rw[hs]at h;cases h
  | some o =>
   rw[hs]at h;cases o with
   | J l =>
    simp only at h;cases e:nQ st a l with
    | none=>rw[e]at h;cases h
    | some w =>
     rw[e]at h;cases h;obtain⟨ys,e1,d⟩:=R.addr hs;have ey:=hb.refE;subst ey;cases ry;obtain⟨its,rv,t,_⟩:=I.list (SqL.of e1);obtain⟨f,Y,h2⟩:=bH6 I hK R ha Z d rv e (A:=X.A.in1) hr.in1;refine⟨rfl,λ Q hq=>?_⟩;cases neg with
     | false=>exact SeqAt.in_listAt f t.isList Y (by rw[h2];exact hq _ I)
     | true=>exact SeqAt.notIn_listAt f t.isList Y (by rw[h2];exact hq _ I)
   | dc l =>
    simp only at h;split at h
    case isFalse=>exact fb h
    rename_i J;cases h;obtain⟨k,hk⟩:=as4 J;obtain⟨a3,e1,d⟩:=R.obj r _ hs;have ey:=hb.refE;subst ey;cases ry;have ex:=aW9 hk ha;subst ex;have ez:(nD a l).isSome=(be8 a3 k).isSome:=by
     rcases d.val keyOf_inj hk with⟨q1,q2⟩|⟨_,_,q1,q2,_⟩<;>rw[q1,q2]<;>rfl
    refine⟨rfl,λ Q hq=>?_⟩;rw[ez]at hq;cases neg with
    | false=>exact cB5 (aW8 hr) I (bv2.k e1) Z hq
    | true=>exact bL9 (aW8 hr) I (bv2.k e1) Z hq
   | ro l=>exact fb h
   | ins c l=>exact fb h
 | _=>exact fb h
def ca2 {st }(h:DV.qp .le a b st=.ok d y):∃ i j,a=.int i/\b=.int j:=by
 cases a with
 | int i =>
  (cases b with
  | int j=>exact⟨i,j,rfl,rfl⟩
  | _=>exact fb h)
 | _=>exact fb h
def aH0 (h:DV.bC1 a=aT (i,x)):a=.tp [.int i,.str x]:=by
 unfold DV.bC1 at h;split at h
 .cases h;rfl
 .cases h
set_option tactic.hygienic true in
def bv6 {st }(h:DV.cx4 f a b st=.ok d G):∃ i x j y,a=.tp [.int i,.str x]/\b=.tp [.int j,.str y]:=by
 unfold DV.cx4 at h;split at h
 .rename_i i x j y e1 e2;exact⟨i,x,j,y,aH0 e1,aH0 e2⟩
 .exact fb h
def ord_inv {st G:mK}(ho:op=.lt\/op=.gt\/op=.ge)(h:DV.qp op a b st=.ok d G):(∃ i j,a=.int i/\b=.int j)\/∃ i x j y,a=.tp [.int i,.str x]/\b=.tp [.int j,.str y]:=by
 rcases ho with rfl|rfl|rfl <;>
 (cases a with
 | int i =>
  (cases b with
  | int j=>exact .inl ⟨i,j,rfl,rfl⟩
  | _=>exact fb h)
 | tp l =>
  (cases b with
  | tp m=>first|exact .inr (bv6 h)|exact fb h
  | _=>exact fb h)
 | _=>exact fb h)
section
variable {pins:yA} {sh:ah} {W:St} {H:Hp} {C:Nat->Addr} {st:mK}
end
def bm2 (hK:X.K=Γ.K)(hr:Room (mZ+1) X.A) op :OpR X (cH (ay5 op)) (rOp Γ (DV.qp op)):=by
 intro J s W H x y v u Q I Z ry h;refine wl λ _ kk=>?_;obtain⟨C,st,a,b,d,Y,R,ha,hb,na,nb,G,q⟩:=h;refine kk ?_;cases op with
 | eq =>
  have G:DV.eqM a b st=.ok d Y:=G;unfold DV.eqM at G;cases e:mV st mZ a b with
  | none=>simp_all
  | some z =>
   rw[e]at G;cases G;exact(bs8 I hK R _ a b x y v u X.A z e ha hb Z ry (hr.mono (by lia))).2.rc X.prog X.w X.xe _ ⟨.T z,H,I,rfl,q.here R rfl RV.blI⟩
 | ne =>
  have G:(match mV st mZ a b with|some r=>.ok (.T (!r)) st|none=>.B:mP mM)=.ok d Y:=G;cases e:mV st mZ a b with
  | none=>simp_all
  | some z =>
   rw[e]at G;cases G;exact(bs8 I hK R _ a b x y v u X.A z e ha hb Z ry (hr.mono (by omega))).2.ne X.prog X.w X.xe _ ⟨.T (!z),H,I,rfl,q.here R rfl RV.blI⟩
 | lt =>
  rcases ord_inv (.inl rfl) G with⟨i,j,rfl,rfl⟩|⟨i,x0,j,y0,rfl,rfl⟩
  .cases G;have ex:=ha.intE;have ey:=hb.intE;subst ex;subst ey;exact cq3 J s W H _ _ v u Q I Z ry ⟨_,_,rfl,rfl,q.here R rfl RV.blI⟩
  .exact fb G
 | le =>
  refine wl λ _ kk=>?_;obtain⟨i,j,rfl,rfl⟩:=ca2 G;cases G;have ex:=ha.intE;have ey:=hb.intE;subst ex;subst ey;exact kk $ cv6 J s W H _ _ v u Q I Z ry ⟨_,_,rfl,rfl,q.here R rfl RV.blI⟩
 | gt =>
  rcases ord_inv (.inr (.inl rfl)) G with⟨i,j,rfl,rfl⟩|⟨i,x0,j,y0,rfl,rfl⟩
  .cases G;have ex:=ha.intE;have ey:=hb.intE;subst ex;subst ey;exact cu5 J s W H _ _ v u Q I Z ry ⟨_,_,rfl,rfl,q.here R rfl RV.blI⟩
  .exact fb G
 | ge =>
  rcases ord_inv (.inr (.inr rfl)) G with⟨i,j,rfl,rfl⟩|⟨i,x0,j,y0,rfl,rfl⟩
  .cases G;have ex:=ha.intE;have ey:=hb.intE;subst ex;subst ey;exact cw6 J s W H _ _ v u Q I Z ry ⟨_,_,rfl,rfl,q.here R rfl RV.blI⟩
  .exact fb G
 | isin =>
  have G:=G;obtain⟨z,s1,e1,e2⟩:=aa1 G;obtain⟨rfl,w⟩:=bH4 hK hr dt I Z ry R ha hb e1;cases e2;exact w _ λ s' I'=>⟨.T z,H,I',rfl,q.here R rfl RV.blI⟩
 | notin =>
  have G:=G;obtain⟨z,s1,e1,e2⟩:=aa1 G;obtain⟨rfl,w⟩:=bH4 hK hr cn I Z ry R ha hb e1;cases e2;exact w _ λ s' I'=>⟨.T (!z),H,I',rfl,q.here R rfl RV.blI⟩
def bf8 (h:RVL Γ C H l y)(e:((nR l.length i).bind λ j=>l[j]?)=aT d):∃ v,atI y i=aT v/\RV Γ C H d v:=by
 cases hj:nR l.length i with
 | none=>simp_all
 | some j =>
  rw[hj]at e;obtain⟨v,e1,e2⟩:=h.get (e);refine⟨v,?_,e2⟩;unfold atI;have:ixN y.length i=aT j:=by rw[h.length];exact hj
  simp_all
def aN3 {l:List mM}(e:((nR l.length i).bind λ j=>l[j]?)=aT d):d∈l:=by
 cases hj:nR l.length i with
 | none=>simp_all
 | some j=>rw[hj]at e;exact aC (e)
set_option tactic.hygienic true in
def cv2 (hK:X.K=Γ.K)(hu:X.A.units+2<cLine):IxR X (rOp Γ DV.ixM):=by
 intro J Y Z s W H x y v u Q I rx ry h hs;refine wl λ _ kk=>?_;obtain⟨C,st,a,b,d,a3,R,ha,hb,na,nb,G,q⟩:=h;unfold DV.ixM at G;refine kk ?_;cases a with
 | tp l =>
  cases b with
  | int i =>
   simp only at G;split at G
   .rename_i d' e;cases G;obtain⟨p,xs,rfl,h1,d1⟩:=ha.tupE;have ey:=hb.intE;subst ey;obtain⟨w,e1,e2⟩:=bf8 d1 e;unfold mR at na;exact bN6 hK J Y Z s W H _ _ v u Q I rx ry ⟨p,xs,i,w,rfl,rfl,h1,e1,q.here R (ad8.mp na _ (aN3 e)) e2⟩ hs
   simp_all
  | _=>exact fb G
 | str l =>
  cases b with
  | int i =>
   simp only at G;split at G
   .rename_i c e;cases G;have hl:=ha.strL;have ex:=ha.strE;have ey:=hb.intE;subst ex;subst ey;exact ix_str J Y Z s W H _ _ v u Q I rx ry ⟨⟨l.toArray⟩,i,c,rfl,rfl,by show l.toArray.size<=_;rw[aA];exact am hl qR,e,q.here R rfl (RV.strI (by simp;decide))⟩ hs
   simp_all
  | _=>exact fb G
 | ref r =>
  have ex:=ha.refE;subst ex;simp only at G;cases hsr:st[r]? with
  | none=>simp_all
  | some o =>
   rw[hsr]at G;cases o with
   | J l =>
    cases b with
    | int i =>
     simp only at G;split at G
     .rename_i d' e;cases G;have ey:=hb.intE;subst ey;obtain⟨xs,e1,d1⟩:=R.addr hsr;obtain⟨w,e2,e3⟩:=bf8 d1 e;have wf:=R.wf _ _ hsr;unfold mT at wf;exact aX7 hK J Y Z s W H _ _ v u Q I rx ry ⟨C r,xs,i,w,rfl,rfl,SqL.of e1,e2,q.here R (ad8.mp wf _ (aN3 e)) e3⟩ hs
     simp_all
    | _=>exact fb G
   | ro l =>
    cases b with
    | int i =>
     simp only at G;split at G
     .rename_i d' e;cases G;have ey:=hb.intE;subst ey;obtain⟨xs,e1,d1⟩:=R.obj _ _ hsr;obtain⟨w,e2,e3⟩:=bf8 d1 e;have wf:=R.wf _ _ hsr;unfold mT at wf;exact aX7 hK J Y Z s W H _ _ v u Q I rx ry ⟨C r,xs,i,w,rfl,rfl,e1.1,e2,q.here R (ad8.mp wf _ (aN3 e)) e3⟩ hs
     simp_all
    | _=>exact fb G
   | dc l =>
    simp only at G;split at G
    case isFalse=>simp_all
    rename_i a0;obtain⟨k,hk⟩:=as4 a0;obtain⟨a2,e1,d1⟩:=R.obj r _ hsr;have ey:=aW9 hk hb;subst ey;cases rx;rcases d1.val keyOf_inj hk with⟨q1,_⟩|⟨e,v',q1,q2,q3,q4⟩
    .simp_all
    .rw[q1]at G;cases G;have wf:=R.wf _ _ hsr;unfold mT at wf;rw[aw]at wf;have g:bv2 H (C r) (kV k) (aT v'):=by rw[<-q2];exact bv2.k e1
     exact tail_any (aR3 I g) PySem.F.slot_dict_getitem.lookup (bt2 hu I g ry λ w' s' I' a1=>⟨v',H,I',a1,q.here R (ad8.mp wf.2 _ q4) q3⟩) hs
   | ins c l=>simp_all
 | _=>simp_all
def bk7  n d  i :HT.sIx n d (aT i)=nI n i:=by
 show(if i<0 then(i+(n)).toNat else min i.toNat n)=_;unfold nI;lia
def bF1 (h:RVL Γ C H l G)(y J:Option Int):RVL Γ C H (nu l y J) (ba8 G y J):=by
 unfold nu ba8;have e1:HT.sIx G.length 0 y=nN l.length y:=by
  cases y with
  | none=>rfl
  | some i=>rw[bk7,h.length];rfl
 have e2:HT.sIx G.length G.length J=og l.length J:=by
  cases J with
  | none=>exact h.length
  | some i=>rw[bk7,h.length];rfl
 rw[e1,e2];exact(h.drop _).take _
def aT0 :∀ d∈nu l h y,d∈l:=λ d hd=>List.mem_of_mem_drop (iK hd)
def bB7 (l:List α) h y :(nu l h y).length<=l.length:=by
 unfold nu;rw[br,fc];lia
def cu4  y G  n :bC y G 1 n=(ae (og n G - nN n y)).map (nN n y+·):=by
 rw[<-sliceRange_one];unfold bC;have cl:∀ i:Int,max 0 (min (if i<0 then i+(n)else i) (n))=((nI n i)):=λ i=>by
  unfold nI;by_cases h:i<0
  .rw[gc h,gn (by omega)];omega
  .rw[gn h,gc (by omega)];omega
 simp only[if_true];cases y<;>cases G<;>simp only[cl,og]<;>rfl
theorem aV9 {l:List Nat}:∀ a k ,a+k<=l.length->((ae k).map (a+·)).filterMap (λ x=>l.toArray[x]?)=(l.drop a).take k
 | a,0,_=>by simp
 | a,k+1,h=>by
  rw[cE,bO,List.filterMap_append,aV9 a k (by lia)];have hk:a+k<l.length:=by lia
  rw[List.take_add_one,List.getElem?_drop];simp[hk]
def bq7  l  h y :fu ⟨l.toArray⟩ h y=⟨(nu l h y).toArray⟩:=by
 unfold fu;have hn:(⟨l.toArray⟩:Str).length=l.length:=by show l.toArray.size=_;simp
 rw[hn,cu4];have hb:og l.length y<=l.length:=by
  cases y with
  | none=>exact ai _
  | some i=>show nI l.length i<=_;unfold nI;split<;>lia
 have ha:nN l.length h<=l.length:=by
  cases h with
  | none=>exact dW _
  | some i=>show nI l.length i<=_;unfold nI;split<;>lia
 unfold nu;generalize og l.length y=b at *;generalize nN l.length h=a at *;by_cases hc:((1:Int)==1&&((ae (b - a)).map (a+·)).length==l.length)=cn
 .rw[gc hc];have:=by simpa using hc
  have h0:a=0\/l.length=0:=by lia
  rcases h0 with h0|h0
  .subst h0;rw[this];simp
  .have:=cy.mp h0;subst this;simp
 .rw[gn hc];by_cases hab:a<=b
  .have e:=aV9 (l:=l) a (b - a) (by omega)
   skip
   rw[e]
  .rw[show b - a=0 by lia];simp
def rSl (Γ:Gm):V->Option Int->Option Int->Hp->VK->Prop:=λ x lo hi H Q=>∃ C s a d s',Rp Γ C H s/\RV Γ C H a x/\a.bnd s.length=cn/\oh a lo hi s=.ok d s'/\aj2 Γ C s H d s' Q
def cu7 (hK:X.K=Γ.K):SlR X (rSl Γ):=by
 intro y s W H x v vl vu J Y sl Q I rx hs Z pu h;refine wl λ _ kk=>?_;obtain⟨C,st,a,d,a0,R,ha,na,G,q⟩:=h;unfold oh at G;refine kk ?_;cases a with
 | tp l =>
  cases G;obtain⟨p,xs,⟨rfl,z1⟩,h1,d1⟩:=ha.tupZ;unfold mR at na;refine bN9 hK y s W H _ v vl vu J Y sl Q I rx hs Z pu ⟨p,xs,rfl,h1,λ t H' e ht hn=>?_⟩;obtain⟨g,r'⟩:=R.same e;have d2:=bF1 (RVL.mono g _ _ na d1) J Y;refine q _ _ _ g (ai _) (by unfold mR;exact aS5 na aT0) (RV.tupC ht (λ z=>?_) d2) r';rcases hn with hn|⟨rfl,ex⟩
  .exact hn
  .rw[ex];refine e _ _ (z1 ?_);have hl:(nu l J Y).length=l.length:=by rw[<-d2.length,ex,d1.length]
   rwa [br2 hl]at z
 | str l =>
  cases G;have hl:=ha.strL;have ex:=ha.strE;subst ex;refine cl3 y s W H _ v vl vu J Y sl Q I rx hs Z pu ⟨_,rfl,by show l.toArray.size<=_;rw[aA];exact am hl qR,?_⟩;rw[bq7];exact q.here R rfl (RV.strI (am (bB7 l J Y) hl))
 | ref r =>
  have ex:=ha.refE;subst ex;simp only at G;cases hsr:st[r]? with
  | none=>simp_all
  | some o =>
   rw[hsr]at G;cases o with
   | J l =>
    obtain⟨rfl,rfl⟩:=jj G;obtain⟨xs,e1,d1⟩:=R.addr hsr;have wf:=R.wf _ _ hsr;unfold mT at wf;exact bv4 hK y s W H _ v vl vu J Y sl Q I rx hs Z pu ⟨C r,xs,rfl,SqL.of e1,λ p hp=>q.alloc R (bF1 d1 J Y) (aS5 wf aT0) hp⟩
   | _=>exact fb G
 | _=>exact fb G
variable {Γ:Gm} {X:Cx}
def rCl (Γ:Gm)(f:List mM->mK->mP mM):List V->Hp->VK->Prop:=λ xs H Q=>∃ C s l d s',Rp Γ C H s/\RVL Γ C H l xs/\mN s.length l=cn/\f l s=.ok d s'/\aj2 Γ C s H d s' Q
def RVL.one (h:RVL Γ C H [d] y):∃ x,y=[x]/\RV Γ C H d x:=by
 obtain⟨x,r,rfl,J,G⟩:=h.uncons;rw[G.unnil];exact⟨x,rfl,J⟩
def bN0  a b c :mx3 a b c=max (max a b) c:=by unfold mx3 mx;lia
noncomputable def biN:nE->Option (String×Nat)
 | .len=>aT ("len",1)|.abs=>aT ("abs",1)|.min2=>aT ("min",2)|.max2=>aT ("max",2)|.max3=>aT ("max",3)|_=>bY
theorem qK:∀ {l} {is},nK l=aT is->l=is.map DV.D.int
 | [],is,h=>by unfold nK at h;simp_all
 | d::l,is,h=>by
  cases d with
  | int i =>
   have h:(nK l).map (i::·)=aT is:=h;cases e:nK l with
   | none=>simp_all
   | some m=>rw[e]at h;cases h;rw[qK e];rfl
  | _=>cases h
theorem aw1:∀ {l} {is},nY l=aT is->l=is.map DV.D.T
 | [],is,h=>by unfold nY at h;simp_all
 | d::l,is,h=>by
  cases d with
  | T i =>
   have h:(nY l).map (i::·)=aT is:=h;cases e:nY l with
   | none=>simp_all
   | some m=>rw[e]at h;cases h;rw[aw1 e];rfl
  | _=>cases h
theorem RVL.ints :∀ {is:List Int} {y},RVL Γ C H (is.map DV.D.int) y->y=is.map V.int
 | [],_,h=>h.unnil
 | i::is,_,h=>by
  obtain⟨x,r,rfl,J,G⟩:=RVL.uncons h;rw[J.intE,RVL.ints G];rfl
theorem RVL.bls :∀ {is:List Bool} {y},RVL Γ C H (is.map DV.D.T) y->y=is.map V.T
 | [],_,h=>h.unnil
 | i::is,_,h=>by
  obtain⟨x,r,rfl,J,G⟩:=RVL.uncons h;rw[J.blE,RVL.bls G];rfl
def bs7 (h:oD f l s=.ok d s'):∃ a,l=[a]/\f a s=.ok d s':=by
 match l,h with
 | [a],h=>exact⟨a,rfl,h⟩
 | [],h=>exact fb h
 | _::_::_,h=>exact fb h
set_option tactic.hygienic true in
def bp8 (Z:X.K=Γ.K)(hc:X.calm=cn)(hn:biN b=aT (nm,k)):ai0 X (.builtin nm) (rCl Γ (ot b)):=by
 intro y s W H xs us Q I r h;refine wl λ _ kk=>?_;obtain⟨C,st,l,d,Y,R,hl,nl,G,q⟩:=h;refine kk ?_;cases b with
 | len =>
  cases hn;have G:=G;obtain⟨a,rfl,J⟩:=bs7 G;clear G;obtain⟨x,rfl,hx⟩:=hl.one;unfold DV.cf3 at J;cases a with
  | tp l =>
   cases J;obtain⟨p,ys,rfl,h1,d1⟩:=hx.tupE;refine av2 Z y s W H _ us Q I r ⟨p,ys,rfl,.inr h1,?_⟩;rw[d1.length];exact q.here R rfl RV.intI
  | str l =>
   cases J;have hL:=hx.strL;have e:=hx.strE;subst e;refine aM6 y s W H _ us Q I r ⟨_,rfl,by show l.toArray.size<=_;rw[aA];exact am hL qR,?_⟩;show Q (.int ((l.toArray.size))) H;rw[aA];exact q.here R rfl RV.intI
  | ref n =>
   have e:=hx.refE;subst e;simp only at J;cases hs:st[n]? with
   | none=>simp_all
   | some o =>
    rw[hs]at J;cases o with
    | J l =>
     cases J;obtain⟨ys,e1,d1⟩:=R.addr hs;refine av2 Z y s W H _ us Q I r ⟨C n,ys,rfl,.inl (SqL.of e1),?_⟩;rw[d1.length];exact q.here R rfl RV.intI
    | ro l =>
     cases J;obtain⟨ys,e1,d1⟩:=R.obj _ _ hs;refine av2 Z y s W H _ us Q I r ⟨C n,ys,rfl,.inl e1.1,?_⟩;rw[d1.length];exact q.here R rfl RV.intI
    | dc l=>simp_all
    | ins c l=>simp_all
  | _=>simp_all
 | abs =>
  cases hn;have G:(match nK l with|some [i]=>.ok (.int (if i<0 then -i else i)) st|_=>.B:mP mM)=.ok d Y:=G;split at G
  .rename_i i e;cases G;have:=qK e;subst this;have:=RVL.ints hl;subst this;exact bx9 y s W H _ us Q I r ⟨i,rfl,q.here R rfl RV.intI⟩
  simp_all
 | min2 =>
  cases hn;have G:(match nK l with|some [a,b]=>.ok (.int (if b<a then b else a)) st|_=>.B:mP mM)=.ok d Y:=G;split at G
  .rename_i a b e;cases G;have:=qK e;subst this;have:=RVL.ints hl;subst this;exact br8 hc y s W H _ us Q I r ⟨_,_,rfl,q.here R rfl RV.intI⟩
  simp_all
 | max2 =>
  cases hn;have G:(match nK l with|some [a,b]=>.ok (.int (if b > a then b else a)) st|_=>.B:mP mM)=.ok d Y:=G;split at G
  .rename_i a b e;cases G;have:=qK e;subst this;have:=RVL.ints hl;subst this;exact bo7 hc y s W H _ us Q I r ⟨_,_,rfl,q.here R rfl RV.intI⟩
  simp_all
 | max3 =>
  cases hn;have G:(match nK l with|some [a,b,c]=>.ok (.int (max (max a b) c)) st|_=>.B:mP mM)=.ok d Y:=G;split at G
  .rename_i a b c e;cases G;have:=qK e;subst this;have:=RVL.ints hl;subst this;refine bn9 hc y s W H _ us Q I r ⟨_,_,_,rfl,?_⟩;rw[bN0];exact q.here R rfl RV.intI
  simp_all
 | _=>cases hn
def aY5:∀ j:Nat,j<=9->bX (toString (j:Int))=(⟨[48+j].toArray⟩):=by decide
set_option tactic.hygienic true in
def cl0:ai0 X (.type "int") (rCl Γ (ot .int)):=by
 intro G s W H xs us Q I r h;obtain⟨C,st,l,d,Y,R,hl,nl,y,q⟩:=h;have y:(match nY l with|some [b]=>.ok (.int (if b then 1 else 0)) st|some _=>.B|none=>DV.bI9 l st:mP mM)=.ok d Y:=y;split at y
 .rename_i b e;cases y;have:=aw1 e;subst this;have:=RVL.bls hl;subst this;exact br0 G s W H _ us Q I r (.inr ⟨b,rfl,q.here R rfl RV.intI⟩)
 .simp_all
 .unfold DV.bI9 at y;split at y
  .rename_i c _ _;split at y
   .rename_i hc;cases y;obtain⟨x,J,rfl,r1,Z⟩:=hl.uncons;cases(Z);have:=r1.strE;subst this;obtain⟨u,rfl,t,rfl⟩:=j9 r;obtain⟨j,hj,rfl⟩:∃ j,j<=9/\c=48+j:=⟨c - 48,by omega,by omega⟩
    rw[(aY5 j hj).symm];refine PySem.W.KIN.call_num (by lia) (by lia) ⟨.int (j),H,I.tok _,⟨_,rfl⟩,?_⟩;have:=q.here R rfl (RV.intI )
    simp_all
   simp_all
  .exact fb y
set_option tactic.hygienic true in
def cm8:ai0 X (.type "str") (rCl Γ (ot .str)):=by
 intro Z s W H xs us Q I r h;obtain⟨C,st,l,d,J,R,hl,nl,y,q⟩:=h;have y:DV.bS0 l st=.ok d J:=y;unfold DV.bS0 at y;split at y
 .rename_i i _;split at y
  .rename_i hi;cases y;obtain⟨x,G,rfl,r1,Y⟩:=hl.uncons;cases(Y);have:=r1.intE;subst this;obtain⟨u,rfl,t,rfl⟩:=j9 r;obtain⟨j,rfl⟩:∃ j:Nat,i=(j):=⟨i.toNat,by lia⟩
   have hj:j<=9:=by lia
   refine PySem.P.str_of_int ?_ ⟨.str ⟨[48+j].toArray⟩,H,I.tok _,⟨s.toks,?_⟩,?_⟩
   .have:(j:Int).natAbs.log2<=(j:Int).natAbs:=Nat.log2_le_self _;lia
   .rw[<-aY5 j hj]
   .have:=q.here R rfl (RV.strI (by show 1<=mU;decide))
    simp_all
  simp_all
 .rename_i w _;cases y;refine wl λ _ kk=>?_;obtain⟨x,G,rfl,r1,Y⟩:=hl.uncons;cases(Y);have e:=r1.strE;subst e;obtain⟨u,rfl,t,rfl⟩:=j9 r;refine kk ?_;refine PySem.P.str_of_str ⟨.str ⟨w.toArray⟩,H,I,⟨_,rfl⟩,?_⟩;unfold mN at nl;exact q.here R rfl r1
 .exact fb y
noncomputable def az7:Nat->String
 | 1 => "int" | 2 => "bool" | 3 => "str" | 4 => "tuple" | _ => "list"
def bT7 {K} k (hk:1<=k/\k<=5):cY K (.type "NoneType") (.type (az7 k))=aT dt/\cY K (.type "bool") (.type (az7 k))=aT (k==1||k==2) /\
  cY K (.type "int") (.type (az7 k))=aT (k==1)/\cY K (.type "str") (.type (az7 k))=aT (k==3)/\cY K (.type "tuple") (.type (az7 k))=aT (k==4)/\cY K (.type "list") (.type (az7 k))=aT (k==5):=by
 obtain⟨G,y⟩:=hk;rcases(by lia:k=1\/k=2\/k=3\/k=4\/k=5)with h|h|h|h|h<;>subst h<;>refine⟨?_,?_,?_,?_,?_,?_⟩<;>with_unfolding_all rfl
def aZ3 {s}(I:Inv X y W H s)(G:SqT X.K H a J)(e:cY X.K (.type "tuple") c=aT b)
  (h:∀ tk,Q (.bool b) { s with toks:=tk }):wpAny (model X.prog X.w) A (call (.builtin "isinstance") [.ref a,c]) Q E s:=by
 refine wl λ _ kk=>?_;obtain⟨its,_,⟨o,g1,Y,_⟩,_⟩:=I.tuple G;exact kk $ cj kt I.kIn ⟨o,g1,Y⟩ e (λ z=>nomatch z) h
def cd0 (hK:X.K=Γ.K)(hk:1<=k/\k<=5):ai0 X (.builtin "isinstance") (λ Z H Q=>∃ x,Z=[x,.ty (az7 k)]/\rCl Γ (oD (oJ k)) [x] H Q):=by
 intro a0 s W H Z us Q I r h;refine wl λ _ kk=>?_;obtain⟨x,rfl,C,st,l,d,G,R,hl,nl,Y,q⟩:=h;obtain⟨a,rfl,y⟩:=bs7 Y;clear Y;obtain⟨u,w',rfl,r1,r2⟩:=bO4 r;cases r2;obtain⟨x',e',hx⟩:=hl.one;cases e';obtain⟨k0,k1,k2,k3,k4,k5⟩:=bT7 k hk;unfold oJ at y;refine kk ?_;cases a with
 | N=>cases y;have e:=hx.nonE;subst e;exact jI I r1 .N k0 λ tk=>⟨.T _,H,I.tok _,rfl,q.here R rfl RV.blI⟩
 | T b=>cases y;have e:=hx.blE;subst e;exact jI I r1 (.T b) k1 λ tk=>⟨.T _,H,I.tok _,rfl,q.here R rfl RV.blI⟩
 | int b=>cases y;have e:=hx.intE;subst e;exact jI I r1 (.int b) k2 λ tk=>⟨.T _,H,I.tok _,rfl,q.here R rfl RV.blI⟩
 | str b=>cases y;have e:=hx.strE;subst e;exact jI I r1 (.str _) k3 λ tk=>⟨.T _,H,I.tok _,rfl,q.here R rfl RV.blI⟩
 | tp l =>
  cases y;obtain⟨p,ys,rfl,J,d1⟩:=hx.tupE;cases r1;rw[<-hK]at J;exact aZ3 I J k4 λ tk=>⟨.T _,H,I.tok _,rfl,q.here R rfl RV.blI⟩
 | ref n =>
  have e:=hx.refE;subst e;have y:(match st[n]? with|some (.J _)=>.ok (.T (k==5)) st|_=>.B:mP mM)=.ok d G:=y;cases hs:st[n]? with
  | none=>simp_all
  | some o =>
   rw[hs]at y;cases o with
   | J l =>
    cases y;obtain⟨ys,e1,d1⟩:=R.addr hs;exact jI I r1 (.J e1) k5 λ tk=>⟨.T _,H,I.tok _,rfl,q.here R rfl RV.blI⟩
   | _=>simp_all
 | _=>simp_all
variable {X:Cx}
def bW0 {bs:List Bool}{its:yG}(r:Vals (bs.map V.T) its){i:Nat}(h:its[i]?=aT v):∃ z,bs[i]?=aT z/\v=Value.bool z:=by
 induction bs generalizing its i with
 | nil=>rw[dg]at r;cases r;simp at h
 | cons b bs ih =>
  rw[aJ]at r;cases r with
  | cons r1 r2 =>
   cases i with
   | zero =>
    cases r1;have:=aq h;exact⟨b,rfl,this.symm⟩
   | succ i=>exact ih r2 h
def bu3 {bs:List Bool}:(ae bs.length).all (λ i=>bs.getD i dt)=bs.all id:=by
 rw[et,aU,aU];constructor
 .intro h b hb;obtain⟨i,y,e⟩:=dh.mp hb
  simp_all
 .intro h i y;have y:=aX.mp y;rw[ay,ac y];exact h _ (gG y)
def bg3 {K}(hc:X.calm=cn)(hK:X.K=K):ai0 X (.builtin "all") (λ Z H Q=>∃(a:Addr) (bs:List Bool),Z=[.ref a]/\SqL K H a (bs.map V.T)/\Q (.T (bs.all id)) H):=by
 subst hK;intro a0 s W H Z us Q I r h;obtain⟨a,bs,rfl,hS,q⟩:=h;obtain⟨u,rfl,ru⟩:=j9 r;cases ru;obtain⟨its,Y,G,hz⟩:=I.list hS;have hl:=Y.length;rw[ar]at hl;refine call_all_walk (dQ G.isList ?_);have J:a<s.heap.objs.size:=by obtain⟨o,_,e,_⟩:=G;exact aI e
 have Ww:=lH (prog:=X.prog) (w:=X.w) (A:=X.A.in1) (I.ok.hd hc) s.heap.objs.size a (aD J) its.toArray;refine⟨_,_,_,_,_,_,λ i=>bs.getD i dt,rfl,Ww,⟨⟨_,aM _ rfl,rfl,rfl⟩,?_⟩,λ i v s' Q' E' y hQ=>?_,λ h' tk k=>?_⟩
 .obtain⟨o,e,r⟩:=G.isList;exact⟨o,aj _ e,r⟩
 .obtain⟨z,e1,e2⟩:=bW0 Y (by have y:its.toArray[i]?=aT v:=y;rw[c6]at y;exact y);subst e2;refine bI ?_;have:bs.getD i dt=z:=by rw[ay,e1];rfl
  rw[<-this];exact hQ
 .have es:its.toArray.size=bs.length:=by rw[aA];lia
  rw[es,bu3];refine⟨.T (bs.all id),H,I.kept λ b o q=>k b o ?_ (aj _ q),rfl,q⟩;intro z;have z':=by simpa using z
  exact iF (aI q) (by rw[z'];exact bj _)
noncomputable def sgV (x:List Nat):List V:=x.map λ c=>.str ⟨#[c]⟩
def bV1 {y:yG}(hl:vs.length=y.length)(h:∀(i:Nat) (x:V) (u:Value),vs[i]?=aT x->y[i]?=aT u->RelV x u):Vals vs y:=by
 induction vs generalizing y with
 | nil=>cases y with
  | nil=>exact .nil
  | cons _ _=>cases hl
 | cons v vs ih=>cases y with
  | nil=>cases hl
  | cons a y=>exact .cons (h 0 v a rfl rfl) (ih (by simpa using hl) λ i x u e1 e2=>h (i+1) x u e1 e2)
def aB7 {y:yJ}(h:ItemsOf (SignAt ⟨x.toArray⟩) y x.length):Vals (sgV x) y.toList:=by
 have hl:(sgV x).length=y.toList.length:=by unfold sgV;rw[ar];simpa using h.1.symm
 refine bV1 hl λ i v u e1 e2=>?_;obtain⟨c,t,G,J⟩:=h.2 i u (by rw[<-Array.getElem?_toList];exact e2);unfold sgV at e1;rw[ao]at e1;have G:=by simpa using G
 rw[G]at e1;cases e1;exact⟨t,J⟩
def aQ3 (hc:X.calm=cn):ai0 X (.type "tuple") (λ Z H Q=>∃ x,Z=[.str ⟨x.toArray⟩]/\x.length<=mU/\∀ l,H l=bY->Q (.ref l) (upd H l (.tp (sgV x)))):=by
 intro y s W H Z us Q I r h;obtain⟨x,rfl,hl,q⟩:=h;obtain⟨u,rfl,rx⟩:=j9 r;obtain⟨t,rfl⟩:=rx;have hz:(sgV x).length<=aR:=by unfold sgV;rw[ar];exact am hl qR
 refine call_tuple_str (I.ok.hd hc) _ t (λ h' tk G kp J=>?_) (by skip;rw[aA];exact am hl qR);have J:=by simpa using J
 have rv:=aB7 J;have Y:=I.kept (t':=tk) kp;have I2 :=
  Y.laid (t':=tk) (λ b o e=>aj _ e) (ai _) (show ai1 X.prog X.w _ _ _ (.tp (sgV x))from⟨hz,G.toList,rv,kY _ _⟩)
 exact⟨.ref h'.objs.size,_,I2,rfl,q _ (Y.hok.fresh (ai _))⟩
def bc5 (hc:X.calm=cn):ai0 X (.type "list") (λ J H Q=>∃ x,J=[.str ⟨x.toArray⟩]/\x.length<=mU/\∀ l,H l=bY->Q (.ref l) (upd H l (.J (sgV x)))):=by
 intro Y s W H J us Q I r h;obtain⟨x,rfl,hl,q⟩:=h;obtain⟨u,rfl,rx⟩:=j9 r;obtain⟨t,rfl⟩:=rx;have hz:(sgV x).length<=aR:=by unfold sgV;rw[ar];exact am hl qR
 refine call_list_str (I.ok.hd hc) _ t (λ h' tk y c' kp e G=>?_) (by skip;rw[aA];exact am hl qR);have G:=by simpa using G
 have Z:=aB7 G;exact⟨.ref s.heap.objs.size,_,I.laid kp (ai _) (show ai1 X.prog X.w _ h' _ (.J (sgV x))from⟨hz,y.toList,c',Z,e⟩),rfl,q _ (I.hok.fresh (ai _))⟩
section
variable {Γ:Gm} {C C':Nat->Addr} {H H' H1 H2 H3:Hp} {clos:yB} {s s':mK}
def qN (hc:Cells clos H)(e:H a=aT u)(hu:∀ o,u≠.frz o (.own a)):isC clos a≠true:=λ z=>by
 obtain⟨o,v,q,_⟩:=hc.at z
 grind
def SqT.dropC {K}(hc:Cells clos H)(h:SqT K H a y):SqT K (ah0 clos H) a y:=by
 rcases h with(h|⟨o,h⟩)|h
 .exact .inl (.inl (by rw[ah0.ne (qN hc h (λ _ z=>by cases z))];exact h))
 .exact .inl (.inr ⟨o,by rw[ah0.ne (qN hc h (λ _ z=>by cases z))];exact h⟩)
 .exact .inr h
def SqL.dropC {K}(hc:Cells clos H)(h:SqL K H a y):SqL K (ah0 clos H) a y:=by
 rcases h with(h|⟨o,h⟩)|h
 .exact .inl (.inl (by rw[ah0.ne (qN hc h (λ _ z=>by cases z))];exact h))
 .exact .inl (.inr ⟨o,by rw[ah0.ne (qN hc h (λ _ z=>by cases z))];exact h⟩)
 .exact .inr h
theorem SqF.dropC {K}(hc:Cells clos H)(h:SqF K H a y):SqF K (ah0 clos H) a y:=by
 refine⟨SqL.dropC hc h.1,λ H2 k=>?_⟩;have hk:Kp H (λ b=>if isC clos b=cn then H b else H2 b):=λ b o e f=>by
  by_cases z:isC clos b=cn
  .show(if isC clos b=cn then H b else H2 b)=_;rw[gc z];exact e
  .show(if isC clos b=cn then H b else H2 b)=_;rw[gn z];exact k b o (by rw[ah0.ne z];exact e) f
 have q:=h.2 _ hk;have at_:∀ u,(if isC clos a=cn then H a else H2 a)=aT u->(∀ o,u≠.frz o (.own a))->H2 a=aT u:=λ u e hu=>by
  by_cases z:isC clos a=cn
  .rw[gc z]at e;exact iF z (qN hc e hu)
  .rw[gn z]at e;exact e
 rcases q with(q|⟨o,q⟩)|q
 .exact .inl (.inl (at_ _ q (λ _ z=>by cases z)))
 .exact .inl (.inr ⟨o,at_ _ q (λ _ z=>by cases z)⟩)
 .exact .inr q
mutual
theorem RV.dropC (hc:Cells clos H):∀(d:mM) (v:V),d.ncl=cn->RV Γ C H d v->RV Γ C (ah0 clos H) d v
 | .N,_,_,h=>by unfold RV at h ⊢;exact h
 | .T _,_,_,h=>by unfold RV at h ⊢;exact h
 | .int _,_,_,h=>by unfold RV at h ⊢;exact h
 | .str _,_,_,h=>by unfold RV at h ⊢;exact h
 | .tp l,_,n,h=>by
  unfold RV at h ⊢;unfold oK at n;obtain⟨a,y,e,q,r⟩:=h;exact⟨a,y,e,⟨SqT.dropC hc q.1,λ z=>by rw[ah0.ne (qN hc (q.2 z) (λ _ z=>by cases z))];exact q.2 z⟩,RVL.dropC hc l y n r⟩
 | .ref k,_,_,h=>by unfold RV at h ⊢;exact h
 | .fn _,_,_,h=>by unfold RV at h ⊢;exact h
 | .clo id cs,_,n,h=>by unfold oK at n;cases n
theorem RVL.dropC (hc:Cells clos H):∀(l:List mM) (y:List V),nU l=cn->RVL Γ C H l y->RVL Γ C (ah0 clos H) l y
 | [],_,_,h=>by unfold RVL at h ⊢;exact h
 | d::l,_,n,h=>by
  unfold nU at n;rw[aw]at n;obtain⟨x,r,e,J,G⟩:=h.uncons;subst e;exact .cons (RV.dropC hc d x n.1 J) (RVL.dropC hc l r n.2 G)
end
theorem RVD.dropC (hc:Cells clos H):∀ l   y ,nU (l.map (·.2))=cn->RVD G Γ C H l y->RVD G Γ C (ah0 clos H) l y
 | [],_,_,h=>h
 | (d,e)::l,_,n,h=>by
  obtain⟨k,v,r,e1,e2,J,Y⟩:=h;rw[aJ]at n;unfold nU at n;rw[aw]at n;exact⟨k,v,r,e1,e2,RV.dropC hc e v n.1 J,RVD.dropC hc l r n.2 Y⟩
theorem RO.dropC (hc:Cells clos H)(h:RO Γ C H a o)(n:o.ncl=cn):RO Γ C (ah0 clos H) a o:=by
 cases o with
 | J l =>
  obtain⟨y,e,r⟩:=h;exact⟨y,by rw[ah0.ne (qN hc e (λ _ z=>by cases z))];exact e,RVL.dropC hc l y n r⟩
 | ro l =>
  obtain⟨y,e,r⟩:=h;exact⟨y,SqF.dropC hc e,RVL.dropC hc l y n r⟩
 | dc l =>
  obtain⟨y,e,r⟩:=h;exact⟨y,by rw[ah0.ne (qN hc e (λ _ z=>by cases z))];exact e,RVD.dropC hc l y n r⟩
 | ins _ _=>exact h.elim
def TabsH.dropC (hc:Cells clos H)(h:TabsH T H):TabsH T (ah0 clos H):=λ y hy=>by
 obtain⟨ps,e,t,c⟩:=h y hy;refine⟨ps,by rw[ah0.ne (qN hc e (λ _ z=>by cases z))];exact e,t,λ pos J q=>?_⟩;obtain⟨G,e1,e2⟩:=c pos J q;exact⟨G,e1,by rw[ah0.ne (qN hc e2 (λ _ z=>by unfold ji at z;cases z))];exact e2⟩
theorem Rp.dropC (hc:Cells clos H)(r:Rp Γ C H s)(n:s.all oM=cn):Rp Γ C (ah0 clos H) s :=
 ⟨r.inj,λ i o e=>RO.dropC hc (r.obj i o e) (aU.mp n o (aC e)),r.wf,TabsH.dropC hc r.tab⟩
def Gr.caught {kd:Str->Option bT}{W:St}(h:Caught clos N kd W H1 H2)(g:Gr C s H2 C' s' H3):Gr C s H1 C' s' (ah0 clos H3):=by
 have y:∀ b o,H1 b=aT o->isC clos b≠true:=λ b o e z=>by rw[h.free b z]at e;cases e
 have up:∀ b o,H1 b=aT o->H2 b=aT o:=λ b o e=>by rw[h.ne b (y b o e)];exact e
 refine⟨⟨g.w.map,λ b o e f=>?_⟩,g.le,λ i J G=>?_,g.kd,λ b e=>?_,λ b o e Z Y=>?_⟩
 .rw[ah0.ne (y b o e)];exact g.w.kp b o (up b o e) f
 .have:=g.new i J G;by_cases z:isC clos (C' i)=cn
  .exact h.free _ z
  .rw[<-h.ne _ z];exact this
 .cases q:H1 b with
  | none=>exact iF q e
  | some o =>
   rw[ah0.ne (y b o q)];exact g.st b (by rw[up b o q];simp)
 .rw[ah0.ne (y b o e)];exact g.fr b o (up b o e) Z Y
def bn2 (h:∀ b,isC clos b=cn->H' b=bY):ak4 H' (Put clos H H'):=λ b o e=>by
 rw[Put.ne (λ z=>by simp_all)];exact e
def Gr.put (hc:Cells clos H)(y:∀ b,isC clos b=cn->H' b=bY)(hK:∀ b o,Γ.K.lookup b=aT o->H b=bY)(R':Rp Γ C' H' s')(g:Gr C s (ah0 clos H) C' s' H'):Gr C s H C' s' (Put clos H H'):=by
 refine⟨⟨g.w.map,λ b o e f=>?_⟩,g.le,λ i Z Y=>?_,g.kd,λ b e=>?_,λ b o e nt no=>?_⟩
 .by_cases z:isC clos b=cn
  .rw[Put.cell z];exact e
  .rw[Put.ne z];exact g.w.kp b o (by rw[ah0.ne z];exact e) f
 .have hd:=g.new i Z Y;by_cases z:isC clos (C' i)=cn
  .have G:=y _ z;obtain⟨o,eo⟩:∃ o,s'[i]?=aT o:=⟨s'[i],ac Y⟩
   have h:=R'.obj i o eo;cases o with
   | J l=>obtain⟨J,e,_⟩:=h;rw[G]at e;cases e
   | ro l =>
    obtain⟨J,e,_⟩:=h;rcases e.1 with(e|⟨_,e⟩)|⟨ob,its,n,e,_⟩
    all_goals simp_all
   | dc l=>obtain⟨J,e,_⟩:=h;rw[G]at e;cases e
   | ins _ _=>exact h.elim
  .rw[ah0.ne z]at hd;exact hd
 .by_cases z:isC clos b=cn
  .rw[Put.cell z];exact e
  .rw[Put.ne z];exact g.st b (by rw[ah0.ne z];exact e)
 .by_cases z:isC clos b=cn
  .rw[Put.cell z];exact e
  .rw[Put.ne z];exact g.fr b o (by rw[ah0.ne z];exact e) nt no
def bA7 (hT:TabsH T H)(nd:(T.map (·.1)).Nodup)(hm:(P,q)∈T)
  (go:∀(f:Addr) (H':Hp),bi5 H H'->(∀ b,H b≠bY->H' b≠bY)->TabsH T H'->H f=bY->(∃ pm Z J,H' f=aT (aF9 f (bU "<lambda>" q params body scope (ai8 cells scope.names []) pm (.ref Z) J))/\H' Z=aT (ji Z q))->Q (.ref f) H') :
  cA0 cells P q params body scope pos W H Q:=by
 obtain⟨ps,hP,ht,hc⟩:=hT _ hm;refine⟨ps,hP,ht,λ hn Z f pm J n1 n2 ne=>?_,λ cv e=>?_⟩
 .have cP:Z≠P:=λ z=>by lia
  have fP:f≠P:=λ z=>by lia
  have G:∀ b,b≠P->H b≠bY->∀ o1 o2 o3,upd (upd (upd H P o1) Z o2) f o3 b=H b:=λ b z1 z2 o1 o2 o3=>by
   rw[zr λ z=>by subst z;exact z2 n2,zr λ z=>by subst z;exact z2 n1,zr z1]
  refine go f _ (λ b o d e=>?_) (λ b hb=>?_) (λ y hy=>?_) n2 ⟨pm,Z,J,zu,by rw[zr ne,zu]⟩
  .rw[G b (λ z=>by subst z;rw[hP]at e;cases e;exact d _ rfl) (by rw[e];simp)];exact e
  .by_cases z:b=P
   .subst z;rw[zr (cg fP),zr (cg cP),zu];simp
   .rw[G b z hb];exact hb
  .by_cases z:y.1=P
   .have ey:=by
     have:∀(l:List (Addr×Str)),(l.map (·.1)).Nodup->y∈l->(P,q)∈l->y=(P,q):=by
      intro l
      induction l with
      | nil=>intro _ h;simp at h
      | cons a l ih =>
       grind
     exact this T nd hy hm
    subst ey;refine⟨_,by rw[zr (cg fP),zr (cg cP),zu],?_,λ Y cv e=>?_⟩
    .rw[d7];exact TriplesOk_snoc _ _ _ _ ht
    .rw[d7]at e;rcases codeAmong_add _ ht e with e'|e'
     .obtain⟨c2,e1,e2⟩:=hc Y cv e';exact⟨c2,e1,by rw[G c2 (λ z=>by subst z;rw[hP]at e2;unfold ji at e2;lia) (by rw[e2];simp)];exact e2⟩
     .exact⟨Z,e',by rw[zr ne,zu]⟩
   .obtain⟨qs,e1,e2,e3⟩:=hT y hy;refine⟨qs,by rw[G y.1 z (by rw[e1];simp)];exact e1,e2,λ Y cv e=>?_⟩;obtain⟨c2,e4,e5⟩:=e3 Y cv e;exact⟨c2,e4,by rw[G c2 (λ z=>by subst z;rw[hP]at e5;unfold ji at e5;lia) (by rw[e5];simp)];exact e5⟩
 .obtain⟨Z,e1,e2⟩:=hc pos cv e;refine⟨Z,e1,λ f pm J n=>go f _ (.of ((ak4.refl H).new n)) (λ b hb=>by
   by_cases z:b=f
   .subst z;rw[zu];simp
   .rw[zr z];exact hb) (hT.new n) n ⟨pm,Z,J,zu,?_⟩⟩
  rw[zr (zV e2 n)];exact e2
set_option tactic.hygienic true in
def bW2 {K:af}{body:yL}{h:yB}{cap:List V}{sp:Sp}
  (S:LamScope N ps fr scope) (len:∀ vs H Q E,sp vs H Q E->vs.length=ps.length) (b0:cap.length=fr.length)
  (a1:∀(Z pm:Value) (c':Addr) (a2:Value) (us:yG),us.length=ps.length->eO (cT name qual params body scope h .none .none Z pm bY (.ref c') a2) ⟨us,[]⟩=pure (ps.zip us))
  (a0:∀(A:aW) (G:List Env) (s:ah) (H:Hp) (cd:Value) (vs:List V) (Q:VK),Room k (A.deeper (dA qual scope s.heap.objs.size f cd (aP (s.heap.objs.size+1) scope.names h)))->aw2 H f name qual params body scope fr cap h->(∀ b o,K.lookup b=aT o->H b=bY)->sp vs H Q E0 ->
   ∃ t,PSs (aS3 P w K mg base N qual scope f cd h A G s H) body t/\t { nx:=λ _ H'=>(∀ b,isC h b=cn->H' b=bY)->Q .N (Put h H H'),rt:=λ v H'=>(∀ b,isC h b=cn->H' b=bY)->Q v (Put h H H') } (vs.map aT++cap.map aT) (ah0 h H)) :
  ClOk P w K mg base (k+1) (λ H=>aw2 H f name qual params body scope fr cap h) f sp:=by
 refine⟨λ A G s H us vs Q hr Y hR r a4=>?_⟩;have hl:=len _ _ _ _ a4;refine wl λ _ kk=>?_;obtain⟨Z,pm,c',a2,h1,h2,h3,h4,h5,h6⟩:=id hR;have a6:s.heap.NoLimit:=Y.mod.nolimit.keeps λ b o e=>(Y.bs b o e).1;refine kk ?_;refine ik hr.depth (aE1 Y.hok h1) rfl S.co S.gen rfl (aM2 Y.hok h2) ?_;rw[a1 Z pm c' a2 us (by rw[<-r.length];exact hl)];refine aF (aA6 S.kind (λ y hy=>?_) λ env he s1 x=>?_)
 .rcases S.par y.1 (eh (show(y.1,y.2)∈ps.zip us from hy)).1 with q|q
  .exact .inl q
  .exact .inr ⟨q,qM q⟩
 .subst he;refine⟨a6.keeps x.toInCall.keep,codeAny_func ?_⟩;obtain⟨t,ht,hq⟩:=a0 A G s H (.ref c') vs Q (hr.deeper _) hR (λ b o e=>(Y.bs b o (Y.mod.kin b o e)).2) a4;have I:=bs0 S hr.hd Y hl b0 r h3 h4 h5 h6 x;refine cr (ht [] s1 _ _ _ I hq) (λ fl s' hs=>?_) λ e s' hs=>hs.elim;have fin:∀ {W':St} {H':Hp} {v:V} {u:Value},Inv (aS3 P w K mg base N qual scope f (.ref c') h A G s H) [] W' H' s'->RelV v u->((∀ b,isC h b=cn->H' b=bY)->Q v (Put h H H'))->CE G P w H s Q u s':=λ {W' H' v u} J rv q=>by
   obtain⟨un,a5⟩:=bn5 Y.hok h3 Y.frf J.base J.hok;have a3:∀ b,isC h b=cn->H' b=none:=λ b y=>by
    obtain⟨o,v,z,_⟩:=h3.at y;exact(show Un (frs G) [] (ah0 h H) H' s.heap s'.heap from J.base).free b o (Y.hok b _ z).1 (ah0.cell y) (by simp)
   exact⟨v,_,J.os,J.bare,un,a5,rv,q a3⟩
  cases fl with
  | ret u =>
   obtain⟨v,W',H',J,rv,q⟩:=hs;exact fin J rv q
  | next =>
   obtain⟨W',H',J,q⟩:=hs;exact fin (v:=V.N) (u:=Value.none) J rfl q
  | brk =>
   obtain⟨_,_,_,q⟩:=hs
   simp_all
  | cont =>
   obtain⟨_,_,_,q⟩:=hs
   simp_all
def bL8 {K:af}{h:yB}{cap:List V}{sp:Sp}
  (S:LamScope N ps fr scope) (len:∀ vs H Q E,sp vs H Q E->vs.length=ps.length) (a6:cap.length=fr.length)
  (a0:∀(pm:Value) (c':Addr) (a1:Value) (us:yG),us.length=ps.length->eO (bU "<lambda>" qual params body scope h pm (.ref c') a1) ⟨us,[]⟩=pure (ps.zip us))
  (Z:∀(A:aW) (G:List Env) (s:ah) (H:Hp) (cd:Value) (vs:List V) (Q:VK),Room k (A.deeper (dA qual scope s.heap.objs.size f cd (aP (s.heap.objs.size+1) scope.names h)))->aL6 H f qual params body scope fr cap h->(∀ b o,K.lookup b=aT o->H b=bY)->sp vs H Q E0 ->
   ∃ t,PE (aS3 P w K mg base N qual scope f cd h A G s H) body t/\t (vs.map aT++cap.map aT) (ah0 h H) λ v H'=>(∀ b,isC h b=cn->H' b=bY)->Q v (Put h H H')) :
  ClOk P w K mg base (k+1) (λ H=>aL6 H f qual params body scope fr cap h) f sp:=by
 refine⟨λ A G s H us vs Q hr Y hR r a3=>?_⟩;have hl:=len _ _ _ _ a3;refine wl λ _ kk=>?_;obtain⟨pm,c',a1,h1,h2,h3,h4,h5,h6⟩:=id hR;have a5:s.heap.NoLimit:=Y.mod.nolimit.keeps λ b o e=>(Y.bs b o e).1;refine kk ?_;refine PySem.W.kla_callFunE hr.depth (aE1 Y.hok h1) rfl S.co S.gen rfl (aM2 Y.hok h2) ?_;rw[a0 pm c' a1 us (by rw[<-r.length];exact hl)];refine aF (aA6 S.kind (λ y hy=>?_) λ env he s1 x=>?_)
 .rcases S.par y.1 (eh (show(y.1,y.2)∈ps.zip us from hy)).1 with q|q
  .exact .inl q
  .exact .inr ⟨q,qM q⟩
 .subst he;refine⟨a5.keeps x.toInCall.keep,PySem.W.kla_codeExpr ?_⟩;obtain⟨t,ht,hq⟩:=Z A G s H (.ref c') vs Q (hr.deeper _) hR (λ b o e=>(Y.bs b o (Y.mod.kin b o e)).2) a3;have I:=bs0 S hr.hd Y hl a6 r h3 h4 h5 h6 x;refine cr (ht [] s1 _ _ _ I hq) (λ u s' hs=>?_) λ e s' hs=>hs.elim;obtain⟨v,H',J,rv,q⟩:=hs;obtain⟨un,a4⟩:=bn5 Y.hok h3 Y.frf J.base J.hok;have a2:∀ b,isC h b=cn->H' b=none:=λ b y=>by
   obtain⟨o,v,z,_⟩:=h3.at y;exact(show Un (frs G) [] (ah0 h H) H' s.heap s'.heap from J.base).free b o (Y.hok b _ z).1 (ah0.cell y) (by simp)
  exact⟨v,_,J.os,J.bare,un,a4,rv,q a2⟩
def Rp.sameT (r:Rp Γ C H s)(e:bi5 H H')(st:∀ b,H b≠bY->H' b≠bY)(tb:TabsH Γ.T H'):Gr C s H C s H'/\Rp Γ C H' s:=by
 have kp:Kp H H':=λ b o h f=>e b o (λ ps z=>by subst z;cases f) h;have Y:Gw C s.length H C H':=⟨λ _ _=>rfl,kp⟩
 refine⟨⟨Y,ai _,λ i h1 Z=>iF Z (by omega),λ i o o' e e'=>by lia,st,λ b o h J _=>e b o J h⟩,r.inj,λ i o G=>?_,r.wf,tb⟩;exact(r.obj i o G).mono Y (r.wf i o G) λ m u hu=>by
  obtain⟨u',y,_,J⟩:=(r.obj i o G).there m;rw[hu]at y;cases y;exact e _ _ J hu
def Cells.kp (h:Cells clos H)(k:Kp H H'):Cells clos H':=λ x c e=>by
 obtain⟨o,v,q,d⟩:=h x c e;exact⟨o,v,k _ _ q rfl,d⟩
def PVp (Γ:Gm)(cells:yB)(N:yH)(W:St)(C:Nat->Addr)(H:Hp)(d:mM)(v:V):Prop:=RV Γ C H d v\/∃ id cs,d=.clo id cs/\∃ f J,v=.ref f/\Γ.lg id J/\an6 H f J (ai8 cells J.scope.names []) /\
  cs.length=J.fr.length/\(∀ x,J.scope.names.lookup x=aT .free->∃ c,cells.lookup x=aT c) /\
  ∃ cap,RVL Γ C H cs cap/\∀(i:Nat)  x   v ,J.fr[i]?=aT x->cap[i]?=aT v->J.scope.names.lookup x=aT .free/\∃ j:Nat,N[j]?=aT x/\W[j]?=aT (aT v)
inductive PVL (Γ:Gm)(cells:yB)(N:yH)(W:St)(C:Nat->Addr)(H:Hp):List mM->List V->Prop where
 | nil:PVL Γ cells N W C H [] []
 | cons {d v l vs} (a:PVp Γ cells N W C H d v) (b:PVL Γ cells N W C H l vs):PVL Γ cells N W C H (d::l) (v::vs)
theorem PVp.mono (g:Gr C s H C' s' H')(b:d.bnd s.length=cn)(h:PVp Γ cells N W C H d v):PVp Γ cells N W C' H' d v:=by
 rcases h with h|⟨id,cs,rfl,h⟩
 .exact .inl (RV.mono g _ _ b h)
 .refine wl λ _ kk=>?_;obtain⟨f,J,e,y,Z,h4,G,cap,Y,h7⟩:=h;unfold mR at b;exact kk $ .inr ⟨id,cs,rfl,f,J,e,y,Z.kp g.w.kp,h4,G,cap,RVL.mono g cs cap b Y,h7⟩
def PVp.caught (ca:Caught cells N kd W H1 H2)(a0:∀ x c,cells.lookup x=aT c->kd x=aT .cell\/kd x=aT .free){d:mM}{v:V}(b:d.bnd n=cn)(h:PVp Γ cells N W C H1 d v):RV Γ C H2 d v:=by
 have gw:Gw C n H1 C H2:=⟨λ _ _=>rfl,λ b o e _=>ca.same b o e⟩
 rcases h with h|⟨id,cs,rfl,h⟩
 .exact RV.monoW gw _ _ b h
 .obtain⟨f,J,e,h1,G,h4,Z,cap,h6,h7⟩:=h;unfold mR at b;unfold RV;have y:∀(i:Nat) (x:Str) (v:V),J.fr[i]?=aT x->cap[i]?=aT v->J.scope.names.lookup x=aT .free/\(kd x=aT .cell\/kd x=aT .free)/\∃ j:Nat,N[j]?=aT x/\W[j]?=aT (aT v):=λ i x v e1 e2=>by
   obtain⟨q1,q2⟩:=h7 i x v e1 e2;obtain⟨c,q3⟩:=Z x q1;exact⟨q1,a0 x c q3,q2⟩
  have Y:CloAt H2 f J cap (ai8 cells J.scope.names []):=by
   unfold CloAt;unfold an6 at G;cases q:J.nm with
   | none=>rw[q]at G;exact by8 ca G Z y
   | some p=>rw[q]at G;exact bx0 ca G Z y
  exact⟨f,cap,J,_,e,h1,Y,by rw[h6.length,h4],RVL.monoW gw cs cap b h6⟩
theorem PVL.caught (J:Caught cells N kd W G H2)(y:∀ x c,cells.lookup x=aT c->kd x=aT .cell\/kd x=aT .free)(h:PVL Γ cells N W C G l vs)(b:mN n l=cn):RVL Γ C H2 l vs:=by
 induction h with
 | nil=>exact .nil
 | cons a _ ih =>
  unfold mN at b;rw[aw]at b;exact .cons (a.caught J y b.1) (ih b.2)
end
variable {Γ:Gm} {X:Cx}
def TEv (Γ:Gm)(m:mO->mK->mP mM):TE:=λ W H Q=>∃ C U s d s',RE Γ C H s.length U W/\Rp Γ C H s/\m U s=.ok d s'/\aj2 Γ C s H d s' Q
def cf8 (Γ:Gm)(C:Nat->Addr)(s:mK)(H:Hp)(l:List mM)(s':mK)(Q:List V->Hp->Prop):Prop :=
 ∀ vs C' H',Gr C s H C' s' H'->s.length<=s'.length->mN s'.length l=cn->RVL Γ C' H' l vs->Rp Γ C' H' s'->Q vs H'
def TAv (Γ:Gm)(m:mO->mK->mP (List mM)):TA:=λ W H Q=>∃ C U s l s',RE Γ C H s.length U W/\Rp Γ C H s/\m U s=.ok l s'/\cf8 Γ C s H l s' Q
def aV0 (Γ:Gm)(C:Nat->Addr)(s:mK)(H:Hp)(b:Bool)(s':mK)(Q:Bool->Hp->Prop):Prop :=
 ∀ C' H',Gr C s H C' s' H'->s.length<=s'.length->Rp Γ C' H' s'->Q b H'
def TTv (Γ:Gm)(m:mO->mK->mP mM):TT:=λ W H Q=>∃ C U s b s',RE Γ C H s.length U W/\Rp Γ C H s/\m U s=.ok (.T b) s'/\aV0 Γ C s H b s' Q
def PE.imp (h:PE X e t)(i:∀ W H Q,t' W H Q->t W H Q):PE X e t':=λ y s W H Q I q=>h y s W H Q I (i W H Q q)
def PT.imp (h:PT X e t)(i:∀ W H Q,t' W H Q->t W H Q):PT X e t':=λ y s W H Q I q=>h y s W H Q I (i W H Q q)
def PA.imp (h:PA X e t)(i:∀ W H Q,t' W H Q->t W H Q):PA X e t':=λ pos y s W H Q I q=>h pos y s W H Q I (i W H Q q)
theorem aV0.trans (h:aV0 Γ C s H b s' Q)(g:Gr C s H C1 s1 y)(l:s.length<=s1.length):aV0 Γ C1 s1 y b s' Q :=
 λ C' H' g' G p=>h C' H' (g.trans g' l) (am l G) p
set_option tactic.hygienic true in
def cb9  i (h:TEv Γ (λ U s=>oE U i s) W H Q):bI7 i W H Q:=by
 obtain⟨C,U,s,d,s',E,R,y,q⟩:=h;simp only[oE]at y;split at y
 .rename_i d' e;cases y;obtain⟨b,v,e1,e2⟩:=E.val i _ e;exact⟨v,e1,q.here R b e2⟩
 .exact fb y
def aL1 (hb:∀ n,c.bnd n=cn)(hv:∀ C H,RV Γ C H c v)(h:TEv Γ (λ U s=>.ok c s) W H Q):tC v W H Q:=by
 obtain⟨C,U,s,d,s',E,R,y,q⟩:=h;cases y;exact q.here R (hb _) (hv _ _)
def be0 (h:TEv Γ (λ U s=>(m1 U s).bind λ x s=>(Z U s).bind λ y s=>f x y s) W H Q):tOp (rOp Γ f) (TEv Γ m1) (TEv Γ Z) W H Q:=by
 refine wl λ _ kk=>?_;obtain⟨C,U,s,d,s',E,R,G,q⟩:=h;obtain⟨x,s1,e1,G⟩:=aa1 G;obtain⟨y,s2,e2,G⟩:=aa1 G;refine kk ⟨C,U,s,x,s1,E,R,e1,λ v1 C1 H1 g1 l1 J r1 R1=>?_⟩;refine⟨C1,U,s1,y,s2,E.mono g1 l1,R1,e2,λ v2 C2 H2 g2 Y b2 r2 R2=>?_⟩;exact⟨C2,s2,x,y,d,s',R2,RV.mono g2 x v1 J r1,r2,zH Y x J,b2,G,q.trans (g1.trans g2 l1) (am l1 Y)⟩
def cw2 {f:mM->mK->mP mM}(h:TEv Γ (λ U s=>(m U s).bind λ x s=>f x s) W H Q)
  (Y:∀ C s x d s' v H',Rp Γ C H' s->RV Γ C H' x v->x.bnd s.length=cn->f x s=.ok d s'->aj2 Γ C s H' d s' Q->r v H' Q):tUn r (TEv Γ m) W H Q:=by
 refine wl λ _ kk=>?_;obtain⟨C,U,s,d,s',E,R,y,q⟩:=h;obtain⟨x,s1,e1,y⟩:=aa1 y;exact kk ⟨C,U,s,x,s1,E,R,e1,λ J C1 Z g1 l1 G r1 R1=>Y C1 s1 x d s' J Z R1 r1 G y (q.trans g1 l1)⟩
def qj {a:α}(h:mY r f=.ok a t):∃ b s,r=.ok (.T b) s/\f b s=.ok a t:=by
 unfold mY at h;obtain⟨d,s,e,h⟩:=aa1 h;cases d with
 | T b=>exact⟨b,s,e,h⟩
 | _=>exact fb h
def aW1 (h:TTv Γ m W H Q):tB (TEv Γ m) W H Q:=by
 obtain⟨C,U,s,b,s',E,R,G,q⟩:=h;refine⟨C,U,s,.T b,s',E,R,G,λ v C' H' g l J r y=>?_⟩;exact⟨b,r.blE,q C' H' g l y⟩
def aQ1 (h:TTv Γ m W H Q):bL6 (TEv Γ m) W H Q:=aW1 h
def ck1 (h:TTv Γ (λ U s=>mY (m U s) λ b s=>.ok (.T (!b)) s) W H Q):cy0 (TTv Γ m) W H Q:=by
 refine wl λ _ kk=>?_;obtain⟨C,U,s,b,s',E,R,y,q⟩:=h;obtain⟨c,s1,e1,y⟩:=qj y;cases y;exact kk ⟨C,U,s,c,_,E,R,e1,q⟩
def bG4 (h:TTv Γ (λ U s=>mY (G U s) λ c s=>if c then mY (J U s) λ c s=>.ok (.T c) s else .ok (.T dt) s) W H Q):cw9 (TTv Γ G) (TTv Γ J) W H Q:=by
 refine wl λ _ kk=>?_;obtain⟨C,U,s,b,s',E,R,y,q⟩:=h;obtain⟨c,s1,e1,y⟩:=qj y;refine kk ⟨C,U,s,c,s1,E,R,e1,λ C1 Y g1 l1 R1=>?_⟩;cases c with
 | true =>
  rw[gc rfl]at y ⊢;obtain⟨Z,s2,e2,y⟩:=qj y;cases y;exact⟨C1,U,s1,_,_,E.mono g1 l1,R1,e2,q.trans g1 l1⟩
 | false =>
  rw[gn aS]at y ⊢;cases y;exact q C1 Y g1 l1 R1
def cj3 (h:TTv Γ (λ U s=>mY (G U s) λ c s=>if c then .ok (.T cn) s else mY (J U s) λ c s=>.ok (.T c) s) W H Q):tOr (TTv Γ G) (TTv Γ J) W H Q:=by
 refine wl λ _ kk=>?_;obtain⟨C,U,s,b,s',E,R,y,q⟩:=h;obtain⟨c,s1,e1,y⟩:=qj y;refine kk ⟨C,U,s,c,s1,E,R,e1,λ C1 Y g1 l1 R1=>?_⟩;cases c with
 | true =>
  rw[gc rfl]at y ⊢;cases y;exact q C1 Y g1 l1 R1
 | false =>
  rw[gn aS]at y ⊢;obtain⟨Z,s2,e2,y⟩:=qj y;cases y;exact⟨C1,U,s1,_,_,E.mono g1 l1,R1,e2,q.trans g1 l1⟩
def ce0 (h:TEv Γ (λ U s=>mY (m U s) λ b s=>.ok (.T (!b)) s) W H Q):cb5 (TEv Γ m) W H Q:=by
 refine wl λ _ kk=>?_;obtain⟨C,U,s,d,s',E,R,y,q⟩:=h;obtain⟨c,s1,e1,y⟩:=qj y;cases y;exact kk ⟨C,U,s,.T c,_,E,R,e1,λ v C1 G g l b r R1=>⟨c,r.blE,q _ C1 G g l rfl RV.blI R1⟩⟩
def bG2 (h:TEv Γ (λ U s=>mY (G U s) λ c s=>if c then mY (J U s) λ c s=>.ok (.T c) s else .ok (.T dt) s) W H Q):cg5 (TEv Γ G) (TEv Γ J) W H Q:=by
 refine wl λ _ kk=>?_;obtain⟨C,U,s,d,s',E,R,y,q⟩:=h;obtain⟨c,s1,e1,y⟩:=qj y;refine kk ⟨C,U,s,.T c,s1,E,R,e1,λ v C1 Y g1 l1 Z r1 R1=>⟨c,r1.blE,?_⟩⟩;cases c with
 | true =>
  rw[gc rfl]at y ⊢;obtain⟨c,s2,e2,y⟩:=qj y;cases y;exact⟨C1,U,s1,.T c,_,E.mono g1 l1,R1,e2,q.trans g1 l1⟩
 | false =>
  rw[gn aS]at y ⊢;cases y;exact q _ C1 Y g1 l1 rfl RV.blI R1
def cd8 (h:TEv Γ (λ U s=>mY (G U s) λ c s=>if c then .ok (.T cn) s else mY (J U s) λ c s=>.ok (.T c) s) W H Q):cy9 (TEv Γ G) (TEv Γ J) W H Q:=by
 refine wl λ _ kk=>?_;obtain⟨C,U,s,d,s',E,R,y,q⟩:=h;obtain⟨c,s1,e1,y⟩:=qj y;refine kk ⟨C,U,s,.T c,s1,E,R,e1,λ v C1 Y g1 l1 Z r1 R1=>⟨c,r1.blE,?_⟩⟩;cases c with
 | true =>
  rw[gc rfl]at y ⊢;cases y;exact q _ C1 Y g1 l1 rfl RV.blI R1
 | false =>
  rw[gn aS]at y ⊢;obtain⟨c,s2,e2,y⟩:=qj y;cases y;exact⟨C1,U,s1,.T c,_,E.mono g1 l1,R1,e2,q.trans g1 l1⟩
def co0 (h:TEv Γ (λ U s=>mY (mc U s) λ k s=>if k then G U s else J U s) W H Q):tIf (TTv Γ mc) (TEv Γ G) (TEv Γ J) W H Q:=by
 refine wl λ _ kk=>?_;obtain⟨C,U,s,d,s',E,R,y,q⟩:=h;obtain⟨c,s1,e1,y⟩:=qj y;refine kk ⟨C,U,s,c,s1,E,R,e1,λ C1 Y g1 l1 R1=>?_⟩;cases c with
 | true =>
  rw[gc rfl]at y ⊢;exact⟨C1,U,s1,d,s',E.mono g1 l1,R1,y,q.trans g1 l1⟩
 | false =>
  rw[gn aS]at y ⊢;exact⟨C1,U,s1,d,s',E.mono g1 l1,R1,y,q.trans g1 l1⟩
def aV8 (h:TEv Γ (λ U s=>(ma U s).bind λ x s=>(mb U s).bind λ y s=>mY (f x y s) λ k s=>if k then(mc U s).bind λ z s=>g y z s else .ok (.T dt) s) W H Q) :
  bk8 (rOp Γ f) (rOp Γ g) (TEv Γ ma) (TEv Γ mb) (TEv Γ mc) W H Q:=by
 refine wl λ _ kk=>?_;obtain⟨C,U,s,d,s',E,R,J,q⟩:=h;obtain⟨x,s1,e1,J⟩:=aa1 J;obtain⟨y,s2,e2,J⟩:=aa1 J;obtain⟨c,s3,e3,J⟩:=qj J;refine kk ⟨C,U,s,x,s1,E,R,e1,λ v1 C1 H1 g1 l1 b1 r1 R1=>?_⟩;refine⟨C1,U,s1,y,s2,E.mono g1 l1,R1,e2,λ v2 C2 H2 g2 Z Y r2 R2=>?_⟩;refine⟨C2,s2,x,y,.T c,s3,R2,RV.mono g2 x v1 b1 r1,r2,zH Z x b1,Y,e3,λ v3 C3 H3 g3 l3 b3 r3 R3=>⟨c,r3.blE,?_⟩⟩;have G:=(g1.trans g2 l1).trans g3 (am l1 Z);have L:=am (am l1 Z) l3;cases c with
 | true =>
  rw[gc rfl]at J ⊢;obtain⟨z,s4,e4,J⟩:=aa1 J;refine⟨C3,U,s3,z,s4,E.mono G L,R3,e4,λ v4 C4 H4 g4 l4 b4 r4 R4=>?_⟩;exact⟨C4,s4,y,z,d,s',R4,RV.mono (g3.trans g4 l3) y v2 Y r2,r4,zH (am l3 l4) y Y,b4,J,q.trans (G.trans g4 L) (am L l4)⟩
 | false =>
  rw[gn aS]at J ⊢;cases J;exact q _ C3 H3 G L rfl RV.blI R3
def aY1 (h:TAv Γ (λ U s=>.ok [] s) W H Q):bu9 W H Q:=by
 obtain⟨C,U,s,d,s',E,R,y,q⟩:=h;cases y;exact q [] C H (Gr.refl _ _ _) (ai _) rfl .nil R
def bN7 (h:TAv Γ (λ U s=>(m U s).bind λ d s=>(ms U s).bind λ l s=>.ok (d::l) s) W H Q):az6 (TEv Γ m) (TAv Γ ms) W H Q:=by
 refine wl λ _ kk=>?_;obtain⟨C,U,s,l,s',E,R,G,q⟩:=h;obtain⟨x,s1,e1,G⟩:=aa1 G;obtain⟨y,s2,e2,G⟩:=aa1 G;cases G;refine kk ⟨C,U,s,x,s1,E,R,e1,λ Y C1 H1 g1 l1 J r1 R1=>?_⟩;refine⟨C1,U,s1,y,_,E.mono g1 l1,R1,e2,λ v2 C2 H2 g2 Z b2 r2 R2=>?_⟩;refine q (Y::v2) C2 H2 (g1.trans g2 l1) (am l1 Z) ?_ (.cons (RV.mono g2 x Y J r1) r2) R2;unfold mN;rw[zH Z x J,b2];rfl
def aR4 (h:TEv Γ (λ U s=>(G U s).bind λ l s=>f l s) W H Q):tCB (rCl Γ f) (TAv Γ G) W H Q:=by
 refine wl λ _ kk=>?_;obtain⟨C,U,s,d,s',E,R,y,q⟩:=h;obtain⟨l,s1,e1,y⟩:=aa1 y;exact kk ⟨C,U,s,l,s1,E,R,e1,λ vs C1 Y g1 l1 J r1 R1=>⟨C1,s1,l,d,s',R1,r1,J,y,q.trans g1 l1⟩⟩
def cv3  :
  (TEv Γ (λ U s=>(m U s).bind λ x s=>(ml U s).bind λ y s=>match y with|.int i=>oh x (aT i) bY s|_=>.B) W H Q->tSl (rSl Γ) (TEv Γ m) (bn8 (TEv Γ ml)) aQ8 W H Q) /\
  (TEv Γ (λ U s=>(m U s).bind λ x s=>(mh U s).bind λ y s=>match y with|.int i=>oh x bY (aT i) s|_=>.B) W H Q->tSl (rSl Γ) (TEv Γ m) aQ8 (bn8 (TEv Γ mh)) W H Q) /\
  (TEv Γ (λ U s=>(m U s).bind λ x s=>(ml U s).bind λ y s=>match y with|.int i=>(mh U s).bind (λ z s=>match z with|.int j=>oh x (aT i) (aT j) s|_=>.B)|_=>.B) W H Q->tSl (rSl Γ) (TEv Γ m) (bn8 (TEv Γ ml)) (bn8 (TEv Γ mh)) W H Q):=by
 refine⟨λ h=>?_,λ h=>?_,λ h=>?_⟩
 .obtain⟨C,U,s,d,s',E,R,G,q⟩:=h;obtain⟨x,s1,e1,G⟩:=aa1 G;obtain⟨y,s2,e2,G⟩:=aa1 G;refine⟨C,U,s,x,s1,E,R,e1,λ v1 C1 H1 g1 l1 Z r1 R1=>?_⟩;refine⟨C1,U,s1,y,s2,E.mono g1 l1,R1,e2,λ v2 C2 H2 Y J b2 r2 R2=>?_⟩;cases y with
  | int i=>exact⟨i,r2.intE,C2,s2,x,d,s',R2,RV.mono Y x v1 Z r1,zH J x Z,G,q.trans (g1.trans Y l1) (am l1 J)⟩
  | _=>exact fb G
 .obtain⟨C,U,s,d,s',E,R,G,q⟩:=h;obtain⟨x,s1,e1,G⟩:=aa1 G;obtain⟨y,s2,e2,G⟩:=aa1 G;refine⟨C,U,s,x,s1,E,R,e1,λ v1 C1 H1 g1 l1 Z r1 R1=>?_⟩;refine⟨C1,U,s1,y,s2,E.mono g1 l1,R1,e2,λ v2 C2 H2 Y J b2 r2 R2=>?_⟩;cases y with
  | int i=>exact⟨i,r2.intE,C2,s2,x,d,s',R2,RV.mono Y x v1 Z r1,zH J x Z,G,q.trans (g1.trans Y l1) (am l1 J)⟩
  | _=>exact fb G
 .obtain⟨C,U,s,d,s',E,R,G,q⟩:=h;obtain⟨x,s1,e1,G⟩:=aa1 G;obtain⟨y,s2,e2,G⟩:=aa1 G;refine⟨C,U,s,x,s1,E,R,e1,λ v1 C1 H1 g1 l1 Z r1 R1=>?_⟩;refine⟨C1,U,s1,y,s2,E.mono g1 l1,R1,e2,λ v2 C2 H2 Y J b2 r2 R2=>?_⟩;cases y with
  | int i =>
   obtain⟨z,s3,e3,G⟩:=aa1 G;refine⟨i,r2.intE,C2,U,s2,z,s3,E.mono (g1.trans Y l1) (am l1 J),R2,e3,λ v3 C3 H3 g3 l3 b3 r3 R3=>?_⟩;cases z with
   | int j=>exact⟨j,r3.intE,C3,s3,x,d,s',R3,RV.mono (Y.trans g3 J) x v1 Z r1,zH (am J l3) x Z,G,q.trans ((g1.trans Y l1).trans g3 (am l1 J)) (am (am l1 J) l3)⟩
   | _=>exact fb G
  | _=>exact fb G
variable {Γ:Gm} {X:Cx}
def am2 (Γ:Gm)(J:It)(C0:Nat->Addr)(H0:Hp)(s0:mK)(q:nM):Prop :=
 ∀ C H s,Gr C0 s0 H0 C s H->s0.length<=s.length->Rp Γ C H s->nJ s0 s q.src=cn->∀ i:Nat,
  (i<q.its.length->J.go i H/\∀ x H',J.yld i H x H'->ak4 H H'/\∀ d,q.its[i]?=aT d->RV Γ C H' d x)/\(q.its.length<=i->J.stop i H)
def TIv (Γ:Gm)(m:mO->mK->mP nM):TI:=λ W H R=>∃ C U s q s',RE Γ C H s.length U W/\Rp Γ C H s/\m U s=.ok q s' /\
 ∀ J C' H',Gr C s H C' s' H'->s.length<=s'.length->mN s'.length q.its=cn->Rp Γ C' H' s'->am2 Γ J C' H' s' q->R J H'
def PI.imp (h:PI X tg e t)(i:∀ W H R,t' W H R->t W H R):PI X tg e t':=λ y s W H R I q=>h y s W H R I (i W H R q)
def PI.or (h:PI X tg e t)(h':PI X tg e t'):PI X tg e (λ W H R=>t W H R\/t' W H R):=λ y s W H R I q=>q.elim (h y s W H R I) (h' y s W H R I)
def aS7 (h:SqT Γ.K H0 a J)(hl:RVL Γ C0 H0 l J)(hb:mN s0.length l=cn):am2 Γ (Itt Γ.K a) C0 H0 s0 ⟨l,[]⟩:=by
 intro C H s g _ R _ i;have h':=g.w.kp.sqT h;have G:=RVL.mono g l J hb hl;refine⟨λ hlt=>⟨⟨J,J[i]'(by rw[G.length];exact hlt),h',ac _⟩,λ x H' y=>?_⟩,λ Y=>⟨J,h',by rw[G.length];exact Y⟩⟩;obtain⟨e,y⟩:=y;subst e;refine⟨ak4.refl _,λ d hd=>?_⟩;obtain⟨v,e1,e2⟩:=G.get hd
 simp_all
def bo9 (h:SqF Γ.K H0 a J)(hl:RVL Γ C0 H0 l J)(hb:mN s0.length l=cn):am2 Γ (Itl Γ.K a) C0 H0 s0 ⟨l,[]⟩:=by
 intro C H s g _ R _ i;have h':=h.2 _ g.w.kp;have G:=RVL.mono g l J hb hl;refine⟨λ hlt=>⟨⟨J,J[i]'(by rw[G.length];exact hlt),h',ac _⟩,λ x H' y=>?_⟩,λ Y=>⟨J,h',by rw[G.length];exact Y⟩⟩;obtain⟨e,y⟩:=y;subst e;refine⟨ak4.refl _,λ d hd=>?_⟩;obtain⟨v,e1,e2⟩:=G.get hd
 simp_all
def aY4 (hr:s0[r]?=aT (.J l)):am2 Γ (Itl Γ.K (C0 r)) C0 H0 s0 ⟨l,[r]⟩:=by
 intro C H s g _ R Y i;have G:=(ab.mp hr).1;have hs:s[r]?=aT (.J l):=by
  unfold nJ at Y;simp only[cA,fC,du,iN]at Y;rw[Y];exact hr
 obtain⟨J,e,h⟩:=R.addr hs;rw[g.w.map r G]at e;have h':SqL Γ.K H (C0 r) J:=SqL.of e;refine⟨λ hlt=>⟨⟨J,J[i]'(by rw[h.length];exact hlt),h',ac _⟩,λ x H' y=>?_⟩,λ Z=>⟨J,h',by rw[h.length];exact Z⟩⟩;obtain⟨e,y⟩:=y;subst e;refine⟨ak4.refl _,λ d hd=>?_⟩;obtain⟨v,e1,e2⟩:=h.get hd
 simp_all
def aW6 {l:List Nat}:am2 Γ (Its ⟨l.toArray⟩) C0 H0 s0 ⟨l.map λ c=>.str [c],[]⟩:=by
 intro C H s g _ R _ i;have hsz:(⟨l.toArray⟩:Str).cps.size=l.length:=by simp
 refine⟨λ hlt=>?_,λ h=>?_⟩
 .simp only[ar]at hlt;refine⟨show i<(⟨l.toArray⟩:Str).cps.size by rw[hsz];exact hlt,λ x H' y=>?_⟩;obtain⟨e,c,hc,rfl⟩:=y;subst e;refine⟨ak4.refl _,λ d hd=>?_⟩;have G:=by simpa using hc
  rw[ao,G]at hd;cases hd;exact RV.strI (by simp;decide)
 .simp only[ar]at h;show(⟨l.toArray⟩:Str).cps.size<=i;rw[hsz];exact h
def bD1 :am2 Γ (Itr a (b - a).toNat) C0 H0 s0 ⟨ou a b,[]⟩:=by
 intro C H s g _ R _ i;have hn:(ou a b).length=(b - a).toNat:=by simp[ou]
 refine⟨λ hlt=>⟨show i<(b - a).toNat by rw[<-hn];exact hlt,λ x H' y=>?_⟩,λ h=>show(b - a).toNat<=i by rw[<-hn];exact h⟩;obtain⟨e,rfl⟩:=y;subst e;refine⟨ak4.refl _,λ d hd=>?_⟩;simp only[ou]at hd hlt;rw[ao,aY (by simp_all)]at hd;cases hd;exact RV.intI
set_option tactic.hygienic true in
def bO3 (h:TIv Γ (λ U s=>(m U s).bind λ x s=>match x with|.int i=>if -oN<=i/\i<oN then .ok ⟨ou 0 i,[]⟩ s else .B|_=>.B) W H R) :
  ck2 (az6 (TEv Γ m) bu9) W H R:=by
 refine wl λ _ kk=>?_;obtain⟨C,U,s,q,s',E,P,y,k⟩:=h;obtain⟨x,s1,e1,y⟩:=aa1 y;refine kk ⟨C,U,s,x,s1,E,P,e1,λ v C1 J g l b r Y=>?_⟩;cases x with
 | int i =>
  simp only at y;split at y
  .rename_i G;cases y;have hw:oN=2^62:=by decide
   rw[hw]at G;refine⟨i,by rw[r.intE],G.1,G.2,k _ C1 J g l ?_ Y ?_⟩
   .refine ad8.mpr λ d hd=>?_;simp only[ou,au]at hd;obtain⟨_,_,rfl⟩:=hd;rfl
   .have:=bD1 (Γ:=Γ) (C0:=C1) (H0:=J) (s0:=s') (a:=0) (b:=i)
    rwa [mn]at this
  .exact fb y
 | _=>exact fb y
def cn2 (h:TIv Γ (λ U s=>(m U s).bind λ d s=>DV.ay0 d s) W H R) :
  cw5 Γ.K (TEv Γ m) W H R\/bU4 Γ.K (TEv Γ m) W H R\/cz8 (TEv Γ m) W H R:=by
 refine wl λ _ kk=>?_;obtain⟨C,U,s,q,s',E,P,y,k⟩:=h;obtain⟨x,s1,e1,y⟩:=aa1 y;unfold DV.ay0 at y;refine kk ?_;cases x with
 | tp l =>
  cases y;refine .inl ⟨C,U,s,_,_,E,P,e1,λ v C1 J g l b r G=>?_⟩;obtain⟨a,Y,rfl,h1,d1⟩:=r.tupE;unfold mR at b;exact⟨a,rfl,⟨Y,h1⟩,k _ C1 J g l b G (aS7 h1 d1 b)⟩
 | str l =>
  cases y;refine .inr (.inr ⟨C,U,s,_,_,E,P,e1,λ v C1 J g Z b r G=>?_⟩);refine⟨_,r.strE,k _ C1 J g Z ?_ G aW6⟩;refine ad8.mpr λ d hd=>?_;simp only[au]at hd;obtain⟨_,_,rfl⟩:=hd;rfl
 | ref r =>
  simp only at y;cases hs:s1[r]? with
  | none=>rw[hs]at y;cases y
  | some o =>
   rw[hs]at y;cases o with
   | J l =>
    cases y;refine .inr (.inl ⟨C,U,s,_,_,E,P,e1,λ v C1 J g Z b rr G=>?_⟩);have e:=rr.refE;subst e;obtain⟨Y,e2,d1⟩:=G.addr hs;have wf:=G.wf _ _ hs;unfold mT at wf;exact⟨C1 r,rfl,⟨Y,SqL.of e2⟩,k _ C1 J g Z wf G (aY4 hs)⟩
   | ro l =>
    cases y;refine .inr (.inl ⟨C,U,s,_,_,E,P,e1,λ v C1 J g Z b rr G=>?_⟩);have e:=rr.refE;subst e;obtain⟨Y,e2,d1⟩:=G.obj _ _ hs;have wf:=G.wf _ _ hs;unfold mT at wf;exact⟨C1 r,rfl,⟨Y,e2.1⟩,k _ C1 J g Z wf G (bo9 e2 d1 wf)⟩
   | dc l=>exact fb y
   | ins c l=>exact fb y
 | _=>exact fb y
def bW5 (h:ol d s=.ok q s'):s'=s/\∀ C H v,RV Γ C H d v->Rp Γ C H s->d.bnd s.length=cn ->
  ∃ J,Sr Γ.K H v J/\am2 Γ J C H s q/\mN s.length q.its=true:=by
 unfold ol at h;cases d with
 | tp l =>
  cases h;refine⟨rfl,λ C H v r P b=>?_⟩;obtain⟨a,y,rfl,Y,d1⟩:=r.tupE;unfold mR at b;exact⟨_,.inr (.inl ⟨a,rfl,⟨y,Y⟩,rfl⟩),aS7 Y d1 b,b⟩
 | str l =>
  cases h;refine⟨rfl,λ C H v r P b=>⟨_,.inr (.inr ⟨_,r.strE,rfl⟩),aW6,?_⟩⟩;refine ad8.mpr λ d hd=>?_;simp only[au]at hd;obtain⟨_,_,rfl⟩:=hd;rfl
 | ref r =>
  simp only at h;cases hs:s[r]? with
  | none=>rw[hs]at h;cases h
  | some o =>
   rw[hs]at h;cases o with
   | J l =>
    cases h;refine⟨rfl,λ C H v G P b=>?_⟩;have e:=G.refE;subst e;obtain⟨y,e2,d1⟩:=P.addr hs;have wf:=P.wf _ _ hs;unfold mT at wf;exact⟨_,.inl ⟨_,rfl,⟨y,SqL.of e2⟩,rfl⟩,aY4 hs,wf⟩
   | ro l =>
    cases h;refine⟨rfl,λ C H v G P b=>?_⟩;have e:=G.refE;subst e;obtain⟨y,e2,d1⟩:=P.obj _ _ hs;have wf:=P.wf _ _ hs;unfold mT at wf;exact⟨_,.inl ⟨_,rfl,⟨y,e2.1⟩,rfl⟩,bo9 e2 d1 wf,wf⟩
   | dc l=>exact fb h
   | ins c l=>exact fb h
 | _=>exact fb h
def bm0 (h:oO d s=.ok q s'):ol d s=.ok q s'/\∀ x,d≠.str x:=by
 unfold oO at h;unfold ol;cases d with
 | tp l=>exact⟨h,λ x e=>nomatch e⟩
 | ref r=>exact⟨h,λ x e=>nomatch e⟩
 | _=>exact fb h
theorem aw3:∀ l  (n i:Nat),(nv n l)[i]?=(l[i]?).map λ d=>.tp [.int ((n+i:Nat)),d]
 | [],n,i=>by rw[nv];simp
 | a::l,n,0=>by rw[nv];simp
 | a::l,n,i+1=>by
  rw[nv];have:=aw3 l (n+1) i
  grind
theorem enumL_len:∀ l   n ,(nv n l).length=l.length
 | [],n=>by rw[nv]
 | a::l,n=>by rw[nv];simp[enumL_len l (n+1)]
def aJ7 (w1:am2 Γ Y C0 H0 s0 p)(b1:mN s0.length p.its=cn) :
  am2 Γ (Je Y) C0 H0 s0 ⟨nv 0 p.its,p.src⟩:=by
 intro C H s g hl R Z i;obtain⟨u1,u2⟩:=w1 C H s g hl R Z i;refine⟨λ hlt=>?_,λ G=>?_⟩
 .simp only[enumL_len]at hlt;obtain⟨g1,y1⟩:=u1 hlt;refine⟨g1,λ x H' y=>?_⟩;obtain⟨a,x1,e1,hn,rfl,rfl⟩:=y;have J:ak4 H (upd H a (.tp [.int i,x1])):=(ak4.refl H).new hn;refine⟨J,λ d hd=>?_⟩;have h:=hd;rw[aw3,ac hlt,bB]at h;cases h;obtain⟨gr,R'⟩:=R.same J;have c1:=ad8.mp b1 _ (gG hlt);exact RV.tupI zu (RVL.cons RV.intI (RVL.cons (RV.mono gr _ _ (zH hl _ c1) ((y1 _ _ e1).2 _ (ac hlt))) RVL.nil))
 .simp only[enumL_len]at G;exact u2 G
def aV3 (a:mN n l=cn):mN n (nv 0 l)=true:=by
 refine ad8.mpr λ d hd=>?_;obtain⟨i,h⟩:=fj hd;rw[aw3]at h;cases e:l[i]? with
 | none=>rw[e]at h;cases h
 | some x =>
  rw[e]at h;cases h;unfold mR;exact ad8.mpr λ d hd=>by
   simp only[aL,cK,or_false]at hd;rcases hd with rfl|rfl
   .rfl
   .exact ad8.mp a _ (aC e)
def bL2 (h:TIv Γ (λ U s=>(m1 U s).bind λ x s=>(oO x s).bind λ p s=>.ok ⟨nv 0 p.its,p.src⟩ s) W H R) :
  bY2 Γ.K (az6 (TEv Γ m1) bu9) W H R:=by
 refine wl λ _ kk=>?_;obtain⟨C,U,s,q,s',E,P,G,k⟩:=h;obtain⟨x,s1,e1,G⟩:=aa1 G;obtain⟨p1,s3,J,G⟩:=aa1 G;cases G;obtain⟨J,ns⟩:=bm0 J;obtain⟨rfl,d1⟩:=bW5 J;refine kk ⟨C,U,s,x,_,E,P,e1,λ v C1 H1 g l b r Z=>?_⟩;obtain⟨J1,S1,w1,Y⟩:=d1 C1 H1 v r Z b;rcases S1 with⟨a,e,S,ej⟩|⟨a,e,S,ej⟩|⟨y,e,ej⟩
 .exact⟨a,J1,by rw[e],.inl ⟨S,ej⟩,k _ C1 H1 g l (aV3 Y) Z (aJ7 w1 Y)⟩
 .exact⟨a,J1,by rw[e],.inr ⟨S,ej⟩,k _ C1 H1 g l (aV3 Y) Z (aJ7 w1 Y)⟩
 .subst e;cases x with
  | str z=>exact iF rfl (ns z)
  | tp l=>refine wl λ _ kk=>?_;obtain⟨_,_,z,_⟩:=r.tupE;refine kk ?_;cases z
  | ref n=>cases r.refE
  | _=>simp[ol]at J
variable {Γ:Gm} {X:Cx}
noncomputable def cp2:List Nat->TGs
 | []=>cy4
 | i::is=>cn4 (aH6 i) (cp2 is)
def gOf (K:af):nF->TG
 | .Y i=>aH6 i
 | .tp is=>ct5 K is.length (cp2 is)
set_option tactic.hygienic true in
def br4 (E:RE Γ C H n U W)(r:RV Γ C H d v)(b:d.bnd n=cn)(h:nB U i d=aT U'):RE Γ C H n U' (W.set i (aT v)):=by
 unfold nB at h;split at h
 .rename_i y;cases h;refine⟨by rw[bE,bE];exact E.len,λ j e hj=>?_⟩;by_cases hij:j=i
  .subst hij;rw[a7 y]at hj;cases hj;exact⟨b,v,by rw[a7 (by rw[<-E.len];exact y)],r⟩
  .rw[bq (cg hij)]at hj;obtain⟨G,w,J,h3⟩:=E.val j e hj;exact⟨G,w,by rw[bq (cg hij)];exact J,h3⟩
 .cases h
theorem ck7 :∀ is   l   y   U U'   W ,RE Γ C H n U W->RVL Γ C H l y->mN n l=cn->om U is l=aT U'->(∀ W',RE Γ C H n U' W'->Q W' H)->cp2 is y W H Q
 | [],[],y,U,U',W,E,r,_,h,k=>by
  cases h;exact⟨r.unnil,k W E⟩
 | [],d::l,_,_,_,_,_,_,_,h,_=>by cases h
 | i::is,[],_,_,_,_,_,_,_,h,_=>by cases h
 | i::is,d::l,y,U,U',W,E,r,b,h,k=>by
  have h:(nB U i d).bind (λ U=>om U is l)=aT U':=h;obtain⟨x,G,rfl,J,Y⟩:=r.uncons;unfold mN at b;rw[aw]at b;cases e:nB U i d with
  | none=>simp_all
  | some U1 =>
   rw[e]at h;exact⟨x,G,rfl,ck7 is l G U1 U' _ (br4 E J b.1 e) Y b.2 h k⟩
def bf9 :∀ {is} {U U'},om U is l=aT U'->is.length=l.length:=by
 induction l with
 | nil=>intro is U U' h;cases is with
  | nil=>rfl
  | cons i is=>cases h
 | cons d l ih=>intro is U U' h;cases is with
  | nil=>cases h
  | cons i is =>
   have h:(nB U i d).bind (λ U=>om U is l)=aT U':=h;cases e:nB U i d with
   | none=>simp_all
   | some U1=>rw[e]at h;rw[aQ,aQ,ih h]
def bT1 (E:RE Γ C H n U W)(r:RV Γ C H d v)(b:d.bnd n=cn)(h:nk U tg d=aT U')(k:∀ W',RE Γ C H n U' W'->Q W' H):gOf Γ.K tg v W H Q:=by
 cases tg with
 | Y i=>exact k _ (br4 E r b h)
 | tp is =>
  cases d with
  | tp l =>
   have h:=h;obtain⟨a,y,rfl,G,d1⟩:=r.tupE;unfold mR at b;exact⟨a,y,rfl,G,by rw[d1.length,bf9 h],ck7 is l y U U' W E d1 b h k⟩
  | _=>cases h
def Off (C:Nat->Addr)(s:mK)(b:Addr):Prop:=∀ i   ob ,s[i]?=aT ob->isMut ob=cn->C i≠b
def Off.mono (h:Off C s b)(g:Gr C s H C' s' H')(hb:H b=aT o):Off C' s' b:=λ i ob e m z=>by
 by_cases G:i<s.length
 .obtain⟨y,J⟩:∃ y,s[i]?=aT y:=⟨s[i],ac G⟩
  exact h i y J (g.mu i y ob J e m) (by rw[<-g.w.map i G];exact z)
 .have:=g.new i (by lia) (ab.mp e).1;lia
def Off.new (r:Rp Γ C H s)(h:H b=bY):Off C s b:=λ i ob e m z=>by
 obtain⟨u,hu,_⟩:=(r.obj i ob e).there m;lia
def Rp.foreign (r:Rp Γ C H s)(hb:H b=aT (.J ys))(ho:Off C s b):Rp Γ C (upd H b (.J h)) s:=by
 have g:Gw C s.length H C (upd H b (.J h)):=⟨λ _ _=>rfl,(Kp.refl H).put hb rfl⟩
 exact⟨r.inj,λ i o e=>(r.obj i o e).mono g (r.wf i o e) λ m u hu=>by rw[zr (ho i o e m)];exact hu,r.wf,r.tab.put hb⟩
def Gr.foreign {ys G:List V}(g:Gr C s H C' s' H')(h0:H b=bY)(hb:H' b=aT (.J ys)):Gr C s H C' s' (upd H' b (.J G)):=by
 have ne:∀ c o,H c=aT o->c≠b:=λ c o e=>zV e h0;refine⟨⟨g.w.map,λ c o e f=>?_⟩,g.le,g.new,g.kd,λ c hc=>?_,λ c o e y h=>?_⟩
 .rw[zr (ne c o e)];exact g.w.kp c o e f
 .unfold upd;split
  .simp
  .exact g.st c hc
 .rw[zr (ne c o e)];exact g.fr c o e y h
def ce8 (Γ:Gm)(C:Nat->Addr)(s:mK)(H:Hp)(l:List mM)(s':mK)(Q:VK):Prop :=
 ∀ p ys C' H',Gr C s H C' s' H'->s.length<=s'.length->mN s'.length l=cn->H' p=aT (.J ys)->H p=bY->Off C' s' p->RVL Γ C' H' l ys->Rp Γ C' H' s'->Q (.ref p) H'
def TFv (Γ:Gm)(m:mO->mK->mP (List mM)):TE:=λ W H Q=>∃ C U s l s',RE Γ C H s.length U W/\Rp Γ C H s/\m U s=.ok l s'/\ce8 Γ C s H l s' Q
def bo3 (h:TEv Γ (λ U s=>(m U s).bind λ l s=>nO (.J l) s) W H Q):TFv Γ m W H Q:=by
 obtain⟨C,U,s,d,s',E,R,hm,q⟩:=h;obtain⟨l,s1,e1,hm⟩:=aa1 hm;obtain⟨rfl,rfl⟩:=jj hm;refine⟨C,U,s,l,s1,E,R,e1,λ p ys C' H' g hl hb hp h0 ho r Y=>?_⟩;have gw:Gw C' s1.length H' (λ i=>if i=s1.length then p else C' i) H':=⟨λ i y=>gn (aD y),Kp.refl _⟩
 have key:∀ i   J ,(s1++[DV.O.J l])[i]?=aT J->(i<s1.length/\s1[i]?=aT J)\/(i=s1.length/\J=.J l):=λ i J e=>by
  rcases gh i s1.length with h|h|h
  .rw[ax h]at e;exact .inl ⟨h,e⟩
  .subst h;simp at e;exact .inr ⟨rfl,e.symm⟩
  .rw[bn (by simp;lia)]at e;cases e
 have G:Gr C s H (λ i=>if i=s1.length then p else C' i) (s1++[.J l]) H':=by
  refine⟨⟨λ i y=>by skip;rw[gn (by lia)];exact g.w.map i y,g.w.kp⟩,by simp;lia,λ i h1 h2=>?_,λ i o J e e'=>?_,g.st,g.fr⟩
  .by_cases y:i=s1.length
   .skip
    rw[gc y];exact h0
   .skip
    rw[gn y];exact g.new i h1 (by simp at h2;lia)
  .rcases key i J e' with⟨_,e2⟩|⟨y,_⟩
   .exact g.kd i o J e e2
   simp_all
 have P:Rp Γ (λ i=>if i=s1.length then p else C' i) H' (s1++[.J l]):=by
  refine⟨λ i j oi oj Z ej mi mj e=>?_,λ i o e=>?_,λ i o e=>?_,Y.tab⟩
  .rcases key i oi Z with⟨y,Z⟩|⟨y,_⟩<;>rcases key j oj ej with⟨hj,ej⟩|⟨hj,_⟩
   .rw[gn (aD y),gn (aD hj)]at e;exact Y.inj i j oi oj Z ej mi mj e
   .rw[gn (aD y),gc hj]at e;exact iF e (ho i oi Z mi)
   .rw[gn (aD hj),gc y]at e;exact iF e.symm (ho j oj ej mj)
   .rw[y,hj]
  .rcases key i o e with⟨y,e⟩|⟨y,rfl⟩
   .skip
    rw[gn (aD y)];exact(Y.obj i o e).mono gw (Y.wf i o e) λ _ u hu=>hu
   .skip
    rw[gc y];exact⟨ys,hp,RVL.monoW gw l ys hb r⟩
  .rw[aN,c5];rcases key i o e with⟨_,e⟩|⟨_,rfl⟩
   .exact ja (dX _) _ (Y.wf i o e)
   .exact ja (dX _) _ (by unfold mT;exact hb)
 exact q (.ref p) _ H' G (by simp;omega) (by unfold mR;simp) (by unfold RV;simp) P
def ca9 (E:RE Γ C H n U W) h :RE Γ C H n (n5 U h) (aL4 h W):=by
 refine⟨by unfold n5 aL4;simp,λ i d e=>?_⟩;unfold n5 at e;rw[ao]at e;cases q:h[i]? with
 | none=>simp_all
 | some o =>
  rw[q]at e;cases o with
  | none=>cases e
  | some j =>
   have e':(U[j]?).join=aT d:=aq e;have ej:U[j]?=aT (aT d):=by
    cases q2:U[j]? with
    | none=>rw[q2]at e';cases e'
    | some o2=>rw[q2]at e';exact congrArg aT e'
   obtain⟨b,v,G,y⟩:=E.val j d ej;refine⟨b,v,?_,y⟩;unfold aL4
   simp_all
set_option tactic.hygienic true in
def bu0 
  (h:TFv Γ (λ U s=>(mI U s).bind λ q s0=>if q.its.length<=mU then ow (λ s=>nJ s0 s q.src) (λ d U s=>match nk U tg d with
   | some U=>mY (mc U s) λ k s=>if k then(me U s).bind λ v s=>.ok (aT v,U) s else .ok (bY,U) s
   | none=>.B) q.its (n5 U Y) s0 else .B) W H Q):tComp Y (TIv Γ mI) (gOf Γ.K tg) (TTv Γ mc) (TEv Γ me) W H Q:=by
 obtain⟨C,U,s,l,s',E,R,hm,k⟩:=h;obtain⟨q,s0,e1,hm⟩:=aa1 hm;split at hm
 case isFalse=>exact fb hm
 rename_i b6;refine⟨C,U,s,q,s0,E,R,e1,λ J C1 H1 g1 l1 b1 R1 wk D hD=>?_⟩;have h0:H D=none:=by
  cases e:H D with
  | none=>rfl
  | some o=>exact iF hD (g1.st D (by rw[e];simp))
 refine⟨λ i m W' H'=>∃ C' U' t y ys rest,Gr C1 s0 H1 C' t H'/\Rp Γ C' H' t/\RE Γ C' H' t.length U' W'/\H' D=aT (.J ys)/\Off C' t D/\RVL Γ C' H' y ys/\mN t.length y=cn/\y.length<=i/\i<=q.its.length/\m=q.its.length - i /\
  ow (λ s=>nJ s0 s q.src) (λ d U s=>match nk U tg d with
   | some U=>mY (mc U s) λ k s=>if k then(me U s).bind λ v s=>.ok (aT v,U) s else .ok (bY,U) s
   | none=>.B) (q.its.drop i) U' t=.ok rest s'/\l=y++rest,⟨q.its.length,?_⟩,?_⟩
 .obtain⟨g2,R2⟩:=R1.same ((ak4.refl H1).new hD);exact⟨C1,n5 U Y,s0,[],[],l,g2,R2,ca9 ((E.mono g1 l1).mono g2 (ai _)) Y,zu,Off.new R1 hD,.nil,rfl,ai _,dW _,by simp,by rw[fT];exact hm,rfl⟩
 .rintro i m W' H' ⟨C',U',t,y,ys,rest,g,R',E',hy,a4,ra,ba,c0,hil,rfl,hc,hl⟩
  have G:=g.le;rcases kS i q.its.length with hlt|hge
  .have hd:=ac hlt;rw[fX hlt]at hc;unfold ow at hc;split at hc
   case isFalse=>exact fb hc
   rename_i a2;obtain⟨b3,b4⟩:=(wk C' H' t g G R' a2 i).1 hlt;refine .inr ⟨b3,_,λ W2 H2 n=>⟨q.its.length - (i+1),by omega,n⟩,λ x H2 b2=>?_⟩;obtain⟨sm,rv⟩:=b4 x H2 b2;obtain⟨g2,R2⟩:=R'.same sm;have rd:=rv _ hd;have bd:=zH G _ (ar2 b1 hd);obtain⟨p,t3,hs,hc⟩:=aa1 hc;obtain⟨r2,t4,a6,hc⟩:=aa1 hc;cases hb:nk U' tg q.its[i]with
   | none=>rw[hb]at hs;cases hs
   | some U3 =>
    rw[hb]at hs;refine bT1 (E'.mono g2 (ai _)) rd bd hb λ W3 E3=>?_;obtain⟨c,t1,ec,hs⟩:=qj hs;refine⟨C',U3,t,c,t1,E3,R2,ec,λ C2 H4 g4 l4 R4=>?_⟩;have a5:=sm _ _ hy;have a3:=g4.fr D _ a5 (by nofun) a4;have Z:=a4.mono g4 a5;have G4:=(g.trans g2 G).trans g4 G;cases c with
    | true =>
     rw[gc rfl]at hs;refine cC2 ?_;obtain⟨v,t2,ev,hs⟩:=aa1 hs;cases hs;refine⟨C2,U3,t1,v,t3,E3.mono g4 l4,R4,ev,λ w C3 H5 g5 l5 b5 r5 R5=>?_⟩;have a0:=g5.fr D _ a3 (by nofun) Z;have a1:=Z.mono g5 a3;refine⟨ys,a0,?_,?_⟩
     .rw[ra.length];have:=qR;lia
     .have gw:Gw C3 t3.length H5 C3 (upd H5 D (.J (ys++[w]))):=⟨λ _ _=>rfl,(Kp.refl H5).put a0 rfl⟩
      have G5:=G4.trans g5 (am G l4);have GG:=g2.trans (g4.trans g5 l4) (ai _);have b0:=RVL.mono GG _ _ ba ra;have bb:mN t3.length (y++[v])=true:=qI (ae9 GG.le _ ba) (by unfold mN;rw[b5];rfl);refine⟨C3,U3,t3,y++[v],ys++[w],r2,G5.foreign hD a0,R5.foreign a0 a1,?_,zu,a1,RVL.monoW gw _ _ bb (b0.append (.cons r5 .nil)),bb,by simp;omega,hlt,rfl,?_,?_⟩
      .have E5:=(E3.mono g4 l4).mono g5 l5;exact⟨E5.len,λ j e hj=>by
        obtain⟨h1,z,h2,h3⟩:=E5.val j e hj;exact⟨h1,z,h2,RV.monoW gw _ _ h1 h3⟩⟩
      .cases hc;exact a6
      .cases hc;rw[hl];simp
    | false =>
     rw[gn aS]at hs;refine cB3 ?_;cases hs;have GG:=g2.trans g4 (ai _);exact⟨C2,U3,t3,y,ys,r2,G4,R4,E3.mono g4 l4,a3,Z,RVL.mono GG _ _ ba ra,ae9 l4 _ ba,by lia,hlt,rfl,by cases hc;exact a6,by cases hc;exact hl⟩
  .have hi:=by omega
   rw[hG hge]at hc;unfold ow at hc;split at hc
   case isFalse=>exact fb hc
   rename_i a2;cases hc;refine .inl ⟨(wk C' H' s' g G R' a2 i).2 hge,?_⟩;rw[bu]at hl;subst hl;exact k D ys C' H' (g1.trans g l1) (am l1 G) ba hy h0 a4 ra R'
variable {Γ:Gm} {X:Cx}
set_option tactic.hygienic true in
def cA1 (Γ:Gm)(C:Nat->Addr)(H:Hp)(n:Nat)(D:Ends):nG->Prop
 | .next U=>∀ W,RE Γ C H n U W->D.nx W H
 | .ret d=>∀ v,d.bnd n=cn->RV Γ C H d v->D.rt v H
 | .cont U=>∀ W,RE Γ C H n U W->D.ct W H
 | .brk U=>∀ W,RE Γ C H n U W->D.bk W H
def ax0 (Γ:Gm)(C:Nat->Addr)(s:mK)(H:Hp)(c:nG)(s':mK)(D:Ends):Prop :=
 ∀ C' H',Gr C s H C' s' H'->s.length<=s'.length->Rp Γ C' H' s'->cA1 Γ C' H' s'.length D c
def TSv (Γ:Gm)(m:mO->mK->mP nG):TS:=λ D W H=>∃ C U s c s',RE Γ C H s.length U W/\Rp Γ C H s/\m U s=.ok c s'/\ax0 Γ C s H c s' D
def PS.imp (h:PS X e t)(i:∀ D W H,t' D W H->t D W H):PS X e t':=λ y s W H Q I q=>h y s W H Q I (i Q W H q)
def PSs.imp (h:PSs X e t)(i:∀ D W H,t' D W H->t D W H):PSs X e t':=λ y s W H Q I q=>h y s W H Q I (i Q W H q)
theorem ax0.trans {D}(h:ax0 Γ C s H c s' D)(g:Gr C s H C1 s1 y)(l:s.length<=s1.length):ax0 Γ C1 s1 y c s' D :=
 λ C' H' g' G p=>h C' H' (g.trans g' l) (am l G) p
def ax0.here {D}(h:ax0 Γ C s H c s D)(p:Rp Γ C H s):cA1 Γ C H s.length D c:=h C H (Gr.refl C s H) (ai _) p
variable {D:Ends} {W:St} {H:Hp}
set_option tactic.hygienic true in
def bQ8 (y:∀ U s,m U s=.ok (.next U) s)(h:TSv Γ m D W H):ce1 D W H:=by
 obtain⟨C,U,s,c,s',E,R,e,q⟩:=h;rw[y]at e;cases e;exact q.here R W E
def bY6 (h:TSv Γ (λ U s=>(m U s).bind λ d s=>.ok (.ret d) s) D W H):cz2 (TEv Γ m) D W H:=by
 refine wl λ _ kk=>?_;obtain⟨C,U,s,c,s',E,R,e,q⟩:=h;obtain⟨x,s1,e1,e⟩:=aa1 e;cases e;exact kk ⟨C,U,s,x,_,E,R,e1,λ v C1 G g1 l1 y r1 R1=>q C1 G g1 l1 R1 v y r1⟩
set_option tactic.hygienic true in
def bU5 (h:TSv Γ (λ U s=>(m U s).bind λ _ s=>.ok (.next U) s) D W H):cg1 (TEv Γ m) D W H:=by
 refine wl λ _ kk=>?_;obtain⟨C,U,s,c,s',E,R,e,q⟩:=h;obtain⟨x,s1,e1,e⟩:=aa1 e;cases e;exact kk ⟨C,U,s,x,_,E,R,e1,λ v C1 y g1 l1 G r1 R1=>q C1 y g1 l1 R1 W (E.mono g1 l1)⟩
set_option tactic.hygienic true in
def bl8 (h:TSv Γ (λ U s=>(m U s).bind λ d s=>match nk U tg d with|some U=>.ok (.next U) s|none=>.B) D W H):bz9 (TEv Γ m) (gOf Γ.K tg) D W H:=by
 refine wl λ _ kk=>?_;obtain⟨C,U,s,c,s',E,R,e,q⟩:=h;obtain⟨x,s1,e1,e⟩:=aa1 e;refine kk ⟨C,U,s,x,s1,E,R,e1,λ v C1 J g1 l1 G r1 R1=>?_⟩;cases hb:nk U tg x with
 | none=>simp_all
 | some U1 =>
  rw[hb]at e;cases e;exact bT1 (E.mono g1 l1) r1 G hb λ W' y=>q C1 J g1 l1 R1 W' y
set_option tactic.hygienic true in
def bB3 (h:TSv Γ (λ U s=>((m U s).bind λ l s=>nO (.J l) s).bind λ d s=>match nk U tg d with|some U=>.ok (.next U) s|none=>.B) D W H):bz9 (TFv Γ m) (gOf Γ.K tg) D W H :=
 bo3 (bl8 h)
def bY9 (Γ:Gm):co2:=λ o i v H Q=>∃ C s x y d s',Rp Γ C H s/\RV Γ C H x o/\RV Γ C H y i/\RV Γ C H d v/\x.bnd s.length=cn/\y.bnd s.length=cn/\d.bnd s.length=cn/\DV.setIx x y d s=.ok () s' /\
 ∀ C' H',Gr C s H C' s' H'->s.length<=s'.length->Rp Γ C' H' s'->Q H'
set_option tactic.hygienic true in
def bD4 (h:TSv Γ (λ U s=>(me U s).bind λ d s=>(mo U s).bind λ x s=>(mi U s).bind λ y s=>(DV.setIx x y d s).bind λ _ s=>.ok (.next U) s) D W H) :
  bz9 (TEv Γ me) (cw8 (TEv Γ mo) (TEv Γ mi) (bY9 Γ)) D W H:=by
 refine wl λ _ kk=>?_;obtain⟨C,U,s,c,s',E,R,e,q⟩:=h;obtain⟨d,s1,e1,e⟩:=aa1 e;obtain⟨x,s2,e2,e⟩:=aa1 e;obtain⟨y,s3,e3,e⟩:=aa1 e;obtain⟨u,s4,e4,e⟩:=aa1 e;cases e;refine kk ⟨C,U,s,d,s1,E,R,e1,λ v1 C1 H1 g1 l1 Z r1 R1=>?_⟩;refine⟨C1,U,s1,x,s2,E.mono g1 l1,R1,e2,λ v2 C2 H2 g2 G Y r2 R2=>?_⟩;have G2:=g1.trans g2 l1;have L2:=am l1 G;refine⟨C2,U,s2,y,s3,E.mono G2 L2,R2,e3,λ v3 C3 H3 g3 J b3 r3 R3=>?_⟩;refine⟨C3,s3,x,y,d,_,R3,RV.mono g3 x v2 Y r2,r3,RV.mono (g2.trans g3 G) d v1 Z r1,zH J x Y,b3,zH (am G J) d Z,e4,λ C4 H4 g4 l4 R4=>?_⟩;have G3:=G2.trans g3 L2;have L3:=am L2 J;exact q C4 H4 (G3.trans g4 L3) (am L3 l4) R4 W (E.mono (G3.trans g4 L3) (am L3 l4))
set_option tactic.hygienic true in
def ck4 (hu:X.A.units+2<cLine):ct0 X (bY9 Γ):=by
 intro Y sh W H o i v ov iv u Q I ro ri rv h;refine wl λ _ kk=>?_;obtain⟨C,s,x,y,d,s',R,rx,ry,rd,bx,a0,bd,G,q⟩:=h;refine kk ?_;cases x with
 | ref r =>
  have G:(match s[r]? with
   | some (.J l)=>(match y with
    | .int i=>(match nR l.length i with|some j=>DV.R.ok () (s.set r (.J (l.set j d)))|none=>.B)
    | _=>.B)
   | some (.dc l)=>if y.key&&decide (l.length<mU)then .ok () (s.set r (.dc (nA y d l)))else .B
   | _=>.B)=.ok () s':=G
  cases e:s[r]? with
  | none=>simp_all
  | some ob =>
   rw[e]at G;cases ob with
   | J l =>
    cases y with
    | int k =>
     have G:(match nR l.length k with|some j=>DV.R.ok () (s.set r (.J (l.set j d)))|none=>.B)=.ok () s':=G;cases ej:nR l.length k with
     | none=>simp_all
     | some j =>
      rw[ej]at G;cases G;obtain⟨xs,h1,J⟩:=R.addr e;have hb:mN s.length (l.set j d)=true:=ad8.mpr λ z hz=>by
       rcases fY hz with h|h
       .exact ad8.mp (by have:=R.wf r _ e;unfold mT at this;exact this) z h
       lia
      refine bv7 Y sh W H o i v ov iv u Q I ro ri rv ⟨C r,xs,k,j,rx.refE,ry.intE,h1,?_,?_⟩
      .rw[J.length];exact ej
      .obtain⟨g,R'⟩:=R.set (o:=.J (l.set j d)) e rfl hb λ H' g e=>⟨_,e,RVL.monoW g _ _ hb (J.set j rd)⟩
       exact q _ _ g (by simp) R'
    | _=>exact fb G
   | dc l =>
    have G:(if y.key&&decide (l.length<mU)then DV.R.ok () (s.set r (.dc (nA y d l)))else .B)=.ok () s':=G;split at G
    case isFalse=>exact fb G
    rename_i hc;cases G;rw[aw]at hc;refine wl λ _ kk=>?_;obtain⟨k,hk⟩:=as4 hc.1;have hlt:=dO hc.2;obtain⟨Z,h1,J⟩:=R.obj r _ e;have ex:=rx.refE;subst ex;cases ro;have ey:=aW9 hk ry;subst ey;have hb:=bA5 (R.wf r _ e) a0 bd;have a1:=by
     unfold mT at hb;rw[aw]at hb;exact hb.2
    obtain⟨g,R'⟩:=R.set e rfl hb λ H' g e=>⟨_,e,RVD.monoW g _ _ a1 (J.put keyOf_inj hk rd)⟩
    exact kk $ bu2 hu I (cp1.k h1 (by rw[J.length];exact av hlt qR)) ri rv λ s4 I4=>⟨_,I4,q _ _ g (by simp) R'⟩
   | _=>exact fb G
 | _=>exact fb G
set_option tactic.hygienic true in
def cd7  (h:TSv Γ (λ U s=>(oE U i s).bind λ x s=>(m U s).bind λ y s=>match x,y with
  | .int a,.int b=>match nB U i (.int (a+b))with|some U=>.ok (.next U) s|none=>.B
  | _,_=>.B) D W H):cy3 i (TEv Γ m) (ipI λ i j=>i+j) D W H:=by
 refine wl λ _ kk=>?_;obtain⟨C,U,s,c,s',E,R,G,q⟩:=h;obtain⟨x,s1,e1,J⟩:=aa1 G;obtain⟨y,s2,e2,e⟩:=aa1 J;clear G J;unfold oE at e1;refine kk ?_;split at e1
 case h_2=>cases e1
 rename_i d hd;cases e1;obtain⟨b,v,Y,Z⟩:=E.val i _ hd;refine⟨v,Y,C,U,s,y,s2,E,R,e2,λ w C1 H1 g1 l1 b1 r1 R1=>?_⟩;cases x with
 | int a =>
  cases y with
  | int b =>
   refine⟨a,b,Z.intE,r1.intE,?_⟩;have e:(match nB U i (.int (a+b))with|some U=>DV.R.ok (DV.Ct.next U) s2|none=>.B)=.ok c s':=e;cases hs:nB U i (.int (a+b))with
   | none=>simp_all
   | some U1 =>
    rw[hs]at e;cases e;exact q C1 H1 g1 l1 R1 _ (br4 (E.mono g1 l1) RV.intI rfl hs)
  | _=>cases e
 | _=>cases e
def cv7 (h:TSv Γ (λ U s=>mY (mc U s) λ k s=>if k then G U s else J U s) D W H):cx7 (TTv Γ mc) (TSv Γ G) (TSv Γ J) D W H:=by
 refine wl λ _ kk=>?_;obtain⟨C,U,s,d,s',E,R,y,q⟩:=h;obtain⟨c,s1,e1,y⟩:=qj y;refine kk ⟨C,U,s,c,s1,E,R,e1,λ C1 Y g1 l1 R1=>?_⟩;cases c with
 | true =>
  rw[gc rfl]at y ⊢;exact⟨C1,U,s1,d,s',E.mono g1 l1,R1,y,q.trans g1 l1⟩
 | false =>
  rw[gn aS]at y ⊢;exact⟨C1,U,s1,d,s',E.mono g1 l1,R1,y,q.trans g1 l1⟩
set_option tactic.hygienic true in
def ca4 (h:TSv Γ (λ U s=>(J U s).bind λ c s=>match c with|.next U=>Z U s|c=>.ok c s) D W H):cx0 (TSv Γ J) (TSv Γ Z) D W H:=by
 refine wl λ _ kk=>?_;obtain⟨C,U,s,c,s',E,R,y,q⟩:=h;obtain⟨Y,s1,e1,y⟩:=aa1 y;refine kk ⟨C,U,s,Y,s1,E,R,e1,λ C1 G g1 l1 R1=>?_⟩;cases Y with
 | next U1=>exact λ W1 E1=>⟨C1,U1,s1,c,s',E1,R1,y,q.trans g1 l1⟩
 | ret d=>cases y;exact q C1 G g1 l1 R1
 | cont U=>cases y;exact q C1 G g1 l1 R1
 | brk U=>cases y;exact q C1 G g1 l1 R1
set_option tactic.hygienic true in
def bw0 (h:TSv Γ (DV.whl mc Y) D W H):bF0 (TTv Γ mc) (TSv Γ Y) D W H:=by
 obtain⟨C,U,s,c,s',E,R,y,q⟩:=h;unfold DV.whl at y;split at y
 case isFalse=>exact fb y
 rename_i hn;generalize hn.choose=n at y;refine⟨λ n W H=>∃ C U s,RE Γ C H s.length U W/\Rp Γ C H s/\DV.al3 mc Y n U s=.ok c s'/\ax0 Γ C s H c s' D,⟨n,C,U,s,E,R,y,q⟩,?_⟩;clear E R y q hn
 rintro n W H ⟨C,U,s,E,R,y,q⟩
 cases n with
 | zero=>exact fb y
 | succ n =>
  unfold DV.al3 at y;obtain⟨b,s1,e1,y⟩:=qj y;refine⟨C,U,s,b,s1,E,R,e1,λ C1 H1 g1 l1 R1=>?_⟩;cases b with
  | false =>
   rw[gn aS]at y ⊢;cases y;exact q C1 H1 g1 l1 R1 W (E.mono g1 l1)
  | true =>
   rw[gc rfl]at y ⊢;obtain⟨Z,s2,e2,y⟩:=aa1 y;refine⟨_,λ W' H' w=>⟨n,cW n,w⟩,C1,U,s1,Z,s2,E.mono g1 l1,R1,e2,λ C2 H2 g2 l2 R2=>?_⟩;have G:=g1.trans g2 l1;have L:=am l1 l2;cases Z with
   | next U1=>exact λ W1 J=>⟨C2,U1,s2,J,R2,y,q.trans G L⟩
   | cont U1=>exact λ W1 J=>⟨C2,U1,s2,J,R2,y,q.trans G L⟩
   | ret d=>cases y;exact q C2 H2 G L R2
   | brk U=>cases y;exact q C2 H2 G L R2
set_option tactic.hygienic true in
def cf0  (h:TSv Γ (λ U s=>(mI U s).bind λ q s0=>oF (λ s=>nJ s0 s q.src) (λ d U s=>match nk U tg d with
  | some U=>mb U s
  | none=>.B) q.its U s0) D W H):cx9 (TIv Γ mI) (gOf Γ.K tg) (TSv Γ mb) D W H:=by
 refine wl λ _ kk=>?_;obtain⟨C,U,s,c,s',E,R,hm,k⟩:=h;obtain⟨q,s0,e1,hm⟩:=aa1 hm;refine kk ⟨C,U,s,q,s0,E,R,e1,λ J C1 H1 g1 l1 b1 R1 wk=>?_⟩;refine⟨λ i m W' H'=>∃ C' U' t,Gr C1 s0 H1 C' t H'/\Rp Γ C' H' t/\RE Γ C' H' t.length U' W'/\i<=q.its.length/\m=q.its.length - i /\
  oF (λ s=>nJ s0 s q.src) (λ d U s=>match nk U tg d with
   | some U=>mb U s
   | none=>.B) (q.its.drop i) U' t=.ok c s',⟨q.its.length,?_⟩,?_⟩
 .exact⟨C1,U,s0,Gr.refl _ _ _,R1,E.mono g1 l1,dW _,by simp,by rw[fT];exact hm⟩
 .rintro i m W' H' ⟨C',U',t,g,Y,E',hil,rfl,hc⟩
  have y:=g.le;rcases kS i q.its.length with hlt|hge
  .have hd:=ac hlt;rw[fX hlt]at hc;unfold oF at hc;split at hc
   case isFalse=>exact fb hc
   rename_i G;obtain⟨a1,a2⟩:=(wk C' H' t g y Y G i).1 hlt;refine .inr ⟨a1,_,λ W2 H2 n=>⟨q.its.length - (i+1),by omega,n⟩,λ x H2 a0=>?_⟩;obtain⟨sm,rv⟩:=a2 x H2 a0;obtain⟨g2,R2⟩:=Y.same sm;have rd:=rv _ hd;have bd:=zH y _ (ar2 b1 hd);obtain⟨c1,t3,hs,hc⟩:=aa1 hc;cases hb:nk U' tg q.its[i]with
   | none=>rw[hb]at hs;cases hs
   | some U3 =>
    rw[hb]at hs;refine bT1 (E'.mono g2 (ai _)) rd bd hb λ W3 E3=>?_;refine⟨C',U3,t,c1,t3,E3,R2,hs,λ C2 H4 g4 l4 Z=>?_⟩;have G4:=(g.trans g2 y).trans g4 y;have L4:=am y l4;have GG:=g1.trans G4 l1;cases c1 with
    | next U1=>exact λ W1 E1=>⟨C2,U1,t3,G4,Z,E1,hlt,rfl,hc⟩
    | cont U1=>exact λ W1 E1=>⟨C2,U1,t3,G4,Z,E1,hlt,rfl,hc⟩
    | ret d=>cases hc;exact k C2 H4 GG (am l1 L4) Z
    | brk U=>cases hc;exact k C2 H4 GG (am l1 L4) Z
  .rw[hG hge]at hc;unfold oF at hc;split at hc
   case isFalse=>exact fb hc
   rename_i G;cases hc;exact .inl ⟨(wk C' H' s' g y Y G i).2 hge,k C' H' (g1.trans g l1) (am l1 y) Y W' E'⟩
structure Ck where
 N:List Str
 sc:Scope
 lk:String->List Nat->Expr->Bool
noncomputable abbrev ck0 (N:yH)(sc:Scope):Ck:=⟨N,sc,λ _ _ _=>dt⟩
noncomputable def Ck.vis (c:Ck)(x:Str):Bool:=match c.sc.names.lookup x with|some .local=>cn|some .cell=>cn|some .free=>cn|_=>dt
noncomputable def Ck.loc (c:Ck)(x:Str):Bool:=match c.sc.names.lookup x with|some .local=>cn|some .cell=>cn|_=>dt
noncomputable def Ck.gl (c:Ck)(x:Str):Bool:=(match c.sc.names.lookup x with|some .globalImplicit=>cn|_=>dt)&&!(x==("__debug__"))&&!decide (x=("__name__"))
noncomputable def Ck.var (c:Ck)(i:Nat)(x:Str):Bool:=decide (c.N[i]?=aT x)&&c.vis x&&!(x==("__debug__"))&&!(x==("__classdict__"))
noncomputable def shp:Expr->Bool
 | .Starred ..=>dt
 | .Set ..=>dt
 | .SetComp ..=>dt
 | .DictComp ..=>dt
 | .GeneratorExp ..=>dt
 | .Slice ..=>dt
 | .NamedExpr ..=>dt
 | _=>cn
noncomputable def aI9:Expr->Bool
 | .ListComp ..=>dt
 | .SetComp ..=>dt
 | .DictComp ..=>dt
 | _=>cn
noncomputable def bZ5:Expr->Bool
 | .Tuple ..=>dt
 | _=>cn
noncomputable def cr2:Expr->Bool
 | .Call _ [] [] _=>dt
 | _=>cn
noncomputable def mC:DV.Cn->Const->Bool
 | .N,.none=>cn
 | .T b,.bool c=>b==c
 | .int i,.int j=>decide (i=j)
 | .str x,.str y=>decide (y=⟨x.toArray⟩)&&decide (x.length<=1000)
 | _,_=>dt
noncomputable def co6 (ck:Ck):List Nat->List Expr->Bool
 | [],[]=>cn
 | i::is,.Name x _::es=>decide (ck.N[i]?=aT x)&&ck.loc x&&co6 ck is es
 | _,_=>dt
def mTg (ck:Ck):nF->Expr->Bool
 | .Y i,.Name x _=>decide (ck.N[i]?=aT x)&&ck.loc x
 | .tp is,.Tuple es _ _=>co6 ck is es
 | _,_=>dt
noncomputable def tgN:Expr->List Str
 | .Name x _=>[x]
 | .Tuple es _ _=>es.filterMap λ e=>match e with|.Name x _=>aT x|_=>bY
 | _=>[]
structure ItT where
 x:Str
 y:Str
 ob:Expr
 sc:Scope
 p1:Pos
 p2:Pos
 p3:Pos
 p4:Pos
 p5:Pos
 p6:Pos
 p7:Pos
 k1:Nat
 k2:Nat
 ap:Pos
 cp:Pos
 pos:Pos
noncomputable def ItT.tg (q:ItT):Expr:=.Tuple [.Name q.x q.p5,.Name q.y q.p6] q.k2 q.p7
noncomputable def ItT.it (q:ItT):Expr:=.Call (.Attribute q.ob "items" q.ap) [] [] q.cp
noncomputable def ItT.text (q:ItT):Expr:=.ListComp (.BinOp (.Name q.x q.p1) .Add (.Tuple [.Name q.y q.p2] q.k1 q.p3) q.p4) [⟨q.tg,q.it,[],0⟩] q.sc q.pos
def ckC (ck:Ck)(tgt:Expr)(caps:yD)(scope:Scope):Ck:=⟨tgN tgt++(caps.filterMap id).map λ j=>ck.N.getD j "",scope,λ _ _ _=>dt⟩
def bd9 (ck:Ck)(tg:nF)(tgt iter:Expr)(caps:yD)(scope:Scope):Bool :=
 qQ (ckC ck tgt caps scope).N caps scope ck.N ck.sc&&decide ((ckC ck tgt caps scope).N.Nodup)&&mTg (ckC ck tgt caps scope) tg tgt&&shp iter
noncomputable def bZ9:Expr->Bool
 | .Tuple ..=>cn
 | _=>dt
noncomputable def biT:nE->Option Str
 | .len=>aT "len" | .abs=>aT "abs" | .min2=>aT "min" | .max2=>aT "max" | .max3=>aT "max" | .int=>aT "int" | .str=>aT "str" | _=>bY
noncomputable def biK:nE->Option (Nat×Str)
 | .isInt=>aT (1, "int")|.isBool=>aT (2, "bool")|.isStr=>aT (3, "str")|.isTup=>aT (4, "tuple")|.isList=>aT (5, "list")|_=>bY
noncomputable def mkT:ox->Option Str
 | .tuple=>aT "tuple" | .list=>aT "list" | _=>bY
noncomputable def mkF:ox->Option Str
 | .all=>aT "all" | .min=>aT "min" | _=>bY
noncomputable def mtT:oy->Option (Str×Nat)
 | .append=>aT ("append",1)|_=>bY
noncomputable def by0:nV->Bool
 | .nil=>dt
 | .ex _ as=>by0 as
 | .lam _ _ _=>cn
 | .fn _ as=>by0 as
def co5 (ck:Ck)(b:nE)(x:Str)(xs:yK)(m1 m2:Bool):Bool:=match biK b with
 | some p=>(match xs with|[_,.Name y _]=>decide (x=("isinstance"))&&ck.gl x&&decide (y=p.2)&&ck.gl y&&m2|_=>dt)
 | none=>(match xs with|_::_=>decide (biT b=aT x)&&ck.gl x&&m1|[]=>dt)
noncomputable def lamArgs:a9->Option (List Str)
 | ⟨[],args,bY,[],[],bY,[]⟩=>aT (args.map (·.arg))
 | _=>bY
mutual
noncomputable def mE (ck:Ck):nZ->Expr->Bool
 | .X i,E=>match E with|.Name x _=>ck.var i x|_=>dt
 | .K c,E=>match E with|.Constant v _ _=>mC c v|_=>dt
 | .gl g,E=>match E with|.Name x _=>decide (x=(g:Str))&&ck.gl x|_=>dt
 | .G op a b,E=>match E with|.BinOp l o r _=>decide (o=cq9 op)&&mE ck a l&&mE ck b r|_=>dt
 | .neg a,E=>match E with|.UnaryOp .USub l _=>mE ck a l|_=>dt
 | .not a,E=>match E with|.UnaryOp .Not l _=>mE ck a l|_=>dt
 | .Z op a b,E=>match E with|.Compare l [o] [r] _=>decide (o=ay5 op)&&mE ck a l&&mE ck b r|_=>dt
 | .chain o p a b c,E=>match E with|.Compare l [o1,o2] [m,r] _=>decide (o1=ay5 o)&&decide (o2=ay5 p)&&mE ck a l&&mE ck b m&&mE ck c r|_=>dt
 | .isN a,E=>match E with|.Compare l [.Is] [.Constant .none _ _] _=>mE ck a l|_=>dt
 | .notN a,E=>match E with|.Compare l [.IsNot] [.Constant .none _ _] _=>mE ck a l|_=>dt
 | .notB a b,E=>match E with|.Compare l [.IsNot] [.Constant v _ _] _=>mC (.T b) v&&mE ck a l|_=>dt
 | .and a b,E=>match E with
  | .BoolOp .And [l,r] _=>mE ck a l&&mE ck b r
  | .BoolOp .And (l::m::r::es) p=>mE ck a l&&mE ck b (.BoolOp .And (m::r::es) p)
  | _=>dt
 | .or a b,E=>match E with
  | .BoolOp .Or [l,r] _=>mE ck a l&&mE ck b r
  | .BoolOp .Or (l::m::r::es) p=>mE ck a l&&mE ck b (.BoolOp .Or (m::r::es) p)
  | _=>dt
 | .ite c a b,E=>match E with|.IfExp t l r _=>mE ck c t&&mE ck a l&&mE ck b r|_=>dt
 | .tp es,E=>match E with|.Tuple xs _ _=>mEs ck es xs&&decide (xs.length<=1000)|_=>dt
 | .J es,E=>match E with|.List xs _=>mEs ck es xs&&decide (xs.length<=1000)|_=>dt
 | .dc ks vs,E=>match E with|.Dict a b _=>(match a,b with|[],[]=>mEs ck ks []&&mEs ck vs []|[aT x],[y]=>mEs ck ks [x]&&mEs ck vs [y]|_,_=>dt)|_=>dt
 | .slU a hi,E=>match E with|.Subscript o (.Slice bY (aT h) bY _) _=>mE ck a o&&mE ck hi h|_=>dt
 | .ix a b,E=>match E with|.Subscript o i _=>mE ck a o&&mE ck b i|_=>dt
 | .call f as,E=>match E with|.Call (.Name x _) xs [] _=>decide (x=(f:Str))&&ck.gl x&&mAs ck as xs|_=>dt
 | .callC f as,E=>match E with|.Call (.Name x _) (y::ys) [] _=>decide (x=(f:Str))&&ck.gl x&&by0 as&&bX1 ck as (y::ys)|_=>dt
 | .callV i es,E=>match E with|.Call (.Name x _) (y::ys) [] _=>ck.var i x&&mEs ck es (y::ys)|_=>dt
 | .bi b es,E=>match E with|.Call (.Name x _) xs [] _=>co5 ck b x xs (mEs ck es xs) (mEs ck es (xs.take 1))|_=>dt
 | .mk k l,E=>match E with
  | .Call (.Name x _) [a] [] _=>ck.gl x&&shp a&&((decide (mkT k=aT x)&&mL ck 2 l a)||(decide (mkF k=aT x)&&mL ck 1 l a))
  | .ListComp e gs sc p=>decide (k=.list)&&mL ck 0 l (.ListComp e gs sc p)
  | _=>dt
 | .mkD k l d,E=>match E with
  | .Call (.Name x _) [a] [⟨aT y,de,_⟩] _=>(decide (k=.min)&&decide (x=("min":Str)))&&decide (y=("default":Str))&&ck.gl x&&shp a&&mL ck 1 l a&&mE ck d de
  | _=>dt
 | .me m o es,E=>match E with
  | .Call (.Attribute ob x ap) xs [] cp=>decide (mtT m=aT (x,xs.length))&&cr2 ob&&(ap.endLine==cp.line)&&mE ck o ob&&mEs ck es xs
  | _=>dt
noncomputable def mEs (ck:Ck):ni->List Expr->Bool
 | .nil,xs=>match xs with|[]=>cn|_=>dt
 | .cons e es,xs=>match xs with|x::xs=>mE ck e x&&shp x&&mEs ck es xs|_=>dt
noncomputable def mFs (ck:Ck):ni->List Expr->Bool
 | .nil,xs=>match xs with|[]=>cn|_=>dt
 | .cons e es,xs=>match xs with
  | .FormattedValue v c bY _::xs=>decide (c=-1)&&mE ck e v&&mFs ck es xs
  | .Constant v j p::xs=>mE ck e (.Constant v j p)&&mFs ck es xs
  | _=>dt
noncomputable def mAs (ck:Ck):nV->List Expr->Bool
 | .nil,xs=>match xs with|[]=>cn|_=>dt
 | .ex e es,xs=>match xs with|x::xs=>mE ck e x&&shp x&&mAs ck es xs|_=>dt
 | .lam _ _ _,_=>dt
 | .fn _ _,_=>dt
noncomputable def bX1 (ck:Ck):nV->List Expr->Bool
 | .nil,xs=>match xs with|[]=>cn|_=>dt
 | .ex e es,xs=>match xs with|x::xs=>mE ck e x&&shp x&&bX1 ck es xs|_=>dt
 | .lam id caps es,xs=>match xs with|x::xs=>ck.lk id caps x&&shp x&&bX1 ck es xs|_=>dt
 | .fn _ _,_=>dt
noncomputable def mI (ck:Ck)(tgt:Expr):DV.I->Expr->Bool
 | .rg a,E=>match E with|.Call (.Name x _) [l] [] _=>decide (x=("range":Str))&&ck.gl x&&mE ck a l&&shp l|_=>dt
 | .seq e,x=>mE ck e x&&shp x
 | .enum (.seq a),E=>match E with|.Call (.Name x _) [l] [] _=>decide (x=("enumerate":Str))&&ck.gl x&&mE ck a l&&shp l&&bZ9 tgt|_=>dt
 | .enum _,_=>dt
noncomputable def mL (ck:Ck)(k:Nat):DV.L->Expr->Bool
 | .comp tg it e caps,E=>match E with|.ListComp elt [⟨tgt,iter,[],z⟩] scope _=>decide (z=0)&&bd9 ck tg tgt iter caps scope&&mI ck tgt it iter&&mE (ckC ck tgt caps scope) e elt|_=>dt
 | .compIf tg it c e caps,E=>match E with|.ListComp elt [⟨tgt,iter,[i],z⟩] scope _=>decide (z=0)&&bd9 ck tg tgt iter caps scope&&mI ck tgt it iter&&mE (ckC ck tgt caps scope) c i&&mE (ckC ck tgt caps scope) e elt|_=>dt
 | .disp es,E=>match E with|.List xs _=>decide (1<=k)&&mEs ck es xs&&decide (xs.length<=1000)|_=>dt
 | .seq e,x=>decide (k=2)&&mE ck e x
end
def ff {p:Prop}(h:dt=cn):p:=Bool.noConfusion h
noncomputable def bJ5:a9->Bool
 | ⟨[], args, bY, [], [], bY, []⟩ => args.all λ y => y.annotation.isNone
 | _=>dt
noncomputable def cy1:List Stmt->Option (Str×a9×Expr×Pos×Scope×Pos×List Stmt)
 | .FunctionDef nm params [.Return (aT b) rp] [] bY [] scope bY nm' pos::xs=>if nm'=nm then aT (nm,params,b,rp,scope,pos,xs)else bY
 | _=>bY
noncomputable def cy7 (nm:Str):List Stmt->Option (Str×Pos×Expr×Pos×Pos×Pos)
 | [.Return (aT (.Call (.Name g gp) [a,.Name x p2] [] cp)) rp2]=>if x=nm then aT (g,gp,a,p2,cp,rp2)else bY
 | _=>bY
noncomputable def cu9:oQ->oz->Option (Nat×String×nZ×String×List Nat)
 | .und i,.cons (.ret (.callC g (.ex e (.lam id caps .nil)))) .nil=>aT (i,g,e,id,caps)
 | _,_=>bY
def cb6 (ck:Ck)(s:oQ)(ss:oz)(S:yL):Bool :=
 (cu9 s ss).any λ d=>(cy1 S).any λ q=>(cy7 q.1 q.2.2.2.2.2.2).any λ r =>
  decide (ck.N[d.1]?=aT q.1)&&ck.loc q.1&&ck.var d.1 q.1&&ck.lk d.2.2.2.1 d.2.2.2.2 (.NamedExpr (.Name q.1 q.2.2.2.1) (.Lambda q.2.1 q.2.2.1 q.2.2.2.2.1 q.2.2.2.2.2.1) q.2.2.2.2.2.1)&&decide (r.1=(d.2.1))&&ck.gl r.1&&mE ck d.2.2.1 r.2.2.1&&shp r.2.2.1&&bJ5 q.2.1
mutual
noncomputable def mS (ck:Ck):oQ->Stmt->Bool
 | .A tg e,S=>match S with
  | .Assign [t] v _=>mTg ck tg t&&mE ck e v&&(match tg with|.Y _=>cn|.tp _=>bZ5 v&&aI9 v)
  | _=>dt
 | .setIx o i e,S=>match S with|.Assign [.Subscript ob ix _] v _=>mE ck o ob&&mE ck i ix&&mE ck e v&&aI9 v|_=>dt
 | .aug i e,S=>match S with|.AugAssign (.Name x _) .Add v _=>decide (ck.N[i]?=aT x)&&ck.loc x&&mE ck e v|_=>dt
 | .ex e,S=>match S with|.Expr v _=>mE ck e v&&aI9 v|_=>dt
 | .ret e,S=>match S with|.Return (aT v) _=>mE ck e v|_=>dt
 | .ite c a b,S=>match S with|.If t l r _=>mE ck c t&&mSs ck a l&&mSs ck b r|_=>dt
 | .whl c b,S=>match S with|.While t l [] _=>mE ck c t&&mSs ck b l|_=>dt
 | .fo tg it b,S=>match S with|.For tgt iter l [] _=>mTg ck tg tgt&&mI ck tgt it iter&&mSs ck b l|_=>dt
 | .raise,_=>cn
 | .und _,_=>dt
noncomputable def mSs (ck:Ck):oz->List Stmt->Bool
 | .nil,xs=>match xs with|[]=>cn|_=>dt
 | .cons s ss,xs=>match xs with|x::xs=>cb6 ck s ss (x::xs)||(mS ck s x&&mSs ck ss xs)|_=>dt
end
def aI5 (h:mE y e E=cn):shp E=true:=by
 cases E<;>first|rfl|(exfalso;cases e<;>exact ff h)
def cj0 (h:mI G y e E=cn):shp E=true:=by
 cases e with
 | seq e=>have h:(mE G e E&&shp E)=true:=h;rw[aw]at h;exact h.2
 | enum a=>cases E<;>first|rfl|(exfalso;cases a<;>exact ff h)
 | _=>cases E<;>first|rfl|exact ff h
def bR6 (h:DV.mkq x s t r=.ok d s'):on x s=on x t/\r=.ok d s':=by
 unfold DV.mkq at h;lia
def cp8 (h:s[a]?=aT o)(g:t[a]?=aT y)(n:o.kd≠y.kd):¬ on (.ref a) s=on (.ref a) t:=by
 unfold on
 simp_all
def zA {es:yK}(h:shp e=cn):bh (e::es) env=(dt,eval e env)::bh es env:=by
 cases e<;>first|rfl|cases h
theorem qi :∀ {es:yK},(∀ e∈es,shp e=cn)->(eN pos (bh es env)).any (·.1)=dt/\(eN pos (bh es env)).all (λ x=>!x.1)=cn
 | [],_=>⟨rfl,rfl⟩
 | e::es,h=>by
  have G:=zA (es:=es) (env:=env) (h e (aH ..));obtain⟨y,h3⟩:=qi (env:=env) (pos:=pos) λ x hx=>h x (aB _ hx);rw[G];unfold eN at y h3 ⊢;simp only[aJ,gv,cA,y,h3];exact⟨rfl,rfl⟩
def aN8 (h:shp e=cn) x :dS e env x=pure x:=by
 cases e<;>first|rfl|cases h
def jP (h:shp e=cn):dm op e=false:=by
 cases e<;>first|rfl|cases h
def aC8 (h:aI9 e=cn):fG e t l env=pure false:=by
 cases e<;>first|rfl|cases h
def bj7 (h:cr2 e=cn):gk e f env (eval e env)=eval e env:=by
 cases e with
 | Call g a k p =>
  cases g with
  | Name x p' =>
   cases a with
   | nil=>cases k with
    | nil=>cases h
    | cons _ _=>rfl
   | cons _ _=>rfl
  | _=>rfl
 | _=>rfl
def bb1 {es:yK}(h:bZ5 e=cn):ke [.Tuple es k p] e env=pure none:=by
 cases e<;>first|rfl|cases h
def ba5 :ke [.Subscript o i p] e env=pure none:=by
 cases e<;>rfl
def bc2 (h:shp e=cn):bi7 e:=by
 intro o i;cases e<;>first|rfl|cases h
def spV (Γ:Gm)(c:List mM->mK->mP mM):Sp:=λ vs H Q _=>rCl Γ c vs H Q
noncomputable def bNames:List Str:=["len", "abs", "min", "max", "int", "isinstance", "bool", "str", "tuple", "list", "range", "sum", "all", "any", "sorted", "zip", "enumerate", "ord"]
def spL (Γ:Gm)(c:List mM->List mM->mK->mP mM)(cap:List V):Sp:=λ vs H Q _=>∃ C s cs l d s',Rp Γ C H s/\RVL Γ C H l vs/\RVL Γ C H cs cap/\mN s.length l=cn/\mN s.length cs=cn/\c cs l s=.ok d s'/\aj2 Γ C s H d s' Q
noncomputable def LamI.own (J:LamI):Str:=match J.nm with|none => "<lambda>" | some p=>p.1
noncomputable def lamText (J:LamI)(params:a9)(body:Expr)(scope:Scope)(pos:Pos):Expr:=match J.nm with
 | none=>.Lambda params body scope pos
 | some p=>.NamedExpr (.Name p.1 p.2) (.Lambda params body scope pos) pos
structure LamHere (Γ:Gm)(X:Cx)(N:yH)(id:String)(caps:List Nat)(params:a9)(body:Expr)(scope:Scope)(c P:Addr)(J:LamI):Prop where
 code:X.env.code=.ref c
 hd:bV X.base c P
 bm:BM X.mg X.base
 ck:lamCheck scope X.env.scope=cn
 df:lI params X.env=([],[])
 lg:Γ.lg id J
 q:J.qual=X.env.qual++J.own
 p:J.params=params
 b:J.body=body
 s:J.scope=scope
 len:J.fr.length=caps.length
 at_:∀(i j:Nat) (x:Str),caps[i]?=aT j->J.fr[i]?=aT x->N[j]?=aT x
 fr:∀ x∈J.fr,scope.names.lookup x=aT .free
 cl:∀ x,scope.names.lookup x=aT .free->∃ c,X.env.cells.lookup x=aT c
 tab:(P,J.qual)∈Γ.T
 nd:(Γ.T.map (·.1)).Nodup
 fn:∀ x,X.fn x=cn
 kd:∀ x c,X.env.cells.lookup x=aT c->X.env.kindOf x=aT .cell\/X.env.kindOf x=aT .free
 gs:LamScope (J.ps++J.fr) J.ps J.fr J.scope
 gp:lamArgs J.params=aT J.ps
 gb:∀(clos:yB) (pm:Value) (c':Addr) (ctv:Value) (us:yG),us.length=J.ps.length->eO (bU "<lambda>" J.qual J.params J.body J.scope clos pm (.ref c') ctv) ⟨us,[]⟩=pure (J.ps.zip us)
noncomputable def strD (kvs:List (List Nat×List Nat)):List (PyData×PyData):=kvs.map λ p=>(.str ⟨p.1.toArray⟩,.str ⟨p.2.toArray⟩)
structure CG (Γ:Gm)(F:ng)(n:Nat)(X:Cx)(ck:Ck):Prop where
 K:X.K=Γ.K
 N:X.N=ck.N
 nd:ck.N.Nodup
 xe:X.xe=λ _ _=>False
 calm:X.calm=cn
 deep:mZ+1<=n
 room:Room n X.A
 sc:∀ x k,ck.sc.names.lookup x=aT k->X.env.scope.names.lookup x=aT k\/(k=.free/\X.env.scope.names.lookup x=aT .cell)
 fn:∀ x,ck.sc.names.lookup x=aT .cell->X.fn x=cn
 bi:∀ x∈bNames,X.mg x=bY
 call:∀ f:String,(∀ l s,F.call f l s=.B)\/∃ a fd ps,FnOk X.prog X.w X.K X.mg X.base CX0 n a fd ps (spV Γ (F.call f))/\X.mg (f:Str)=aT (.ref a)/\cM X.K (.ref a)=cn/\Binds X.K fd ps []
 con:∀ x d,F.con x=aT d->∃ v u,X.mg (x:Str)=aT u/\RelV v u/\(∀ m,d.bnd m=cn)/\∀ C H,RV Γ C H d v
 lam:∀ id caps E,ck.lk id caps E=cn->∃ c P params body scope pos J,E=lamText J params body scope pos/\LamHere Γ X ck.N id caps params body scope c P J
 cl:∀(id:String) (J:LamI) (f:Addr) (cap:List V) (clos:yB),Γ.lg id J->cap.length=J.fr.length->ClOk X.prog X.w X.K X.mg X.base n (λ H=>CloAt H f J cap clos) f (spL Γ (F.lam id) cap)
 fa:∀(f:String) (a:Addr),Γ.fa f=aT a->X.mg (f:Str)=aT (.ref a)/\∃ oc od fd sl,X.K.lookup a=aT ⟨oc,od,.func fd,sl⟩
 cdc:∀ c kvs,F.cdc c=aT kvs->∃ a,X.mg (c:Str)=aT (.ref a)/\∀ h:Heap,X.K.In h->StrTab X.prog X.w h a (strD kvs)
section
variable {Γ:Gm} {F:ng} {n:Nat} {X:Cx} {ck:Ck}
set_option tactic.hygienic true in
theorem CG.vis (G:CG Γ F n X ck)(h:ck.vis x=cn):Vis X.env.scope x:=by
 unfold Ck.vis at h;split at h
 .rename_i e;rcases G.sc _ _ e with z|⟨z,_⟩
  .exact .inl z
  .cases z
 .rename_i e;rcases G.sc _ _ e with z|⟨z,_⟩
  .exact .inr (.inl z)
  .cases z
 .rename_i e;rcases G.sc _ _ e with z|⟨_,z⟩
  .exact .inr (.inr z)
  .exact .inr (.inl z)
 .cases h
set_option tactic.hygienic true in
theorem CG.loc (G:CG Γ F n X ck)(h:ck.loc x=cn):Loc X.env.scope x/\(X.fn x=cn\/X.env.scope.names.lookup x=aT .local):=by
 unfold Ck.loc at h;split at h
 .rename_i e;rcases G.sc _ _ e with z|⟨z,_⟩
  .exact⟨.inl z,.inr z⟩
  .cases z
 .rename_i e;rcases G.sc _ _ e with z|⟨z,_⟩
  .exact⟨.inr z,.inl (G.fn _ e)⟩
  .cases z
 .cases h
set_option tactic.hygienic true in
theorem CG.gl (G:CG Γ F n X ck)(h:ck.gl x=cn):Gl X x/\(x==("__debug__"))=dt/\x ≠ "__name__":=by
 unfold Ck.gl at h;simp only[aw,eM]at h;obtain⟨⟨y,J⟩,h3⟩:=h;refine⟨?_,J,of_decide_eq_false h3⟩;split at y
 .rename_i e;rcases G.sc _ _ e with z|⟨z,_⟩
  .exact z
  .cases z
 .cases y
theorem bE5 (G:CG Γ F n X ck):∀ {is} {es:yK},co6 ck is es=cn->PGs X es (cp2 is)/\(cX es X.env).length=is.length/\(cX es X.env).findIdx? (·.1)=bY
 | [],[],_=>⟨bQ4,rfl,rfl⟩
 | [],_::_,h=>by cases h
 | i::is,[],h=>by cases h
 | i::is,e::es,h=>by
  cases e with
  | Name x p =>
   unfold co6 at h;simp only[aw,iN]at h;obtain⟨⟨J,y⟩,h3⟩:=h;obtain⟨l1,Y⟩:=G.loc y;obtain⟨a,b,c⟩:=bE5 G h3;have hs:cX (.Name x p::es) X.env=(dt,gN (.Name x p) X.env)::cX es X.env:=rfl;refine⟨bA1 (bl9 (by rw[G.N];exact G.nd) (by rw[G.N];exact J) l1 Y) a (by rw[hs];rfl),by simp_all,?_⟩;rw[hs,List.findIdx?_cons];simp[c]
  | _=>cases h
def bJ3 (G:CG Γ F n X ck)(h:mTg ck tg e=cn):PG X e (gOf Γ.K tg):=by
 unfold mTg at h;split at h
 .simp only[aw,iN]at h;obtain⟨l1,y⟩:=G.loc h.2;exact bl9 (by rw[G.N];exact G.nd) (by rw[G.N];exact h.1) l1 y
 .obtain⟨a,b,c⟩:=bE5 G h;exact bP5 G.K G.calm a b c
 .cases h
set_option tactic.hygienic true in
def CG.comp (G:CG Γ F n X ck)(h:bd9 ck tg Y iter J scope=cn) :
  qQ (ckC ck Y J scope).N J scope X.N X.env.scope=cn/\shp iter=cn /\
  ∀(Cc:Addr) (cells:yB) (s:ah) (H:Hp) (ex:List Addr),CG Γ F n (qo X (ckC ck Y J scope).N scope Cc cells s H ex) (ckC ck Y J scope)/\PG (qo X (ckC ck Y J scope).N scope Cc cells s H ex) Y (gOf Γ.K tg):=by
 unfold bd9 at h;simp only[aw,iN]at h;obtain⟨⟨⟨Z,h2⟩,h3⟩,h4⟩:=h;refine⟨?_,h4,λ Cc cells s H ex=>?_⟩
 .rw[G.N];unfold qQ at Z ⊢;simp only[aw]at Z ⊢;refine wl λ _ kk=>?_;obtain⟨⟨⟨⟨⟨a1,a2⟩,a3⟩,a4⟩,a5⟩,a6⟩:=Z;refine kk ⟨⟨⟨⟨⟨a1,?_⟩,a3⟩,a4⟩,a5⟩,a6⟩;rw[aU]at a2 ⊢;intro y hy;have:=a2 y hy;rw[bW]at this ⊢;rcases this with q|q
  .exact .inl q
  .right
   rw[bW]at q ⊢;rcases q with q|q
   .rcases G.sc _ _ (eq_of_beq q)with z|⟨z,_⟩
    .left;rw[z];exact beq_self_eq_true _
    .cases z
   .rcases G.sc _ _ (eq_of_beq q)with z|⟨_,z⟩
    .right;rw[z];exact beq_self_eq_true _
    .left;rw[z];exact beq_self_eq_true _
 .have G':CG Γ F n (qo X (ckC ck Y J scope).N scope Cc cells s H ex) (ckC ck Y J scope):=by
   refine⟨G.K,rfl,h2,rfl,G.calm,G.deep,G.room,λ x k e=>?_,λ x e=>?_,G.bi,G.call,G.con,λ _ _ _ h=>(by cases h),G.cl,G.fa,G.cdc⟩
   .have q:=jp (env:=X.env) e;have q':(fg scope X.env).names.lookup x=aT (if(k==NameKind.free&&X.env.scope.kind==.function&&X.env.kindOf x==aT .cell)then NameKind.cell else k):=q;show(fg scope X.env).names.lookup x=aT k\/_;rw[q'];split
    .rename_i hc;simp only[aw]at hc;exact .inr ⟨eq_of_beq hc.1.1,rfl⟩
    .exact .inl rfl
   .show(scope.names.lookup x==aT .cell)=cn;rw[show scope.names.lookup x=aT .cell from e];rfl
  exact⟨G',bJ3 G' h3⟩
end
section
variable {Γ:Gm} {F:ng} {n:Nat} {X:Cx} {ck:Ck} {W:St} {H:Hp} {Q:VK}
def TEv.eq (e:∀ U s,m U s=m' U s)(q:TEv Γ m W H Q):TEv Γ m' W H Q:=by
 have:=funext λ U=>funext λ s=>e U s
 simp_all
def TTv.eq {Q}(e:∀ U s,m U s=m' U s)(q:TTv Γ m W H Q):TTv Γ m' W H Q:=by
 have:=funext λ U=>funext λ s=>e U s
 simp_all
def TAv.eq {Q}(e:∀ U s,m U s=m' U s)(q:TAv Γ m W H Q):TAv Γ m' W H Q:=by
 have:=funext λ U=>funext λ s=>e U s
 simp_all
def TFv.eq (e:∀ U s,m U s=m' U s)(q:TFv Γ m W H Q):TFv Γ m' W H Q:=by
 have:=funext λ U=>funext λ s=>e U s
 simp_all
def TIv.eq (e:∀ U s,m U s=m' U s)(q:TIv Γ m W H R):TIv Γ m' W H R:=by
 have:=funext λ U=>funext λ s=>e U s
 simp_all
def TSv.eq (e:∀ U s,m U s=m' U s)(q:TSv Γ m D W H):TSv Γ m' D W H:=by
 have:=funext λ U=>funext λ s=>e U s
 simp_all
def EvT (Γ:Gm)(X:Cx)(E:Expr)(m:mO->mK->mP mM):Prop:=PE X E (TEv Γ m)/\PT X E (TTv Γ m)
def EvT.val (h:PE X E (TEv Γ m))(G:autoParam (∀ y,eC E X.env y=(do let v <- y;standAt E.pos;kH [v] (truthy v))) Zq3._auto_1):EvT Γ X E m :=
 ⟨h,(bX4 h G).imp λ W H Q q=>aW1 q⟩
def bz6 (hc:PT X c J)(ha:PT X a tb)(hb:PT X b tc):PT X (.IfExp c a b pos) (λ W H Q=>J W H λ k G=>if k=cn then tb W G Q else tc W G Q):=by
 intro y s W H Q I h;have e:eC (.IfExp c a b pos) X.env (eval (.IfExp c a b pos) X.env)=(do if <- eC c X.env (eval c X.env)then eC a X.env (eval a X.env)else eC b X.env (eval b X.env)):=by rw[eC]
 rw[e];refine al (thn (hc y s W H _ I h) λ k s1 ⟨G,Z,Y⟩=>?_);cases k with
 | true=>exact ha y s1 W G Q Z Y
 | false=>exact hb y s1 W G Q Z Y
def cd9 {Q}(h:TTv Γ (λ U s=>mY (mc U s) λ k s=>if k then J U s else Y U s) W H Q):TTv Γ mc W H λ k G=>if k=cn then TTv Γ J W G Q else TTv Γ Y W G Q:=by
 refine wl λ _ kk=>?_;obtain⟨C,U,s,d,s',E,R,y,q⟩:=h;obtain⟨c,s1,e1,y⟩:=qj y;refine kk ⟨C,U,s,c,s1,E,R,e1,λ C1 G g1 l1 R1=>?_⟩;cases c with
 | true =>
  rw[gc rfl]at y ⊢;exact⟨C1,U,s1,d,s',E.mono g1 l1,R1,y,q.trans g1 l1⟩
 | false =>
  rw[gn aS]at y ⊢;exact⟨C1,U,s1,d,s',E.mono g1 l1,R1,y,q.trans g1 l1⟩
section
variable {a b c:nZ} {l r t:Expr} {pos:Pos}
def bQ3 (G:CG Γ F n X ck) op (ha:EvT Γ X l (mQ F a))(hb:EvT Γ X r (mQ F b)):EvT Γ X (.BinOp l (cq9 op) r pos) (mQ F (.G op a b)) :=
 .val ((cr9 (ch4 G.K op) ha.1 hb.1).imp λ W H Q q=>be0 (TEv.eq (λ U s=>rfl) q))
def bO2 (ha:EvT Γ X l (mQ F a)):EvT Γ X (.UnaryOp .USub l pos) (mQ F (.neg a)) :=
 .val ((cv0 cb4 ha.1).imp λ W H Q q=>cw2 (TEv.eq (λ U s=>rfl) q) λ C s x d s' v H' R r y h k=>by
  cases x with
  | int i =>
   cases h;exact⟨i,r.intE,k.here R rfl RV.intI⟩
  | _=>cases h)
def bK6 (ha:EvT Γ X l (mQ F a)):EvT Γ X (.UnaryOp .Not l pos) (mQ F (.not a)) :=
 ⟨(cc0 ha.1).imp λ W H Q q=>ce0 (TEv.eq (λ U s=>rfl) q),(ck9 ha.2).imp λ W H Q q=>ck1 (TTv.eq (λ U s=>rfl) q)⟩
def bO9 (G:CG Γ F n X ck) op (hs:shp r=cn)(ha:EvT Γ X l (mQ F a))(hb:EvT Γ X r (mQ F b)):EvT Γ X (.Compare l [ay5 op] [r] pos) (mQ F (.Z op a b)):=by
 have ho:=bm2 G.K (G.room.mono G.deep) op;refine⟨(bu1 ho ha.1 hb.1 (jP hs)).imp λ W H Q q=>be0 (TEv.eq (λ U s=>rfl) q),(br1 ho ha.1 hb.1 (jP hs)).imp λ W H Q q=>?_⟩;have q:=aQ1 q;exact be0 (TEv.eq (λ U s=>rfl) q)
def bl4 (G:CG Γ F n X ck) o p (J:shp t=cn)(ha:EvT Γ X l (mQ F a))(hb:EvT Γ X r (mQ F b))(hc:EvT Γ X t (mQ F c)):EvT Γ X (.Compare l [ay5 o,ay5 p] [r,t] pos) (mQ F (.chain o p a b c)):=by
 have ho:=bm2 G.K (G.room.mono G.deep) o;have h:=bm2 G.K (G.room.mono G.deep) p;have y:=by
  show dm (ay5 p) t=dt;exact jP J
 refine⟨(bD9 ho h ha.1 hb.1 hc.1 y).imp λ W H Q q=>aV8 (TEv.eq (λ U s=>rfl) q),(bB6 ho h ha.1 hb.1 hc.1 y).imp λ W H Q q=>?_⟩;have q:=aQ1 q;exact aV8 (TEv.eq (λ U s=>rfl) q)
def RV.nonIff (r:RV Γ C H x v):decide (v=.N)=decide (x=.N):=by
 cases x with
 | N=>rw[r.nonE];rfl
 | T b=>rw[r.blE];rfl
 | int i=>rw[r.intE];rfl
 | str z=>rw[r.strE];rfl
 | tp l=>obtain⟨a,h,rfl,_⟩:=r.tupE;rfl
 | ref k=>rw[r.refE];rfl
 | fn f=>unfold RV at r;obtain⟨a,_,rfl⟩:=r;rfl
 | clo f cs=>unfold RV at r;obtain⟨f,_,_,_,rfl,_⟩:=r;rfl
def bJ1 (ha:EvT Γ X l (mQ F a)):EvT Γ X (.Compare l [.Is] [.Constant .none j pos'] pos) (mQ F (.isN a)):=by
 have key:∀ W H Q,TEv Γ (mQ F (.isN a)) W H Q->cy6 (TEv Γ (mQ F a)) W H Q:=λ W H Q q=>by
  refine wl λ _ kk=>?_;obtain⟨C,U,s,d,s',E,R,h,k⟩:=q;obtain⟨x,s1,e1,h⟩:=aa1 h;cases h;refine kk ⟨C,U,s,x,_,E,R,e1,λ v C1 y g1 l1 G r1 R1=>?_⟩;show Q (.T (decide (v=.N))) y;rw[r1.nonIff];exact k _ C1 y g1 l1 rfl RV.blI R1
 exact⟨(bG8 (bI5 ha.1)).imp key,(bE2 (bI5 ha.1)).imp λ W H Q q=>key _ _ _ (aW1 q)⟩
def by4 (ha:EvT Γ X l (mQ F a)):EvT Γ X (.Compare l [.IsNot] [.Constant .none j pos'] pos) (mQ F (.notN a)):=by
 have key:∀ W H Q,TEv Γ (mQ F (.notN a)) W H Q->cf2 (TEv Γ (mQ F a)) W H Q:=λ W H Q q=>by
  refine wl λ _ kk=>?_;obtain⟨C,U,s,d,s',E,R,h,k⟩:=q;obtain⟨x,s1,e1,h⟩:=aa1 h;cases h;refine kk ⟨C,U,s,x,_,E,R,e1,λ v C1 y g1 l1 G r1 R1=>?_⟩;show Q (.T (!decide (v=.N))) y;rw[r1.nonIff];exact k _ C1 y g1 l1 rfl RV.blI R1
 exact⟨(bG8 (bk6 ha.1)).imp key,(bE2 (bk6 ha.1)).imp λ W H Q q=>key _ _ _ (aW1 q)⟩
noncomputable def bN4 (n:Bool)(x y:mM)(s:mK):mP mM:=match x,y with
 | .T c,.T b=>.ok (.T (if n then !(c==b)else c==b)) s
 | _,_=>.B
def br3 {n}(h:bN4 n x y s=.ok d s'):∃ c b,x=.T c/\y=.T b/\d=.T (if n then !(c==b)else c==b)/\s'=s:=by
 cases x<;>cases y<;>first|(cases h;done)|skip
 cases h;exact⟨_,_,rfl,rfl,rfl,rfl⟩
def bi0:OpR X (cH .IsNot) (rOp Γ (bN4 cn)):=by
 intro Y s W H x y v u Q I G J h;refine wl λ _ kk=>?_;obtain⟨C,s',a,b,d,Z,R,ra,rb,_,_,e,q⟩:=h;obtain⟨c,b',rfl,rfl,rfl,rfl⟩:=br3 e;rw[ra.blE]at G;rw[rb.blE]at J;cases G;cases J;exact kk $ PySem.wpAny_isNot_plain rfl (ci0 I (q.here R rfl RV.blI) (by lia))
def bx2 {b}(hs:shp r=cn)(ha:EvT Γ X l (mQ F a))(hb:EvT Γ X r (mQ F (.K (.T b)))):EvT Γ X (.Compare l [.IsNot] [r] pos) (mQ F (.notB a b)):=by
 have e:∀ U s,mQ F (.notB a b) U s=(mQ F a U s).bind λ x s=>(mQ F (.K (.T b)) U s).bind λ y s=>bN4 cn x y s:=λ U s=>by
  show(mQ F a U s).bind (λ x s=>match x with|.T c=>DV.R.ok (DV.D.T (!(c==b))) s|_=>.B)=_
  congr 1;funext x s;cases x<;>rfl
 refine⟨(bu1 (bi0 ) ha.1 hb.1 (jP hs)).imp λ W H Q q=>be0 (TEv.eq e q),(br1 (bi0 (Γ:=Γ)) ha.1 hb.1 (jP hs)).imp λ W H Q q=>?_⟩;have q:=aQ1 q;exact be0 (TEv.eq e q)
def bq9 {es:yK}{t}(h:PT X (.BoolOp op es pos) t):PW X (.BoolOp op es pos) t:=by
 intro G y s W H Q I q;have:=h y s W H Q I q;have e:∀ w,eC (.BoolOp op es pos) X.env w=allTrue op es X.env:=λ w=>by rw[eC]
 simp_all
def bK8 (ha:EvT Γ X l (mQ F a))(hb:EvT Γ X r (mQ F b)):EvT Γ X (.BoolOp .And [l,r] pos) (mQ F (.and a b)) :=
 ⟨(bF7 ha.1 (bI0 hb.1)).imp λ W H Q q=>bG2 (TEv.eq (λ U s=>rfl) q),(bH9 ha.2 (bN2 hb.2)).pt.imp λ W H Q q=>bG4 (TTv.eq (λ U s=>rfl) q)⟩
def bV6 {es:yK}(ha:EvT Γ X l (mQ F a))(hb:EvT Γ X (.BoolOp .And (r::es) pos) (mQ F b)):EvT Γ X (.BoolOp .And (l::r::es) pos) (mQ F (.and a b)) :=
 ⟨(bF7 ha.1 hb.1).imp λ W H Q q=>bG2 (TEv.eq (λ U s=>rfl) q),(bH9 ha.2 (bq9 hb.2)).pt.imp λ W H Q q=>bG4 (TTv.eq (λ U s=>rfl) q)⟩
def cb3 (ha:EvT Γ X l (mQ F a))(hb:EvT Γ X r (mQ F b)):EvT Γ X (.BoolOp .Or [l,r] pos) (mQ F (.or a b)) :=
 ⟨(cc5 ha.1 (bI0 hb.1)).imp λ W H Q q=>cd8 (TEv.eq (λ U s=>rfl) q),(cj1 ha.2 (cm6 hb.2)).pt.imp λ W H Q q=>cj3 (TTv.eq (λ U s=>rfl) q)⟩
def cl8 {es:yK}(ha:EvT Γ X l (mQ F a))(hb:EvT Γ X (.BoolOp .Or (r::es) pos) (mQ F b)):EvT Γ X (.BoolOp .Or (l::r::es) pos) (mQ F (.or a b)) :=
 ⟨(cc5 ha.1 hb.1).imp λ W H Q q=>cd8 (TEv.eq (λ U s=>rfl) q),(cj1 ha.2 (bq9 hb.2)).pt.imp λ W H Q q=>cj3 (TTv.eq (λ U s=>rfl) q)⟩
def bU6 (hc:EvT Γ X t (mQ F c))(ha:EvT Γ X l (mQ F a))(hb:EvT Γ X r (mQ F b)):EvT Γ X (.IfExp t l r pos) (mQ F (.ite c a b)) :=
 ⟨(bw9 hc.2 ha.1 hb.1).imp λ W H Q q=>co0 (TEv.eq (λ U s=>rfl) q),(bz6 hc.2 ha.2 hb.2).imp λ W H Q q=>cd9 (TTv.eq (λ U s=>rfl) q)⟩
def bX5 (G:CG Γ F n X ck)(hs:shp r=cn)(ha:EvT Γ X l (mQ F a))(hb:EvT Γ X r (mQ F b)):EvT Γ X (.Subscript l r pos) (mQ F (.ix a b)) :=
 .val ((ct7 (cv2 G.K (aW8 G.room)) ha.1 hb.1 (bc2 hs)).imp λ W H Q q=>be0 (TEv.eq (λ U s=>rfl) q))
def bV7 (G:CG Γ F n X ck)(ha:EvT Γ X l (mQ F a))(hb:EvT Γ X r (mQ F b)):EvT Γ X (.Subscript l (.Slice bY (aT r) bY h) pos) (mQ F (.slU a b)) :=
 .val ((bv5 (cu7 G.K) ha.1 bJ4 (bW4 hb.1)).imp λ W H Q q=>(cv3 (ml:=mQ F b)).2.1 (TEv.eq (λ U s=>rfl) q))
end
end
section
variable {Γ:Gm} {F:ng} {n:Nat} {X:Cx} {ck:Ck} {W:St} {H:Hp} {Q:VK}
theorem aD4:∀ {es} {U} {s s'} {l} {y:yK} {G},nq F es U s=.ok l s'->mEs G es y=cn->l.length=y.length
 | .nil,U,s,s',l,y,G,h,m=>by
  cases h;cases y with
  | nil=>rfl
  | cons _ _=>rw[mEs]at m<;>first|cases m|(intros;simp_all)
 | .cons e es,U,s,s',l,y,G,h,m=>by
  obtain⟨d,s1,e1,h⟩:=aa1 h;obtain⟨r,s2,e2,h⟩:=aa1 h;cases h;cases y with
  | nil=>rw[mEs]at m<;>first|cases m|(intros;simp_all)
  | cons x y =>
   rw[mEs,aw]at m;rw[aQ,aQ,aD4 e2 m.2]
theorem aF1:∀ {es} {G:yK},mEs ck es G=cn->∀ x∈G,shp x=cn
 | .nil,[],_,x,hx=>by cases hx
 | .nil,_::_,m,_,_=>by rw[mEs]at m<;>first|cases m|(intros;simp_all)
 | .cons e es,[],m,x,hx=>by cases hx
 | .cons e es,y::G,m,x,hx=>by
  rw[mEs,aw,aw]at m;rcases aL.mp hx with h|h
  .rw[h];exact m.1.2
  .exact aF1 m.2 x h
theorem bg7:∀ {es} {G:yK},mAs ck es G=cn->∀ x∈G,shp x=cn
 | .nil,[],_,x,hx=>by cases hx
 | .nil,_::_,m,_,_=>by rw[mAs]at m<;>first|cases m|(intros;simp_all)
 | .ex e es,[],m,x,hx=>by cases hx
 | .lam _ _ _,_,m,_,_=>by rw[mAs]at m<;>first|cases m|(intros;simp_all)
 | .fn _ _,_,m,_,_=>by rw[mAs]at m<;>first|cases m|(intros;simp_all)
 | .ex e es,y::G,m,x,hx=>by
  rw[mAs,aw,aw]at m;rcases aL.mp hx with h|h
  .rw[h];exact m.1.2
  .exact bg7 m.2 x h
def aT7 (hs:shp x=cn)(J:PE X x (TEv Γ (mQ F e)))(G:PA X h (TAv Γ y)) :
  PA X (x::h) (TAv Γ (λ U s=>(mQ F e U s).bind λ d s=>(y U s).bind λ l s=>.ok (d::l) s)) :=
 (qL J G (zA hs)).imp λ W H Q q=>bN7 q
def aU3 (h:k<=1000):k<=aR:=by rw[f6];lia
theorem bR7 {y:yK}(m:mEs ck es y=cn)(hz:y.length<=1000)(h:PA X y (TAv Γ (nq F es))):EvT Γ X (.Tuple y k pos) (mQ F (.tp es)) :=
 .val ((cc9 h).imp λ W H Q q=>tv_tup' hz m q)
where
 tv_tup' {es} {y} {W} {H} {Q} (hz:y.length<=1000) (m:mEs ck es y=cn) (q:TEv Γ (mQ F (.tp es)) W H Q):cx1 (TAv Γ (nq F es)) W H Q:=by
  refine wl λ _ kk=>?_;obtain⟨C,U,s,d,s',E,R,G,q⟩:=q;obtain⟨l,s1,e1,G⟩:=aa1 G;cases G;refine kk ⟨C,U,s,l,_,E,R,e1,λ vs C1 Z g1 l1 J r1 R1=>⟨by rw[r1.length,aD4 e1 m];exact aU3 hz,λ p Y=>?_⟩⟩;exact(q.trans g1 l1).tup R1 r1 J Y
def bU7 {y:yK}(m:mEs ck es y=cn)(hz:y.length<=1000)(h:PA X y (TAv Γ (nq F es))):EvT Γ X (.List y pos) (mQ F (.J es)):=by
 refine .val ((bG3 h).imp λ W H Q q=>?_);refine wl λ _ kk=>?_;obtain⟨C,U,s,d,s',E,R,G,q⟩:=q;obtain⟨l,s1,e1,G⟩:=aa1 G;obtain⟨rfl,rfl⟩:=jj G;refine kk ⟨C,U,s,l,_,E,R,e1,λ vs C1 Z g1 l1 J r1 R1=>⟨by rw[r1.length,aD4 e1 m];exact aU3 hz,λ p Y=>?_⟩⟩;exact(q.trans g1 l1).alloc R1 r1 J Y
def bC5 {f:String}{Y:yK}(G:CG Γ F n X ck)(hg:ck.gl (f:Str)=cn)(m:mAs ck y Y=cn)(h:PA X Y (TAv Γ (n0 F y))):EvT Γ X (.Call (.Name (f) p) Y [] pos) (mQ F (.call f y)):=by
 refine .val ?_;obtain⟨g1,g2,g3⟩:=G.gl hg;rcases G.call f with hbad|⟨a,fd,ps,hF,J,hk,hb⟩
 .intro a0 s W H Q I q;obtain⟨C,U,s,d,s',E,R,Z,q⟩:=q;obtain⟨l,s1,e1,Z⟩:=aa1 Z
  simp_all
 have key:∀ W H Q,TEv Γ (mQ F (.call f y)) W H Q->aY7 (spV Γ (F.call f)) [] E0 (TAv Γ (n0 F y)) W H Q:=λ W H Q q=>by
  have:=aR4 (TEv.eq (λ U s=>rfl) q);unfold tCB at this;unfold aY7 spV
  simp_all
 cases Y with
 | nil =>
  have h0:PE X (.Call (.Name (f) p) [] [] pos) (aY7 (spV Γ (F.call f)) [] E0 bu9):=bC3 hF G.room g1 J hk hb .nil ch1 g2;cases y with
  | nil =>
   refine h0.imp λ W H Q q=>?_;have q1:=key W H Q q;unfold aY7 at q1 ⊢;exact aY1 (TAv.eq (λ U s=>rfl) q1)
  | _=>rw[mAs]at m<;>first|cases m|(intros;simp_all)
 | cons x Y =>
  have hs:=bg7 m;exact(bS8 hF G.room g1 J hk hb .nil ch1 h g2 (zA (hs x (aH ..))) (qi λ e he=>hs e (aB _ he)).1).imp key
def BiC (Γ:Gm)(X:Cx)(b:nE)(x:Str):Prop:=(∃ id,bf x=aT (.builtin id)/\ai0 X (.builtin id) (rCl Γ (ot b)))\/∃ T,bf x=aT (.type T)/\ai0 X (.type T) (rCl Γ (ot b))
def cj7 (G:CG Γ F n X ck){b:nE}{x:Str}(h:biT b=aT x):x∈bNames/\BiC Γ X b x:=by
 cases b<;>first|cases h|skip
 .exact⟨by decide,.inl ⟨_,cw4,bp8 G.K G.calm (k:=1) rfl⟩⟩
 .exact⟨by decide,.inl ⟨_,cu2,bp8 G.K G.calm (k:=1) rfl⟩⟩
 .exact⟨by decide,.inr ⟨_,cg2,cl0⟩⟩
 .exact⟨by decide,.inr ⟨_,ca3,cm8⟩⟩
 .exact⟨by decide,.inl ⟨_,bR8,bp8 G.K G.calm (k:=2) rfl⟩⟩
 .exact⟨by decide,.inl ⟨_,cb0,bp8 G.K G.calm (k:=2) rfl⟩⟩
 .exact⟨by decide,.inl ⟨_,cb0,bp8 G.K G.calm (k:=3) rfl⟩⟩
def ci8 {J:yK}(G:CG Γ F n X ck)(hb:biT b=aT x)(hg:ck.gl x=cn)(m:mEs ck es (y::J)=cn)(h:PA X (y::J) (TAv Γ (nq F es))) :
  EvT Γ X (.Call (.Name x p) (y::J) [] pos) (mQ F (.bi b es)):=by
 refine .val ?_;obtain⟨g1,g2,g3⟩:=G.gl hg;obtain⟨hm,hc⟩:=cj7 G hb;have hs:=aF1 m;have s1:=zA (es:=J) (env:=X.env) (hs y (aH ..));have s2:=(qi (env:=X.env) (pos:=pos) λ e he=>hs e (aB _ he)).1;rcases hc with⟨id,Y,Z⟩|⟨T,Y,Z⟩
 .exact(aF5 Z g1 (G.bi _ hm) Y h g3 g2 s1 s2).imp λ W H Q q=>aR4 (TEv.eq (λ U s=>rfl) q)
 .exact(at6 Z g1 (G.bi _ hm) Y h g3 g2 s1 s2).imp λ W H Q q=>aR4 (TEv.eq (λ U s=>rfl) q)
def ch7 (h:biK b=aT (k,t)):(1<=k/\k<=5)/\t∈bNames/\bf t=aT (.type (az7 k))/\ot b=oD (oJ k):=by
 cases b<;>cases h
 .exact⟨by lia,by decide,cg2,rfl⟩
 .exact⟨by lia,by decide,bX8,rfl⟩
 .exact⟨by lia,by decide,ca3,rfl⟩
 .exact⟨by lia,by decide,bu7,rfl⟩
 .exact⟨by lia,by decide,bH8,rfl⟩
def PEs (Γ:Gm)(F:ng)(X:Cx):ni->List Expr->Prop
 | .nil,[]=>True
 | .cons e es,x::xs=>(shp x=cn/\EvT Γ X x (mQ F e))/\PEs Γ F X es xs
 | _,_=>False
theorem au4:∀ {es} {y:yK},PEs Γ F X es y->PA X y (TAv Γ (nq F es))
 | .nil,[],_=>aj5.imp λ W H Q q=>aY1 (TAv.eq (λ U s=>rfl) q)
 | .nil,_::_,h=>h.elim
 | .cons _ _,[],h=>h.elim
 | .cons e es,x::y,h=>(aT7 h.1.1 h.1.2.1 (au4 h.2)).imp λ W H Q q=>TAv.eq (λ U s=>rfl) q
def bM7 (G:CG Γ F n X ck)(hb:biK b=aT (k,t))(hg:ck.gl "isinstance"=cn)(Y:ck.gl t=cn)(h:PEs Γ F X es [a]) :
  EvT Γ X (.Call (.Name "isinstance" p) [a,.Name t Z] [] pos) (mQ F (.bi b es)):=by
 refine .val ?_;obtain⟨g1,g2,g3⟩:=G.gl hg;obtain⟨t1,t2,t3⟩:=G.gl Y;obtain⟨hk,y,hv,a0⟩:=ch7 hb;have J:PE X (.Name t Z) (tC (.ty (az7 k))):=bV5 t1 (G.bi _ y) hv rfl t3 t2;cases es with
 | nil=>exact h.elim
 | cons e es =>
  cases es with
  | cons _ _=>exact h.2.elim
  | nil =>
   obtain⟨⟨hs,ha,_⟩,_⟩:=h;have hA:PA X [a,.Name t Z] (az6 (TEv Γ (mQ F e)) (az6 (tC (.ty (az7 k))) bu9)):=qL ha (qL J aj5 (zA rfl)) (zA hs);refine(aF5 (cd0 G.K hk) g1 (G.bi _ (by decide)) aK7 hA g3 g2 (zA hs) (qi λ e he=>by rw[bv.mp he];rfl).1).imp λ W H Q q=>?_;obtain⟨C,U,s,d,s',E,R,y,q⟩:=q;obtain⟨l,s1,e1,y⟩:=aa1 y;obtain⟨x,s2,e2,e1⟩:=aa1 e1;obtain⟨l2,s3,e3,e1⟩:=aa1 e1;cases e3;cases e1;rw[a0]at y;refine⟨C,U,s,x,_,E,R,e2,λ v C1 H1 g1 l1 b1 r1 R1=>?_⟩;exact⟨v,rfl,C1,_,[x],d,s',R1,.cons r1 .nil,by unfold mN;rw[b1];rfl,y,q.trans g1 l1⟩
end
section
variable {Γ:Gm} {F:ng} {n:Nat} {X:Cx} {ck:Ck} {W:St} {H:Hp}
def TAp (Γ:Gm)(cells:yB)(N:yH)(m:mO->mK->mP (List mM)):TA:=λ W H Q=>∃ C U s l s',RE Γ C H s.length U W/\Rp Γ C H s/\m U s=.ok l s' /\
 ∀ vs C' H',Gr C s H C' s' H'->s.length<=s'.length->mN s'.length l=cn->PVL Γ cells N W C' H' l vs->Rp Γ C' H' s'->Q vs H'
def TAp.eq (e:∀ U s,m U s=m' U s)(q:TAp Γ cells N m W H Q):TAp Γ cells N m' W H Q:=by
 obtain⟨C,U,s,l,s',E,R,h,q⟩:=q;exact⟨C,U,s,l,s',E,R,by rw[<-e];exact h,q⟩
def bL1 (h:TAp Γ cells N (λ U s=>.ok [] s) W H Q):bu9 W H Q:=by
 obtain⟨C,U,s,l,s',E,R,y,q⟩:=h;cases y;exact q [] C H (Gr.refl _ _ _) (ai _) rfl .nil R
def ck6 (h:TAp Γ cells N (λ U s=>(m U s).bind λ d s=>(Z U s).bind λ l s=>.ok (d::l) s) W H Q):az6 (TEv Γ m) (TAp Γ cells N Z) W H Q:=by
 refine wl λ _ kk=>?_;obtain⟨C,U,s,l,s',E,R,G,q⟩:=h;obtain⟨x,s1,e1,G⟩:=aa1 G;obtain⟨y,s2,e2,G⟩:=aa1 G;cases G;refine kk ⟨C,U,s,x,s1,E,R,e1,λ v C1 H1 g1 l1 J r1 R1=>?_⟩;refine⟨C1,U,s1,y,s',E.mono g1 l1,R1,e2,λ vs C2 H2 g2 Y b2 r2 R2=>?_⟩;exact q (v::vs) C2 H2 (g1.trans g2 l1) (am l1 Y) (by unfold mN;rw[zH Y x J,b2];rfl) (.cons (PVp.mono g2 J (.inl r1)) r2) R2
theorem av0 :∀ {is} {cs},nw U is=aT cs->cs.length=is.length/\∀(i j:Nat),is[i]?=aT j->∃ d,cs[i]?=aT d/\U[j]?=aT (aT d)
 | [],cs,h=>by cases h;exact⟨rfl,λ i j e=>by cases e⟩
 | k::is,cs,h=>by
  unfold nw at h;cases e:U[k]? with
  | none=>rw[e]at h;cases h
  | some o =>
   cases o with
   | none=>rw[e]at h;cases h
   | some d =>
    cases e2:nw U is with
    | none=>rw[e,e2]at h;cases h
    | some l =>
     rw[e,e2]at h;cases h;obtain⟨J,G⟩:=av0 e2;refine⟨by rw[aQ,aQ,J],λ i j y=>?_⟩;cases i with
     | zero=>cases y;exact⟨d,rfl,e⟩
     | succ i=>exact G i j y
theorem bk5 (E:RE Γ C H s.length U W):∀ {is} {cs},nw U is=aT cs->∃ cap,RVL Γ C H cs cap/\mN s.length cs=cn/\∀(i j:Nat)  v ,is[i]?=aT j->cap[i]?=aT v->W[j]?=aT (aT v)
 | [],cs,h=>by cases h;exact⟨[],.nil,rfl,λ i j v e=>by cases e⟩
 | k::is,cs,h=>by
  unfold nw at h;cases e:U[k]? with
  | none=>simp_all
  | some o =>
   cases o with
   | none=>simp_all
   | some d =>
    cases e2:nw U is with
    | none=>simp_all
    | some l =>
     rw[e,e2]at h;cases h;refine wl λ _ kk=>?_;obtain⟨cap,Y,Z,h3⟩:=bk5 E e2;obtain⟨hb,v,J,hv⟩:=E.val k d e;refine kk ⟨v::cap,.cons hv Y,by unfold mN;rw[hb,Z];rfl,λ i j w y G=>?_⟩;cases i with
     | zero=>cases y;cases G;exact J
     | succ i=>exact h3 i j w y G
def ci2 {id}(L:LamHere Γ X X.N id h params body scope c P J)(hnm:J.nm=bY)(h2:PA X xs (TAp Γ X.env.cells X.N ms)) :
  PA X (.Lambda params body scope pos::xs) (TAp Γ X.env.cells X.N (λ U s=>match nw U h with|some cs=>(ms U s).bind λ l s=>.ok (.clo id cs::l) s|none=>.B)):=by
 refine(qL (bm6 L.code L.hd L.bm L.ck L.df) h2).imp λ W H Q q=>?_;refine wl λ _ kk=>?_;obtain⟨C,U,s,l,s',E,R,G,q⟩:=q;have G:(match nw U h with|some cs=>(ms U s).bind λ l s=>DV.R.ok (DV.D.clo id cs::l) s|none=>DV.R.B)=.ok l s':=G;refine kk ?_;cases eg:nw U h with
 | none=>simp_all
 | some cs =>
  rw[eg]at G;refine wl λ _ kk=>?_;obtain⟨y,s2,e2,G⟩:=aa1 G;cases G;obtain⟨cap,Z,Y,hW⟩:=bk5 E eg;have a0:=(av0 eg).1;have hq:J.qual=X.env.qual ++ "<lambda>":=by rw[L.q];unfold LamI.own;rw[hnm]
  refine kk ?_;rw[<-hq];refine bA7 R.tab L.nd L.tab λ f H' e st tb hf ho=>?_;obtain⟨g1,R1⟩:=R.sameT e st tb;refine⟨C,U,s,y,s',E.mono g1 (ai _),R1,e2,λ vs C2 H2 g2 l2 b2 r2 R2=>?_⟩;refine q (.ref f::vs) C2 H2 (g1.trans g2 (ai _)) l2 (by unfold mN mR;rw[ae9 l2 cs Y,b2];rfl) (.cons ?_ r2) R2;have p1:PVp Γ X.env.cells X.N W C H' (.clo id cs) (.ref f):=by
   refine .inr ⟨id,cs,rfl,f,J,rfl,L.lg,by unfold an6;rw[hnm];skip;rw[L.p,L.b,L.s];exact ho,by rw[a0,L.len],by rw[L.s];exact L.cl,cap,RVL.mono g1 cs cap Y Z,λ i x v e1 e3=>?_⟩;have hi:i<h.length:=by rw[<-L.len];exact(ab.mp e1).1
   have hj:=ac hi;exact⟨by rw[L.s];exact L.fr x (aC e1),h[i],L.at_ i _ x hj e1,hW i _ v hj e3⟩
  exact p1.mono g2 (by unfold mR;exact Y)
set_option tactic.hygienic true in
def bn3 {f:String}{es:yK}(G:CG Γ F n X ck)(hg:ck.gl (f:Str)=cn)(Z:∀ x,X.fn x=cn)(a0:∀ x c,X.env.cells.lookup x=aT c->X.env.kindOf x=aT .cell\/X.env.kindOf x=aT .free)
  (hs:∀ y∈e::es,shp y=cn) (h:PA X (e::es) (TAp Γ X.env.cells X.N ms)) :
  PE X (.Call (.Name (f) p) (e::es) [] pos) (TEv Γ (λ U s=>(ms U s).bind λ l s=>(F.call f l s).bind λ d s'=>if(d.ncl&&s'.all oM)=cn then .ok d s' else .B)):=by
 obtain⟨g1,g2,g3⟩:=G.gl hg;rcases G.call f with hb|⟨a,fd,ps,hF,a1,hk,hB⟩
 .intro a2 s W H Q I q;refine wl λ _ kk=>?_;obtain⟨C,U,s,d,s',E,R,J,q⟩:=q;obtain⟨l,s1,e1,J⟩:=aa1 J;rw[hb]at J;exact kk $ fb J
 .refine(aX1 hF G.room g1 a1 hk hB Z h g2 (zA (hs e (aH ..))) (qi λ y hy=>hs y (aB _ hy)).1).imp λ W H Q q=>?_;refine wl λ _ kk=>?_;obtain⟨C,U,s,d,s',E,R,J,q⟩:=q;obtain⟨l,s1,e1,J⟩:=aa1 J;obtain⟨d2,s2,e2,J⟩:=aa1 J;refine kk ?_;split at J
  case isFalse=>exact fb J
  rename_i hn;cases J;rw[aw]at hn;refine⟨C,U,s,l,s1,E,R,e1,λ vs C1 H1 gg l1 b1 r1 R1=>λ H2 Y=>?_⟩;obtain⟨gs,R2⟩:=R1.same Y.same;refine⟨C1,s1,l,d,s',R2,r1.caught Y a0 b1,b1,e2,λ v C' H3 g' l' b' r' R'=>?_⟩;have hc:=Y.cells.kp g'.w.kp;exact q v C' (ah0 X.env.cells H3) (gg.trans (Gr.caught Y g') l1) (am l1 l') b' (RV.dropC hc d v hn.1 r') (R'.dropC hc hn.2)
def bj4 {xs:yK}(G:CG Γ F n X ck)(hv:ck.var i x=cn)(hs:∀ y∈e::xs,shp y=cn)(h:PA X (e::xs) (TAv Γ (nq F es)))(a1:PE X (.Name x p) (bI7 i)) :
  PE X (.Call (.Name x p) (e::xs) [] pos) (TEv Γ (mQ F (.callV i es))):=by
 refine(bC2 rfl rfl rfl rfl rfl G.room a1 h (zA (hs e (aH ..))) (qi λ y hy=>hs y (aB _ hy)).1).imp λ W H Q q=>?_;refine wl λ _ kk=>?_;obtain⟨C,U,s,d,s',E,R,Y,q⟩:=q;have Y:=Y;obtain⟨l,s1,e1,Y⟩:=aa1 Y;refine kk ?_;cases eU:U[i]? with
 | none=>rw[eU]at Y;exact fb Y
 | some o =>
  cases o with
  | none=>rw[eU]at Y;exact fb Y
  | some v0 =>
   obtain⟨hb,v,hW,rv⟩:=E.val i v0 eU;cases v0 with
   | fn f =>
    rw[eU]at Y;have Y:F.call f l s1=.ok d s':=Y;unfold RV at rv;obtain⟨a,ha,e2⟩:=rv;subst e2;obtain⟨h1,h2⟩:=G.fa f a ha;rcases G.call f with hb|⟨a',fd,ps,hF,a3,hk,hB⟩
    .rw[hb]at Y;exact fb Y
    .rw[h1]at a3;cases a3;refine⟨a,hW,.inr h2,C,U,s,l,s1,E,R,e1,λ vs C1 H1 g1 l1 b1 r1 R1=>?_⟩;exact⟨.inr h2,_,_,ClOk.ofFn hF hB,trivial,C1,s1,l,d,s',R1,r1,b1,Y,q.trans g1 l1⟩
   | clo id cs =>
    rw[eU]at Y;have Y:=Y;unfold RV at rv;unfold mR at hb;refine wl λ _ kk=>?_;obtain⟨f,cap,J,a0,e2,a5,a2,a4,a6⟩:=rv;subst e2;have fin:∀ H',CloAt H' f J cap a0->bJ2 X.K H' f:=λ H' h'=>h'.fn;refine kk ⟨f,hW,fin H a2,C,U,s,l,s1,E,R,e1,λ vs C1 H1 g1 l1 b1 r1 R1=>?_⟩;have Z:=a2.kp g1.w.kp;exact⟨fin H1 Z,_,_,G.cl id J f cap a0 a5 a4,Z,C1,s1,cs,l,d,s',R1,r1,RVL.mono g1 cs cap hb a6,b1,ae9 l1 cs hb,Y,q.trans g1 l1⟩
   | _=>rw[eU]at Y;exact fb Y
end
section
variable {Γ:Gm} {F:ng} {n:Nat} {X:Cx} {ck:Ck} {W:St} {H:Hp} {Q:VK}
def cB4 (K:af)(H:Hp)(v:V)(ys:List V)(z:Bool):Prop:=(∃ a,v=.ref a/\(SqL K H a ys\/(SqT K H a ys/\(z=cn->H a=aT (.tp ys)))))\/∃ x,v=.str ⟨x.toArray⟩/\x.length<=mU/\ys=sgV x
def TLv (Γ:Gm)(m:mO->mK->mP (List mM)):TE:=λ W H Q=>∃ C U s l s',RE Γ C H s.length U W/\Rp Γ C H s/\m U s=.ok l s' /\
 ∀ v ys C' H',Gr C s H C' s' H'->s.length<=s'.length->mN s'.length l=cn->cB4 Γ.K H' v ys (ny l)->RVL Γ C' H' l ys->Rp Γ C' H' s'->Q v H'
def aU7 (h:TLv Γ m W H Q):TFv Γ m W H Q:=by
 obtain⟨C,U,s,l,s',E,R,J,q⟩:=h;exact⟨C,U,s,l,s',E,R,J,λ p ys C' H' g hl hb y h0 ho r G=>q (.ref p) ys C' H' g hl hb (.inl ⟨p,rfl,.inl (SqL.of y)⟩) r G⟩
theorem aK2 :∀ x:List Nat,RVL Γ C H (x.map λ c=>.str [c]) (sgV x)
 | []=>.nil
 | c::x=>.cons (RV.strI (by unfold mU;simp)) (aK2 x)
theorem az9 :∀ x:List Nat,mN k (x.map λ c=>.str [c])=cn
 | []=>rfl
 | c::x=>by rw[aJ];unfold mN;rw[az9 x];rfl
def ch8 (h:TLv Γ (λ U s=>(m U s).bind λ d s=>DV.bf1 d s) W H Q):TEv Γ m W H Q:=by
 obtain⟨C,U,s,l,s',E,R,y,q⟩:=h;obtain⟨d,s1,e1,y⟩:=aa1 y;refine⟨C,U,s,d,s1,E,R,e1,λ v C1 Z g1 l1 b1 r1 R1=>?_⟩;cases d with
 | tp l' =>
  cases y;obtain⟨a,J,⟨rfl,z1⟩,G,Y⟩:=r1.tupZ;unfold mR at b1;exact q _ J C1 Z g1 l1 b1 (.inl ⟨a,rfl,.inr ⟨G,z1⟩⟩) Y R1
 | str x =>
  cases y;exact q v (sgV x) C1 Z g1 l1 (az9 x) (.inr ⟨x,r1.strE,r1.strL,rfl⟩) (aK2 x) R1
 | ref k =>
  have y:(match s1[k]? with
   | some (.J l)=>DV.R.ok l s1
   | some (.ro l)=>.ok l s1
   | _=>.B)=.ok l s':=y
  rw[r1.refE];cases e:s1[k]? with
  | none=>rw[e]at y;exact fb y
  | some ob =>
   rw[e]at y;cases ob with
   | J l' =>
    cases y;obtain⟨J,G,Y⟩:=R1.addr e;have:=R1.wf k _ e;unfold mT at this;exact q _ J C1 Z g1 l1 this (.inl ⟨_,rfl,.inl (SqL.of G)⟩) Y R1
   | ro l' =>
    cases y;obtain⟨J,G,Y⟩:=R1.obj k _ e;have:=R1.wf k _ e;unfold mT at this;exact q _ J C1 Z g1 l1 this (.inl ⟨_,rfl,.inl G.1⟩) Y R1
   | _=>exact fb y
 | _=>exact fb y
def TLv.eq (e:∀ U s,m U s=m' U s)(q:TLv Γ m W H Q):TLv Γ m' W H Q:=by
 have:=funext λ U=>funext λ s=>e U s
 simp_all
def bb9 (G:CG Γ F n X ck)(Z:ck.gl "tuple"=cn)(hs:shp a=cn)(h:PE X a (TLv Γ m)) :
  PE X (.Call (.Name "tuple" p) [a] [] pos) (TEv Γ (λ U s=>(m U s).bind λ l s=>n6 .tuple l s)):=by
 obtain⟨g1,g2,g3⟩:=G.gl Z;refine(at6 ((aO2 G.K).or (aQ3 G.calm)) g1 (G.bi _ (by decide)) bu7 (qL h aj5 (zA hs)) g3 g2 (zA hs) rfl).imp λ W H Q q=>?_;obtain⟨C,U,s,d,s',E,R,Y,q⟩:=q;obtain⟨l,s1,e1,Y⟩:=aa1 Y;cases Y;refine⟨C,U,s,l,_,E,R,e1,λ v ys C1 H1 g1 l1 y hq r1 R1=>?_⟩;rcases hq with⟨a,rfl,hq|hq⟩|⟨x,rfl,hx,rfl⟩
 .exact .inl ⟨a,ys,rfl,.inl ⟨hq,λ p J=>(q.trans g1 l1).tup R1 r1 y J⟩⟩
 .exact .inl ⟨a,ys,rfl,.inr ⟨hq.1,q _ C1 H1 g1 l1 (by unfold mR;exact y) (RV.tupC hq.1 hq.2 r1) R1⟩⟩
 .exact .inr ⟨x,rfl,hx,λ p J=>(q.trans g1 l1).tup R1 r1 y J⟩
def bi4 (G:CG Γ F n X ck)(Z:ck.gl "list"=cn)(hs:shp a=cn)(h:PE X a (TLv Γ m)) :
  PE X (.Call (.Name "list" p) [a] [] pos) (TEv Γ (λ U s=>(m U s).bind λ l s=>n6 .list l s)):=by
 obtain⟨g1,g2,g3⟩:=G.gl Z;refine(at6 ((aZ0 G.K).or (bc5 G.calm)) g1 (G.bi _ (by decide)) bH8 (qL h aj5 (zA hs)) g3 g2 (zA hs) rfl).imp λ W H Q q=>?_;obtain⟨C,U,s,d,s',E,R,J,q⟩:=q;obtain⟨l,s1,e1,J⟩:=aa1 J;obtain⟨rfl,rfl⟩:=jj J;refine⟨C,U,s,l,_,E,R,e1,λ v ys C1 H1 g1 l1 Y hq r1 R1=>?_⟩;rcases hq with⟨a,rfl,hq⟩|⟨x,rfl,hx,rfl⟩
 .exact .inl ⟨a,ys,rfl,hq.imp id (·.1),λ p y=>(q.trans g1 l1).alloc R1 r1 Y y⟩
 .exact .inr ⟨x,rfl,hx,λ p y=>(q.trans g1 l1).alloc R1 r1 Y y⟩
def cn8 (G:CG Γ F n X ck)(hk:mkT k=aT x)(y:ck.gl x=cn)(hs:shp a=cn)(h:PE X a (TLv Γ m)) :
  PE X (.Call (.Name x p) [a] [] pos) (TEv Γ (λ U s=>(m U s).bind λ l s=>n6 k l s)):=by
 cases k<;>cases hk
 .exact bb9 G y hs h
 .exact bi4 G y hs h
def FrC (Γ:Gm)(X:Cx)(x:Str)(k:ox):Prop:=∃ id r,bf x=aT (.builtin id)/\x∈bNames/\ai0 X (.builtin id) r/\∀ C H s l ys p d s' Q,Rp Γ C H s->RVL Γ C H l ys->H p=aT (.J ys)->n6 k l s=.ok d s'->aj2 Γ C s H d s' Q->r [.ref p] H Q
theorem aY2:∀(l:List Int)  a ,(l.foldl min a=a\/l.foldl min a∈l)/\l.foldl min a<=a/\∀ y∈l,l.foldl min a<=y
 | [],a=>⟨.inl rfl,cx _,λ y hy=>by grind⟩
 | b::l,a=>by
  obtain⟨G,J,h3⟩:=aY2 l (min a b);rw[cq];refine⟨?_,by lia,λ y hy=>?_⟩
  all_goals grind
def aV7 (h:nW l=aT m):m∈l/\∀ y∈l,m<=y:=by
 cases l with
 | nil=>cases h
 | cons a l =>
  cases h;obtain⟨G,J,h3⟩:=aY2 l a
  simp_all
def bO7 (G:CG Γ F n X ck)(hk:mkF k=aT x):FrC Γ X x k:=by
 cases k<;>cases hk
 .refine⟨_,_,cs6,by decide,bg3 G.calm G.K,λ C H s l ys p d s' Q R r J h q=>?_⟩;unfold n6 at h;dsimp only at h;cases e:nY l with
  | none=>rw[e]at h;exact fb h
  | some bs =>
   rw[e]at h;cases h;have:=aw1 e;subst this;exact⟨p,bs,rfl,SqL.of (by rw[<-r.bls];exact J),q.here R rfl RV.blI⟩
 .refine⟨_,_,bR8,by decide,bj6 G.calm G.K,λ C H s l ys p d s' Q R r J h q=>?_⟩;unfold n6 at h;dsimp only at h;cases e:nK l with
  | none=>rw[e]at h;exact fb h
  | some is =>
   rw[e]at h;have h:(match nW is with|some m=>DV.R.ok (DV.D.int m) s|none=>.B)=.ok d s':=h;cases e2:nW is with
   | none=>rw[e2]at h;exact fb h
   | some mm =>
    rw[e2]at h;cases h;have:=qK e;subst this;refine⟨p,is,rfl,SqL.of (by rw[<-r.ints];exact J),(λ(z)=>by rw[z]at e2;cases e2),λ m h y=>?_⟩;obtain⟨a,b⟩:=aV7 e2;have:=lj (y mm a) (b m h);rw[this];exact q.here R rfl RV.intI
def cj9 (G:CG Γ F n X ck)(hk:mkF k=aT x)(Y:ck.gl x=cn)(hs:shp a=cn)(h:PE X a (TFv Γ m)) :
  PE X (.Call (.Name x p) [a] [] pos) (TEv Γ (λ U s=>(m U s).bind λ l s=>n6 k l s)):=by
 refine wl λ _ kk=>?_;obtain⟨g1,Z,g3⟩:=G.gl Y;obtain⟨id,r,hb,hx,hc,hr⟩:=bO7 G hk;refine kk ?_;refine(aF5 hc g1 (G.bi _ hx) hb (qL h aj5 (zA hs)) g3 Z (zA hs) rfl).imp λ W H Q q=>?_;obtain⟨C,U,s,d,s',E,R,y,q⟩:=q;obtain⟨l,s1,e1,y⟩:=aa1 y;exact⟨C,U,s,l,_,E,R,e1,λ p ys C1 H1 g1 l1 b1 J h0 ho r1 R1=>hr C1 H1 s1 l ys p d s' Q R1 r1 J y (q.trans g1 l1)⟩
def ck3 (G:CG Γ F n X ck)(hg:ck.gl "min"=cn)(hs:shp a=cn)(h:PE X a (TFv Γ ml))(hd:PE X de (TEv Γ md)) :
  PE X (.Call (.Name "min" p) [a] [⟨aT "default",de,kp⟩] pos) (TEv Γ (λ U s=>(ml U s).bind λ l s=>(md U s).bind λ d s=>DV.mkD .min l d s)):=by
 obtain⟨g1,g2,g3⟩:=G.gl hg;refine(bU9 rfl G.calm g1 (G.bi _ (by decide)) h hd (zA hs)).imp λ W H Q q=>?_;obtain⟨C,U,s,d,s',E,R,J,q⟩:=q;obtain⟨l,s1,e1,J⟩:=aa1 J;obtain⟨d0,s2,e2,J⟩:=aa1 J;refine⟨C,U,s,l,s1,E,R,e1,λ p ys C1 H1 g1 l1 b1 hp h0 ho r1 R1=>?_⟩;refine⟨C1,U,s1,d0,s2,E.mono g1 l1,R1,e2,λ v C2 H2 g2 l2 b2 r2 R2=>?_⟩;have a1:=g2.fr p _ hp (by nofun) (λ i ob e mu=>ho i ob e mu);unfold DV.mkD at J
 skip
 cases e:nK l with
 | none=>rw[e]at J;exact fb J
 | some is =>
  rw[e]at J;have Y:(match nW is with|some m=>DV.R.ok (DV.D.int m) s2|none=>DV.R.ok d0 s2)=.ok d s':=J;have:=qK e;subst this;have hq:=q.trans (g1.trans g2 l1) (am l1 l2);refine⟨p,is,rfl,SqL.of (by rw[<-r1.ints];exact a1),λ z=>?_,λ m a0 Z=>?_⟩
  .subst z;cases Y;exact hq.here R2 b2 r2
  .clear e2;cases e2:nW is with
   | none =>
    cases is with
    | nil=>cases a0
    | cons _ _=>cases e2
   | some mm =>
    rw[e2]at Y;cases Y;obtain⟨x,y⟩:=aV7 e2;have:=lj (Z mm x) (y m a0);rw[this];exact hq.here R2 rfl RV.intI
def by7 (R:Rp Γ C H s)(g:Gr C s H C' s' H')(hb:r<s.length)(e:s'[r]?=aT (.J l)):tyV Γ.K "list" (.ref (C r)) H:=by
 obtain⟨h,y⟩:∃ h,s[r]?=aT h:=⟨s[r],ac hb⟩
 have Y:=g.mu r h _ y e rfl;have ho:=R.obj r h y;cases h with
 | J l0 =>
  obtain⟨J,G,_⟩:=ho;exact .inl ⟨rfl,J,SqL.of G⟩
 | ro _=>cases Y
 | dc _=>have:=g.kd r _ _ y e;cases this
 | ins _ _=>exact ho.elim
def mtR (Γ:Gm)(m:oy):V->List V->Hp->VK->Prop:=λ x vs H Q=>∃ C s a l d s',Rp Γ C H s/\RV Γ C H a x/\RVL Γ C H l vs/\a.bnd s.length=cn/\mN s.length l=cn/\oH m a l s=.ok d s'/\aj2 Γ C s H d s' Q
def cg0:mU<aR:=by rw[f6];decide
def aT1 (J:mtT m=aT (x,k))(h:oH m a l s=.ok d s'):∃ r l0,a=.ref r/\s[r]?=aT (.J l0):=by
 have go:∀ {r:Nat} {f:List mM->mP mM},(match s[r]? with|some (.J l)=>f l|_=>.B)=.ok d s'->∃ l0,s[r]?=aT (.J l0):=λ {r f} h=>by
  cases e:s[r]? with
  | none=>rw[e]at h;exact fb h
  | some ob =>
   cases ob with
   | J l0=>exact⟨l0,rfl⟩
   | _=>rw[e]at h;exact fb h
 cases a with
 | ref r =>
  have y:∀ {f:List mM->mP mM},(match s[r]? with|some (.J l)=>f l|_=>.B)=.ok d s'->∃ G l0,DV.D.ref r=.ref G/\s[G]?=aT (.J l0):=λ h=>by obtain⟨l0,e⟩:=go h;exact⟨_,l0,rfl,e⟩
  cases m with
  | append=>match l with
   | [d]=>exact y h
   | []=>exact fb h
   | _::_::_=>exact fb h
  | _=>exact fb h
 | _=>cases m<;>exact fb h
set_option tactic.hygienic true in
def bA4:MtR X "list.append" (mtR Γ .append):=by
 intro J sh W H x vs v us Q I rx rv h;refine wl λ _ kk=>?_;obtain⟨C,s,a,l,d,s',R,ra,rl,ba,bl,G,q⟩:=h;obtain⟨r,l0,rfl,e⟩:=aT1 rfl G;refine kk ?_;cases l with
 | nil=>exact fb G
 | cons y t =>
  cases t with
  | cons _ _=>exact fb G
  | nil =>
   simp only[oH,e]at G;split at G
   case isFalse=>exact fb G
   rename_i hlt;cases G;obtain⟨z,rfl,rz⟩:=rl.one;obtain⟨xs,h1,Z⟩:=R.addr e;have Y:=by have:=R.wf r _ e;unfold mT at this;exact this
   refine aJ3 J sh W H x [z] v us Q I rx rv ⟨C r,xs,z,ra.refE,rfl,h1,by rw[Z.length];have:=cg0;lia,?_⟩;exact q.put R e (Z.append (.cons rz .nil)) (qI Y bl) rfl RV.nonI
structure MtOk (Γ:Gm)(X:Cx)(m:oy)(x:Str):Prop where
 ex:∃ id,PySem.Slot "list" x id/\typeOf (.builtin id)=pure (.type "method_descriptor")/\MtR X id (mtR Γ m)
def cb1 (G:X.K=Γ.K)(y:Room (mZ+1) X.A)(h:mtT m=aT (x,k)):MtOk Γ X m x:=by
 cases m<;>cases h
 .exact⟨_,im,PySem.F.type_list_append,bA4⟩
def bD5 {Y:yK}(G:CG Γ F n X ck)(hm:mtT m=aT (x,Y.length))(hab:cr2 ob=cn)(hl:(ap.endLine==cp.line)=cn)(ho:PE X ob (TEv Γ (mQ F o)))
  (a3:mEs ck es Y=cn) (h:PEs Γ F X es Y):EvT Γ X (.Call (.Attribute ob x ap) Y [] cp) (mQ F (.me m o es)):=by
 refine .val ?_;obtain⟨id,slot,a2,hr⟩:=(cb1 (Γ:=Γ) (X:=X) G.K (G.room.mono G.deep) hm).ex;have hs:=aF1 a3;have key:∀ W H Q,TEv Γ (mQ F (.me m o es)) W H Q->tBM Γ.K "list" (mtR Γ m) (TEv Γ (mQ F o)) (TAv Γ (nq F es)) W H Q:=λ W H Q q=>by
  refine wl λ _ kk=>?_;obtain⟨C,U,s,d,s',E,R,J,q⟩:=q;obtain⟨a,s1,e1,J⟩:=aa1 J;obtain⟨l,s2,e2,J⟩:=aa1 J;obtain⟨hq,J⟩:=bR6 J;refine kk ⟨C,U,s,a,s1,E,R,e1,λ v C1 H1 g1 l1 Z r1 R1=>?_⟩;obtain⟨r,l0,rfl,er⟩:=aT1 hm J;rw[r1.refE];have hk:∀ C2 H2,Gr C1 s1 H1 C2 s2 H2->tyV Γ.K "list" (.ref (C1 r)) H1:=λ C2 H2 g2=>by7 R1 g2 (by unfold mR at Z;lia) er;have a1:TAv Γ (nq F es) W H1 λ Y H2=>mtR Γ m (.ref (C1 r)) Y H2 Q:=by
   refine⟨C1,U,s1,l,s2,E.mono g1 l1,R1,e2,λ vs C2 H2 g2 l2 b2 r2 R2=>?_⟩;refine⟨C2,s2,.ref r,l,d,s',R2,?_,r2,zH l2 _ Z,b2,J,q.trans (g1.trans g2 l1) (am l1 l2)⟩;have:=RV.mono g2 _ _ Z r1;rw[r1.refE]at this
   simp_all
  refine⟨?_,a1⟩;have hlt:r<s1.length:=by unfold mR at Z;lia
  obtain⟨o0,e0⟩:∃ o0,s1[r]?=aT o0:=⟨s1[r],ac hlt⟩
  have a0:=R1.obj r o0 e0;cases o0 with
  | J l0 =>
   obtain⟨Y,h1,_⟩:=a0;exact .inl ⟨rfl,Y,SqL.of h1⟩
  | ro l0 =>
   obtain⟨Y,h1,_⟩:=a0;exact .inl ⟨rfl,Y,h1.1⟩
  | dc _ =>
   exact iF hq (cp8 e0 er (λ h=>by cases h))
  | ins _ _=>exact a0.elim
 cases Y with
 | nil =>
  have p0:PE X (.Call (.Attribute ob x ap) [] [] cp) (cx2 X.K "list" (mtR Γ m) (TEv Γ (mQ F o))):=ca6 gI slot a2 hr ho (bj7 hab) hl;rw[G.K]at p0;refine p0.imp λ W H Q q=>?_;cases es with
  | cons _ _=>exact h.elim
  | nil =>
   refine wl λ _ kk=>?_;obtain⟨C,U,s,d,s',E,R,J,k⟩:=key W H Q q;refine kk ⟨C,U,s,d,s',E,R,J,λ v C1 H1 g1 l1 Z r1 R1=>?_⟩;obtain⟨h1,h2⟩:=k v C1 H1 g1 l1 Z r1 R1;exact⟨h1,aY1 (TAv.eq (λ U s=>rfl) h2)⟩
 | cons y ys =>
  refine(ce2 G.K gI slot a2 hr ho (au4 h) (bj7 hab) ?_ hl (zA (hs y (aH ..))) (qi λ e he=>hs e (aB _ he)).1).imp key;rw[(qi hs).2];have:(y::ys).length<=1:=by
   unfold mtT at hm;lia
  simp only[dM,c9,mr];show(cn&&decide ((y::ys).length+0+0<30))=cn;lia
end
section
variable {Γ:Gm} {F:ng} {n:Nat} {X:Cx} {ck:Ck} {W:St} {H:Hp} {Q:VK}
def PIf.imp (h:PIf X e t)(i:∀ W H Q,t' W H Q->t W H Q):PIf X e t':=λ y s W H Q I q=>h y s W H Q I (i W H Q q)
structure CompF (Γ:Gm)(X:Cx)(m:mO->mK->mP (List mM))(E:Expr):Prop where
 ex:∃ elt tgt iter ifs scope pos N' caps wi g tc te,E=.ListComp elt [⟨tgt,iter,ifs,0⟩] scope pos/\qQ N' caps scope X.N X.env.scope=cn/\PI X tgt iter wi /\
  (∀(Cc:Addr) (cells:yB) (s:ah) (H:Hp) (ex:List Addr),PG (qo X N' scope Cc cells s H ex) tgt g/\PIf (qo X N' scope Cc cells s H ex) ifs tc/\PE (qo X N' scope Cc cells s H ex) elt te) /\
  (∀ x,dS iter X.env x=pure x)/\∀ W H Q,TFv Γ m W H Q->tComp caps wi g tc te W H Q
def CompF.pe (h:CompF Γ X m E)(hc:X.calm=cn):PE X E (TFv Γ m):=by
 refine wl λ _ kk=>?_;obtain⟨Y,a0,iter,G,scope,pos,N',y,wi,g,tc,te,rfl,J,h2,h3,h4,Z⟩:=h.ex;exact kk $ (bh4 N' y J h2 hc h3 h4).imp Z
def bJ9 {mI}(G:CG Γ F n X ck)(hm:bd9 ck tg y iter h scope=cn)
  (hi:PI X y iter (TIv Γ mI)) (hc:∀ Cc cells s H ex,PT (qo X (ckC ck y h scope).N scope Cc cells s H ex) i (TTv Γ mc)) (he:∀ Cc cells s H ex,PE (qo X (ckC ck y h scope).N scope Cc cells s H ex) J (TEv Γ Y)) :
  CompF Γ X (λ U s=>(mI U s).bind λ q s0=>if q.its.length<=mU then ow (λ s=>nJ s0 s q.src) (λ d U s=>match nk U tg d with
   | some U=>mY (mc U s) λ k s=>if k then(Y U s).bind λ v s=>.ok (aT v,U) s else .ok (bY,U) s
   | none=>.B) q.its (n5 U h) s0 else .B) (.ListComp J [⟨y,iter,[i],0⟩] scope pos):=by
 obtain⟨c1,c2,Z⟩:=G.comp hm;exact⟨J,y,iter,[i],scope,pos,_,h,_,_,_,_,rfl,c1,hi,λ Cc cells s H ex=>⟨(Z Cc cells s H ex).2,bS2 (hc Cc cells s H ex),he Cc cells s H ex⟩,aN8 c2,λ W H Q q=>bu0 q⟩
def bz5 {mI}(G:CG Γ F n X ck)(Y:bd9 ck tg y iter h scope=cn)
  (hi:PI X y iter (TIv Γ mI)) (he:∀ Cc cells s H ex,PE (qo X (ckC ck y h scope).N scope Cc cells s H ex) J (TEv Γ Z)) :
  CompF Γ X (λ U s=>(mI U s).bind λ q s0=>if q.its.length<=mU then ow (λ s=>nJ s0 s q.src) (λ d U s=>match nk U tg d with
   | some U=>(Z U s).bind λ v s=>.ok (aT v,U) s
   | none=>.B) q.its (n5 U h) s0 else .B) (.ListComp J [⟨y,iter,[],0⟩] scope pos):=by
 obtain⟨c1,c2,c3⟩:=G.comp Y;refine⟨J,y,iter,[],scope,pos,_,h,_,_,TTv Γ (λ U s=>.ok (.T cn) s),_,rfl,c1,hi,λ Cc cells s H ex=>⟨(c3 Cc cells s H ex).2,bT9.imp λ W H Q q=>?_,he Cc cells s H ex⟩,aN8 c2,λ W H Q q=>bu0 (TFv.eq (λ U s=>?_) q)⟩
 .obtain⟨C,U,s,b,s',E,R,Y,q⟩:=q;cases Y;exact q C H (Gr.refl _ _ _) (ai _) R
 .congr 1
def bS3 (G:CG Γ F n X ck)(h:PE X E (TEv Γ (mQ F e))):PI X tg E (TIv Γ (oG F (.seq e))):=by
 refine(PI.or (bM8 G.K h) (PI.or (bw6 G.K h) (cb7 h))).imp λ W H R q=>cn2 (TIv.eq (λ U s=>rfl) q)
def bA9 (G:CG Γ F n X ck)(y:ck.gl "range"=cn)(hs:shp l=cn)(h:PE X l (TEv Γ (mQ F a))):PI X tg (.Call (.Name "range" p) [l] [] pos) (TIv Γ (oG F (.rg a))) :=
 (bf3 (G.gl y).1 (G.bi _ (by decide)) (qL h aj5 (zA hs)) (zA hs)).imp λ W H R q=>bO3 (TIv.eq (λ U s=>rfl) q)
def bz3 {elts:yK}(G:CG Γ F n X ck)(y:ck.gl "enumerate"=cn)(hs:shp l=cn)(h:PE X l (TEv Γ (mQ F a))):PI X (.Tuple elts ek epos) (.Call (.Name "enumerate" p) [l] [] pos) (TIv Γ (oG F (.enum (.seq a)))):=by
 have q:=bV3 (elts:=elts) (ek:=ek) (epos:=epos) (p:=p) (pos:=pos) (G.gl y).1 (G.bi _ (by decide)) (qL h aj5 (zA hs)) (zA hs);rw[G.K]at q;exact q.imp λ W H R q=>bL2 (TIv.eq (λ U s=>rfl) q)
def cl6 (h:TEv Γ (λ U s=>nO (.dc []) s) W H Q):bF3 W H Q:=by
 obtain⟨C,U,s,d,s',E,R,G,q⟩:=h;obtain⟨rfl,rfl⟩:=jj G;intro p y;obtain⟨g,J⟩:=R.new (o:=.dc []) y rfl λ C' H' g e=>⟨[],e,rfl⟩
 exact q (.ref p) _ _ g (by simp) (by unfold mR;simp) (by unfold RV;simp) J
set_option tactic.hygienic true in
def cc2 (h:TEv Γ (λ U s=>(mk U (s++[.dc []])).bind λ kd s1=>(mv U s1).bind λ J s2=>if kd.key=cn/\s2[s.length]?=aT (.dc [])then .ok (.ref s.length) (s2.set s.length (.dc [(kd,J)]))else .B) W H Q):cn1 [(TEv Γ mk,TEv Γ mv)] W H Q:=by
 refine wl λ _ kk=>?_;obtain⟨C,U,s,d,s',E,R,y,q⟩:=h;obtain⟨kd,s1,e1,y⟩:=aa1 y;obtain⟨J,s2,e2,y⟩:=aa1 y;refine kk ?_;split at y
 case isFalse=>exact fb y
 rename_i hc;cases y;intro p hp;obtain⟨g0,R0⟩:=R.new (o:=.dc []) hp rfl λ C' H' g e=>⟨[],e,rfl⟩
 have l0:s.length<=(s++[DV.O.dc []]).length:=by simp
 refine⟨_,U,s++[DV.O.dc []],kd,s1,E.mono g0 l0,R0,e1,λ v1 C1 H1 g1 l1 b1 r1 R1=>?_⟩;refine⟨C1,U,s1,J,s2,(E.mono g0 l0).mono g1 l1,R1,e2,λ v2 C2 H2 g2 Z b2 r2 R2=>?_⟩;have G:C2 s.length=p:=by
  rw[g2.w.map s.length (av (by simp) l1),g1.w.map s.length (by simp)];simp
 obtain⟨k,hk⟩:=as4 hc.1;have ek:=aW9 hk (RV.mono g2 kd v1 b1 r1);obtain⟨Y,z1,z2⟩:=R2.obj s.length _ hc.2;have z2:=z2;subst z2;rw[G]at z1;refine⟨z1,[(k,v2)],by rw[ek];rfl,by simp,?_⟩;have hb:(DV.O.dc [(kd,J)]).bnd s2.length=true:=by
  unfold mT;simp only[aJ,dg,mN,du,aw];exact⟨zH Z _ b1,b2⟩
 obtain⟨g3,R3⟩:=R2.set hc.2 rfl hb λ H' g e=>⟨_,e,k,v2,[],rfl,hk,RV.monoW g _ _ b2 r2,rfl⟩
 rw[G]at g3 R3;have L:=am l0 (am l1 Z);have lt:s.length<s2.length:=av (by simp) (am l1 Z);exact q (.ref p) _ _ (((g0.trans g1 l0).trans g2 (am l0 l1)).trans g3 L) (by simp_all) (by unfold mR;simp_all) (by unfold RV;rw[G]) R3
section
variable {c:String} {kvs:List (List Nat×List Nat)} {a:Addr}
end
end
section
variable {Γ:Gm} {F:ng} {n:Nat} {X:Cx} {ck:Ck}
end
section
variable {Γ:Gm} {F:ng} {n:Nat} {X:Cx} {ck:Ck}
def TJv (Γ:Gm)(m:mO->mK->mP (List mM))(out:List Nat):TE:=λ W H Q=>∃ C U s l s' ws,RE Γ C H s.length U W/\Rp Γ C H s/\m U s=.ok l s'/\oq l=aT ws/\(out++ws.flatten).length<=mU /\
 ∀ C' H',Gr C s H C' s' H'->s.length<=s'.length->Rp Γ C' H' s'->Q (.str ⟨(out++ws.flatten).toArray⟩) H'
def PF (Γ:Gm)(X:Cx)(vs:yK)(m:mO->mK->mP (List mM)):Prop :=
 ∀ out   pins   s  (W:St)  H   Q ,Inv X pins W H s->TJv Γ m out W H Q->wpAny (model X.prog X.w) X.A (joinParts ⟨out.toArray⟩ (evalEach vs X.env)) (EP X pins W Q) X.xe s
def PF.eq (e:∀ U s,m U s=m' U s)(h:PF Γ X vs m):PF Γ X vs m':=λ out y s W H Q I q=>by
 refine wl λ _ kk=>?_;obtain⟨C,U,s0,l,s',ws,E,R,G,q⟩:=q;exact kk $ h out y s W H Q I ⟨C,U,s0,l,s',ws,E,R,by rw[e];exact G,q⟩
def aP3 (w:List Nat):(⟨w.toArray⟩:Str).length=w.length:=by simp[Str.length]
def bY0:PF Γ X [] (λ _ s=>.ok [] s):=λ out h s W H Q I q=>by
 refine wl λ _ kk=>?_;obtain⟨C,U,s0,l,s',ws,E,R,y,hw,hl,q⟩:=q;cases y;cases hw;rw[List.flatten_nil,bu]at q hl;exact kk $ joinParts_nilE (joinParts_nil ⟨.str ⟨out.toArray⟩,H,I.tok _,⟨_,rfl⟩,q C H (Gr.refl _ _ _) (ai _) R⟩ (by rw[aP3];exact am hl qR))
def bm3 (h:oq (d::l)=aT ws):∃ w y,d=.str w/\oq l=aT y/\ws=w::y:=by
 cases d with
 | str w =>
  have h:(oq l).map (w::·)=aT ws:=h;cases e:oq l with
  | none=>simp_all
  | some y=>simp_all
 | _=>cases h
def bh3 (h2:PF Γ X vs m2)
  (h1:∀(h:yA) (s:ah) (W:St) (H:Hp) (w:List Nat) (Q:VK),w.length<=mU->Inv X h W H s->TEv Γ m1 W H (λ x y=>x=.str ⟨w.toArray⟩/\Q x y) ->
   wpAny (model X.prog X.w) X.A (eval v X.env) (λ u s1=>∃ t y,u=.str ⟨w.toArray⟩ t/\Inv X h W y s1/\Q (.str ⟨w.toArray⟩) y) X.xe s) :
  PF Γ X (v::vs) (λ U s=>(m1 U s).bind λ d s=>(m2 U s).bind λ l s=>.ok (d::l) s):=λ out h s W H Q I q=>by
 refine wl λ _ kk=>?_;obtain⟨C,U,s0,l,s',ws,E,R,J,hw,hl,q⟩:=q;obtain⟨d,s1,e1,J⟩:=aa1 J;obtain⟨l2,s2,e2,J⟩:=aa1 J;cases J;obtain⟨w,a1,rfl,Z,rfl⟩:=bm3 hw;rw[db,<-cb]at hl q;have Y:(out++w).length<=mU:=by grind
 have G:w.length<=mU:=by grind
 refine kk ?_;refine joinParts_consE (joinParts_cons (cr (h1 h s W H w (λ x y=>∃ C1,Gr C s0 H C1 s1 y/\s0.length<=s1.length/\Rp Γ C1 y s1) G I ⟨C,U,s0,.str w,s1,E,R,e1,λ v C1 y g1 l1 b1 r1 R1=>⟨r1.strE,C1,g1,l1,R1⟩⟩) (λ u a0 hu=>?_) λ _ _ x=>x));obtain⟨t,y,rfl,I1,C1,g1,l1,R1⟩:=hu;show(_++_:Str).length<=aR/\_;rw[bk1];refine⟨by rw[aP3];exact am Y qR,h2 (out++w) h a0 W y Q I1 ⟨C1,U,s1,l2,s',a1,E.mono g1 l1,R1,e2,Z,hl,λ C2 H2 g2 l2 R2=>q C2 H2 (g1.trans g2 l1) (am l1 l2) R2⟩⟩
def bH3 (hv:PE X v (TEv Γ G)) h  s (W:St) H (w:List Nat)(Q:VK)(I:Inv X h W H s)(q:TEv Γ G W H (λ x y=>x=.str ⟨w.toArray⟩/\Q x y)) :
  wpAny (model X.prog X.w) X.A (eval v X.env) (λ u s1=>∃ t y,u=.str ⟨w.toArray⟩ t/\Inv X h W y s1/\Q (.str ⟨w.toArray⟩) y) X.xe s :=
 cr (hv h s W H _ I q) (λ u s1 hu=>by
  obtain⟨x,y,Y,Z,ex,J⟩:=hu;subst ex;obtain⟨t,rfl⟩:=(show ∃ t,u=Value.str ⟨w.toArray⟩ t from Z)
  exact⟨t,y,rfl,Y,J⟩) λ _ _ x=>x
def ci1 (hv:PE X v (TEv Γ G))(Z:PF Γ X vs y) :
  PF Γ X (.FormattedValue v (-1) bY p::vs) (λ U s=>(G U s).bind λ d s=>(y U s).bind λ l s=>.ok (d::l) s) :=
 bh3 Z λ h s W H w Q hw I q=>FormattedValue_plain (cr (bH3 hv h s W H w Q I q) (λ u s1 hu=>by
  obtain⟨t,H1,rfl,Y,J⟩:=hu;exact formatField_str (λ t' tk=>⟨t',H1,rfl,Y.tok tk,J⟩) (by rw[aP3];exact am hw qR)) λ _ _ x=>x)
def cl4 (hv:PE X v (TEv Γ y))(J:PF Γ X vs G) :
  PF Γ X (v::vs) (λ U s=>(y U s).bind λ d s=>(G U s).bind λ l s=>.ok (d::l) s) :=
 bh3 J λ h s W H w Q hw I q=>bH3 hv h s W H w Q I q
end
section
variable {Γ:Gm} {F:ng} {n:Nat}
set_option tactic.hygienic true in
def bF8 (h:mC c v=cn):EvT Γ X (.Constant v k pos) (mQ F (.K c)):=by
 refine .val ?_;unfold mC at h;split at h
 .exact cn7.imp λ W H Q q=>aL1 (λ _=>rfl) (λ _ _=>RV.nonI) (TEv.eq (λ U s=>rfl) q)
 .rename_i b c;have e:=eq_of_beq h;subst e;exact cr0.imp λ W H Q q=>aL1 (λ _=>rfl) (λ _ _=>RV.blI) (TEv.eq (λ U s=>rfl) q)
 .rename_i i j;have e:=dO h;subst e;exact ce7.imp λ W H Q q=>aL1 (λ _=>rfl) (λ _ _=>RV.intI) (TEv.eq (λ U s=>rfl) q)
 .rename_i x y;rw[aw]at h;have e:=dO h.1;have e2:=dO h.2;subst e;exact cn3.imp λ W H Q q=>aL1 (λ _=>rfl) (λ _ _=>RV.strI (by unfold mU;lia)) (TEv.eq (λ U s=>rfl) q)
 .cases h
def bO0 {y:yK}(m:mEs ck es y=cn)(hz:y.length<=1000)(h:PA X y (TAv Γ (nq F es))):PE X (.List y pos) (TFv Γ (DV.evL F (.disp es))):=by
 refine(bG3 h).imp λ W H Q q=>?_;obtain⟨C,U,s,l,s',E,R,Y,q⟩:=q;refine⟨C,U,s,l,s',E,R,Y,λ vs C1 H1 g1 l1 J r1 R1=>⟨by rw[r1.length,aD4 Y m];exact aU3 hz,λ p G=>?_⟩⟩;obtain⟨Z,R2⟩:=R1.same ((ak4.refl H1).new G);refine q p vs C1 _ (g1.trans Z l1) l1 J zu ?_ (Off.new R1 G) (RVL.mono Z _ _ J r1) R2;cases e:H p with
 | none=>rfl
 | some o=>exact iF G (g1.st p (by rw[e];simp))
def CompF.eq (c:CompF Γ X m E)(e:∀ U s,m' U s=m U s):CompF Γ X m' E:=by
 have:=funext λ U=>funext λ s=>e U s
 simp_all
def zL (h:(a&&b)=cn):a=cn/\b=true:=by rw[aw]at h;exact h
def bR1 {g:String}(G:CG Γ F n X J)(h:J.gl (g:Str)=cn):EvT Γ X (.Name (g) p) (mQ F (.gl g)):=by
 refine .val ?_;obtain⟨g1,g2,g3⟩:=G.gl h;cases e:F.con g with
 | none =>
  intro Y s W H Q I q;obtain⟨C,U,s,d,s',E,R,y,q⟩:=q;have y:(match F.con g with|some d=>DV.R.ok d s|none=>.B)=.ok d s':=y
  simp_all
 | some d =>
  obtain⟨v,u,Z,h2,h3,h4⟩:=G.con g d e;exact(bL7 g1 Z h2 g2).imp λ W H Q q=>aL1 h3 h4 (TEv.eq (λ U s=>by show(match F.con g with|some d=>DV.R.ok d s|none=>.B)=DV.R.ok d s;rw[e]) q)
def bZ0 (G:CG Γ F n X y)(h:y.var i x=cn):EvT Γ X (.Name x p) (mQ F (.X i)):=by
 refine .val ?_;unfold Ck.var at h;obtain⟨h,Z⟩:=zL h;obtain⟨h,h3⟩:=zL h;obtain⟨J,Y⟩:=zL h;have e1:(x==("__debug__"))=false:=by simpa using h3
 have e2:(x==("__classdict__"))=false:=by simpa using Z
 exact(bl6 (by rw[G.N];exact dO J) (G.vis Y) e1 e2).imp λ W H Q q=>cb9 i (TEv.eq (λ U s=>rfl) q)
def bG9 (G:CG Γ F n X y)(h:y.var i x=cn):PE X (.Name x p) (bI7 i):=by
 unfold Ck.var at h;obtain⟨h,Z⟩:=zL h;obtain⟨h,h3⟩:=zL h;obtain⟨Y,J⟩:=zL h;exact bl6 (by rw[G.N];exact dO Y) (G.vis J) (by simpa using h3) (by simpa using Z)
theorem aC4 :∀ {es} {J:yK},bX1 Y es J=cn->∀ x∈J,shp x=cn
 | .nil,[],_,x,hx=>by cases hx
 | .nil,_::_,h,_,_=>ff h
 | .ex e es,[],h,_,_=>ff h
 | .ex e es,y::ys,h,x,hx=>by
  obtain⟨h,h3⟩:=zL h;obtain⟨Z,G⟩:=zL h;rcases aL.mp hx with rfl|hx
  .exact G
  .exact aC4 h3 x hx
 | .lam _ _ es,[],h,_,_=>ff h
 | .lam _ _ es,y::ys,h,x,hx=>by
  obtain⟨h,h3⟩:=zL h;obtain⟨Z,G⟩:=zL h;rcases aL.mp hx with rfl|hx
  .exact G
  .exact aC4 h3 x hx
 | .fn _ _,_,h,_,_=>ff h
theorem aS9 :∀ {es} {Y:yK},bX1 J es Y=cn->by0 es=cn->∃ id G E,J.lk id G E=cn
 | .nil,_,_,h=>by cases h
 | .ex e es,[],h,_=>ff h
 | .ex e es,y::ys,h,hl=>by
  obtain⟨h,h3⟩:=zL h;exact aS9 h3 hl
 | .lam id G es,[],h,_=>ff h
 | .lam id G es,y::ys,h,_=>by
  obtain⟨h,h3⟩:=zL h;obtain⟨Z,h2⟩:=zL h;exact⟨id,G,y,Z⟩
 | .fn _ _,_,h,_=>ff h
def aX4 (h:∀ U s,m U s=.B):EvT Γ X E m:=by
 refine⟨λ y s W H Q I q=>?_,λ y s W H Q I q=>?_⟩
 .obtain⟨C,U,s,d,s',E,R,G,q⟩:=q
  simp_all
 .obtain⟨C,U,s,d,s',E,R,G,q⟩:=q
  simp_all
inductive LK (Γ:Gm)(X:Cx)(m:mO->mK->mP (List mM))(E:Expr)(k:Nat):Prop where
 | c (h:CompF Γ X m E):LK Γ X m E k
 | f (hk:1<=k) (h:PE X E (TFv Γ m)):LK Γ X m E k
 | s (hk:k=2) (h:PE X E (TLv Γ m)):LK Γ X m E k
def ch6 (h:LK Γ X m E 0):CompF Γ X m E:=by
 cases h with
 | c h=>exact h
 | f hk h=>lia
 | s hk h=>lia
def cc3 (G:CG Γ F n X y)(h:LK Γ X m E 1):PE X E (TFv Γ m):=by
 cases h with
 | c h=>exact h.pe G.calm
 | f hk h=>exact h
 | s hk h=>lia
def cv4 (G:CG Γ F n X y)(h:LK Γ X m E 2):PE X E (TLv Γ m):=by
 cases h with
 | c h=>exact(h.pe G.calm).imp λ W H Q q=>aU7 q
 | f hk h=>exact h.imp λ W H Q q=>aU7 q
 | s hk h=>exact h
def biOk_inv (h:co5 G b x J (mEs G es J) (mEs G es (J.take 1))=cn) :
  (∃ k t a y py,biK b=aT (k,t)/\J=[a,.Name y py]/\x=("isinstance")/\y=t/\G.gl x=cn/\G.gl y=cn/\mEs G es [a]=cn)\/∃ a ys,J=a::ys/\biT b=aT x/\G.gl x=cn/\mEs G es (a::ys)=true:=by
 unfold co5 at h
 grind
mutual
theorem sE:∀(e:nZ) (E:Expr) (X:Cx) (J:Ck),CG Γ F n X J->mE J e E=cn->EvT Γ X E (mQ F e)
 | .X i,E,X,J,G,h=>by
  cases E with
  | Name x p =>
   exact bZ0 G h
  | _=>exact ff h
 | .K c,E,X,J,G,h=>by
  cases E with
  | Constant v k p =>
   exact bF8 h
  | _=>exact ff h
 | .gl g,E,X,J,G,h=>by
  cases E with
  | Name x p =>
   obtain⟨Z,Y⟩:=zL h;have e:=dO Z;subst e;exact bR1 G Y
  | _=>exact ff h
 | .G op a b,E,X,J,G,h=>by
  cases E with
  | BinOp l o r pE =>
   obtain⟨h,h3⟩:=zL h;obtain⟨Z,Y⟩:=zL h;have e:=dO Z;subst e;exact bQ3 G op (sE a _ X J G Y) (sE b _ X J G h3)
  | _=>exact ff h
 | .neg a,E,X,J,G,h=>by
  cases E with
  | UnaryOp o l p =>
   cases o with
   | USub =>
    exact bO2 (sE a _ X J G h)
   | _=>exact ff h
  | _=>exact ff h
 | .not a,E,X,J,G,h=>by
  cases E with
  | UnaryOp o l p =>
   cases o with
   | Not =>
    exact bK6 (sE a _ X J G h)
   | _=>exact ff h
  | _=>exact ff h
 | .Z op a b,E,X,J,G,h=>by
  cases E with
  | Compare l os rs pE =>
   cases os with
   | cons o os_0 =>
    cases os_0 with
    | nil =>
     cases rs with
     | cons r rs_0 =>
      cases rs_0 with
      | nil =>
       obtain⟨h,h3⟩:=zL h;obtain⟨Z,Y⟩:=zL h;have e:=dO Z;subst e;exact bO9 G op (aI5 h3) (sE a _ X J G Y) (sE b _ X J G h3)
      | _=>exact ff h
     | _=>exact ff h
    | _=>exact ff h
   | _=>exact ff h
  | _=>exact ff h
 | .chain o p a b c,E,X,J,G,h=>by
  cases E with
  | Compare l os rs pE =>
   cases os with
   | cons o1 os_0 =>
    cases os_0 with
    | cons o2 os_1 =>
     cases os_1 with
     | nil =>
      cases rs with
      | cons m rs_0 =>
       cases rs_0 with
       | cons r rs_1 =>
        cases rs_1 with
        | nil =>
         obtain⟨h,h5⟩:=zL h;obtain⟨h,h4⟩:=zL h;obtain⟨h,h3⟩:=zL h;obtain⟨Z,Y⟩:=zL h;have e:=dO Z;have e':=dO Y;subst e;subst e';exact bl4 G o p (aI5 h5) (sE a _ X J G h3) (sE b _ X J G h4) (sE c _ X J G h5)
        | _=>exact ff h
       | _=>exact ff h
      | _=>exact ff h
     | _=>exact ff h
    | _=>exact ff h
   | _=>exact ff h
  | _=>exact ff h
 | .isN a,E,X,J,G,h=>by
  cases E with
  | Compare l os rs pE =>
   cases os with
   | cons o os1 =>
    cases o with
    | Is =>
     cases os1 with
     | nil =>
      cases rs with
      | cons r rs1 =>
       cases r with
       | Constant v k p1 =>
        cases v with
        | none =>
         cases rs1 with
         | nil =>
          exact bJ1 (sE a _ X J G h)
         | _=>exact ff h
        | _=>exact ff h
       | _=>exact ff h
      | _=>exact ff h
     | _=>exact ff h
    | _=>exact ff h
   | _=>exact ff h
  | _=>exact ff h
 | .notN a,E,X,J,G,h=>by
  cases E with
  | Compare l os rs pE =>
   cases os with
   | cons o os1 =>
    cases o with
    | IsNot =>
     cases os1 with
     | nil =>
      cases rs with
      | cons r rs1 =>
       cases r with
       | Constant v k p1 =>
        cases v with
        | none =>
         cases rs1 with
         | nil =>
          exact by4 (sE a _ X J G h)
         | _=>exact ff h
        | _=>exact ff h
       | _=>exact ff h
      | _=>exact ff h
     | _=>exact ff h
    | _=>exact ff h
   | _=>exact ff h
  | _=>exact ff h
 | .notB a b,E,X,J,G,h=>by
  cases E with
  | Compare l os rs pE =>
   cases os with
   | cons o os1 =>
    cases o with
    | IsNot =>
     cases os1 with
     | nil =>
      cases rs with
      | cons r rs1 =>
       cases r with
       | Constant v k p1 =>
        cases rs1 with
        | nil =>
         obtain⟨Z,Y⟩:=zL h;exact bx2 rfl (sE a _ X J G Y) (bF8 Z)
        | _=>exact ff h
       | _=>exact ff h
      | _=>exact ff h
     | _=>exact ff h
    | _=>exact ff h
   | _=>exact ff h
  | _=>exact ff h
 | .and a b,E,X,J,G,h=>by
  cases E with
  | BoolOp op vs p=>cases op with
   | And =>
    cases vs with
    | nil=>exact ff h
    | cons l vs=>cases vs with
     | nil=>exact ff h
     | cons r vs=>cases vs with
      | nil =>
       obtain⟨Z,Y⟩:=zL h;exact bK8 (sE a _ X J G Z) (sE b _ X J G Y)
      | cons r2 vs =>
       obtain⟨Z,Y⟩:=zL h;exact bV6 (sE a _ X J G Z) (sE b _ X J G Y)
   | _=>exact ff h
  | _=>exact ff h
 | .or a b,E,X,J,G,h=>by
  cases E with
  | BoolOp op vs p=>cases op with
   | Or =>
    cases vs with
    | nil=>exact ff h
    | cons l vs=>cases vs with
     | nil=>exact ff h
     | cons r vs=>cases vs with
      | nil =>
       obtain⟨Z,Y⟩:=zL h;exact cb3 (sE a _ X J G Z) (sE b _ X J G Y)
      | cons r2 vs =>
       obtain⟨Z,Y⟩:=zL h;exact cl8 (sE a _ X J G Z) (sE b _ X J G Y)
   | _=>exact ff h
  | _=>exact ff h
 | .ite c a b,E,X,J,G,h=>by
  cases E with
  | IfExp tE l r pE =>
   obtain⟨h,h3⟩:=zL h;obtain⟨Z,Y⟩:=zL h;exact bU6 (sE c _ X J G Z) (sE a _ X J G Y) (sE b _ X J G h3)
  | _=>exact ff h
 | .tp es,E,X,J,G,h=>by
  cases E with
  | Tuple xs k p =>
   obtain⟨Z,Y⟩:=zL h;exact bR7 Z (dO Y) (au4 (sEs es _ X J G Z))
  | _=>exact ff h
 | .J es,E,X,J,G,h=>by
  cases E with
  | List xs p =>
   obtain⟨Z,Y⟩:=zL h;exact bU7 Z (dO Y) (au4 (sEs es _ X J G Z))
  | _=>exact ff h
 | .dc .nil .nil,E,X,J,G,h=>by
  cases E with
  | Dict a b p=>cases a with
   | nil=>cases b with
    | nil=>exact .val (bx8.imp λ W H Q q=>cl6 (TEv.eq (λ U s=>rfl) q))
    | _=>exact ff h
   | cons x a=>cases x with
    | none=>exact ff h
    | some x=>cases a with
     | nil=>cases b with
      | nil=>exact ff h
      | cons y b=>cases b with
       | nil=>exact ff h
       | _=>exact ff h
     | _=>exact ff h
  | _=>exact ff h
 | .dc (.cons k .nil) (.cons v .nil),E,X,J,G,h=>by
  cases E with
  | Dict a b p=>cases a with
   | nil=>cases b with
    | nil=>exact ff h
    | _=>exact ff h
   | cons x a=>cases x with
    | none=>exact ff h
    | some x=>cases a with
     | nil=>cases b with
      | nil=>exact ff h
      | cons y b=>cases b with
       | nil =>
        obtain⟨Z,Y⟩:=zL h;obtain⟨Z,_⟩:=zL Z;obtain⟨Z,_⟩:=zL Z;obtain⟨Y,_⟩:=zL Y;obtain⟨Y,_⟩:=zL Y;exact .val ((bQ7 (bA0 (sE k _ X J G Z).1 (sE v _ X J G Y).1 bQ0) rfl rfl (by nofun) (by show 1<=15;decide)).imp λ W H Q q=>cc2 (TEv.eq (λ U s=>rfl) q))
       | _=>exact ff h
     | _=>exact ff h
  | _=>exact ff h
 | .dc .nil (.cons _ _),E,X,J,G,h=>aX4 λ _ _=>rfl
 | .dc (.cons _ .nil) .nil,E,X,J,G,h=>aX4 λ _ _=>rfl
 | .dc (.cons _ .nil) (.cons _ (.cons _ _)),E,X,J,G,h=>aX4 λ _ _=>rfl
 | .dc (.cons _ (.cons _ _)) _,E,X,J,G,h=>aX4 λ _ _=>rfl
 | .ix a b,E,X,J,G,h=>by
  cases E with
  | Subscript o i p =>
   obtain⟨Z,Y⟩:=zL h;exact bX5 G (aI5 Y) (sE a _ X J G Z) (sE b _ X J G Y)
  | _=>exact ff h
 | .slU a hi,E,X,J,G,h=>by
  cases E with
  | Subscript o i p =>
   cases i with
   | Slice lo hi st p2 =>
    cases lo with
    | none =>
     cases hi with
     | some l =>
      cases st with
      | none =>
       obtain⟨Z,Y⟩:=zL h;exact bV7 G (sE a _ X J G Z) (sE hi _ X J G Y)
      | _=>exact ff h
     | _=>exact ff h
    | _=>exact ff h
   | _=>exact ff h
  | _=>exact ff h
 | .call f as,E,X,J,G,h=>by
  cases E with
  | Call fE xs kw p =>
   cases fE with
   | Name x pN =>
    cases kw with
    | nil =>
     obtain⟨h,h3⟩:=zL h;obtain⟨Z,Y⟩:=zL h;have e:=dO Z;subst e;exact bC5 G Y h3 (sAs as _ X J G h3)
    | _=>exact ff h
   | _=>exact ff h
  | _=>exact ff h
 | .callC f as,E,X,J,G,h=>by
  cases E with
  | Call fE xs kw p =>
   cases fE with
   | Name x pN =>
    cases xs with
    | cons y ys =>
     cases kw with
     | nil =>
      obtain⟨h,h3⟩:=zL h;obtain⟨h,h4⟩:=zL h;obtain⟨Z,Y⟩:=zL h;have e:=dO Z;subst e;obtain⟨id,a0,E',hlk⟩:=aS9 h3 h4;obtain⟨_,_,_,_,_,_,_,_,L⟩:=G.lam id a0 E' hlk;exact .val ((bn3 G Y L.fn L.kd (aC4 h3) (cs0 as _ X J G h3)).imp λ W H Q q=>TEv.eq (λ U s=>rfl) q)
     | _=>exact ff h
    | _=>exact ff h
   | _=>exact ff h
  | _=>exact ff h
 | .callV i es,E,X,J,G,h=>by
  cases E with
  | Call fE xs kw p =>
   cases fE with
   | Name x pN =>
    cases xs with
    | cons y ys =>
     cases kw with
     | nil =>
      obtain⟨Z,Y⟩:=zL h;exact .val (bj4 G Z (aF1 Y) (au4 (sEs es _ X J G Y)) (bG9 G Z))
     | _=>exact ff h
    | _=>exact ff h
   | _=>exact ff h
  | _=>exact ff h
 | .bi b es,E,X,J,G,h=>by
  cases E with
  | Call fE xs kw p =>
   cases fE with
   | Name x pN =>
    cases kw with
    | nil =>
     have h:co5 J b x xs (mEs J es xs) (mEs J es (xs.take 1))=true:=h;rcases biOk_inv h with⟨k,t,a,y,py,hk,rfl,rfl,rfl,Y,h4,h5⟩|⟨a,ys,rfl,Z,Y,h3⟩
     .exact bM7 G hk Y h4 (sEs es _ X J G h5)
     .exact ci8 G Z Y h3 (au4 (sEs es _ X J G h3))
    | _=>exact ff h
   | _=>exact ff h
  | _=>exact ff h
 | .mk k l,E,X,J,G,h=>by
  cases E with
  | ListComp e gs sc p =>
   obtain⟨Z,Y⟩:=zL h;have e:=dO Z;subst e;exact .val (((ch6 (sL l _ X J G 0 Y)).pe G.calm).imp λ W H Q q=>bo3 (TEv.eq (λ U s=>rfl) q))
  | Call fE xs kw p =>
   cases fE with
   | Name x pN =>
    cases xs with
    | cons a xs_0 =>
     cases xs_0 with
     | nil =>
      cases kw with
      | nil =>
       obtain⟨h,h4⟩:=zL h;obtain⟨Y,h3⟩:=zL h;rw[bW]at h4;rcases h4 with h4|h4
       .obtain⟨h5,h6⟩:=zL h4;exact .val ((cn8 G (dO h5) Y h3 (cv4 G (sL l _ X J G 2 h6))).imp λ W H Q q=>TEv.eq (λ U s=>rfl) q)
       .obtain⟨h5,h6⟩:=zL h4;exact .val ((cj9 G (dO h5) Y h3 (cc3 G (sL l _ X J G 1 h6))).imp λ W H Q q=>TEv.eq (λ U s=>rfl) q)
      | _=>exact ff h
     | _=>exact ff h
    | _=>exact ff h
   | _=>exact ff h
  | _=>exact ff h
 | .mkD k l d,E,X,J,G,h=>by
  cases E with
  | Call fE xs kw p =>
   cases fE with
   | Name x pN =>
    cases xs with
    | cons a xs_0 =>
     cases xs_0 with
     | nil =>
      cases kw with
      | cons kk kw1 =>
       cases kk with
       | mk ky de kp =>
        cases ky with
        | some y =>
         cases kw1 with
         | nil =>
          obtain⟨h,h7⟩:=zL h;obtain⟨h,h6⟩:=zL h;obtain⟨h,h5⟩:=zL h;obtain⟨h,h3⟩:=zL h;obtain⟨Z,Y⟩:=zL h;have e3:=dO Y;subst e3;obtain⟨e,e2⟩:=zL Z;have e:=dO e;have e2:=dO e2;subst e e2;exact .val ((ck3 G h3 h5 (cc3 G (sL l _ X J G 1 h6)) (sE d _ X J G h7).1).imp λ W H Q q=>TEv.eq (λ U s=>rfl) q)
         | _=>exact ff h
        | _=>exact ff h
      | _=>exact ff h
     | _=>exact ff h
    | _=>exact ff h
   | _=>exact ff h
  | _=>exact ff h
 | .me m o es,E,X,J,G,h=>by
  cases E with
  | Call fE xs kw p =>
   cases fE with
   | Attribute ob x ap =>
    cases kw with
    | nil =>
     obtain⟨h,h5⟩:=zL h;obtain⟨h,h4⟩:=zL h;obtain⟨h,h3⟩:=zL h;obtain⟨Z,Y⟩:=zL h;exact bD5 G (dO Z) Y h3 (sE o _ X J G h4).1 h5 (sEs es _ X J G h5)
    | _=>exact ff h
   | _=>exact ff h
  | _=>exact ff h
theorem sEs:∀(es:ni) (y:yK) (X:Cx) (J:Ck),CG Γ F n X J->mEs J es y=cn->PEs Γ F X es y
 | .nil,y,X,J,G,h=>by
  cases y with
  | nil =>
   exact trivial
  | _=>exact ff h
 | .cons e es,y,X,J,G,h=>by
  cases y with
  | cons x y =>
   obtain⟨h,h3⟩:=zL h;obtain⟨Y,Z⟩:=zL h;exact⟨⟨Z,sE e _ X J G Y⟩,sEs es _ X J G h3⟩
  | _=>exact ff h
theorem sFs:∀(es:ni) (J:yK) (X:Cx) (y:Ck),CG Γ F n X y->mFs y es J=cn->PF Γ X J (nq F es)
 | .nil,J,X,y,G,h=>by
  cases J with
  | nil=>exact(bY0).eq λ _ _=>rfl
  | _=>exact ff h
 | .cons e es,J,X,y,G,h=>by
  cases J with
  | cons x J =>
   cases x with
   | FormattedValue v c sp p =>
    cases sp with
    | none =>
     obtain⟨h,h3⟩:=zL h;obtain⟨Z,Y⟩:=zL h;have e1:=dO Z;subst e1;exact(ci1 (sE e _ X y G Y).1 (sFs es _ X y G h3)).eq λ _ _=>rfl
    | _=>exact ff h
   | Constant v j p =>
    obtain⟨Z,Y⟩:=zL h;exact(cl4 (sE e _ X y G Z).1 (sFs es _ X y G Y)).eq λ _ _=>rfl
   | _=>exact ff h
  | _=>exact ff h
theorem sAs:∀(es:nV) (y:yK) (X:Cx) (J:Ck),CG Γ F n X J->mAs J es y=cn->PA X y (TAv Γ (n0 F es))
 | .nil,y,X,J,G,h=>by
  cases y with
  | nil =>
   exact aj5.imp λ W H Q q=>aY1 (TAv.eq (λ U s=>rfl) q)
  | _=>exact ff h
 | .ex e es,y,X,J,G,h=>by
  cases y with
  | cons x y =>
   obtain⟨h,h3⟩:=zL h;obtain⟨Z,Y⟩:=zL h;exact(aT7 Y (sE e _ X J G Z).1 (sAs es _ X J G h3)).imp λ W H Q q=>TAv.eq (λ U s=>rfl) q
  | _=>exact ff h
 | .lam _ _ _,y,X,J,G,h=>ff h
 | .fn _ _,y,X,J,G,h=>ff h
theorem cs0:∀(es:nV) (y:yK) (X:Cx) (Y:Ck),CG Γ F n X Y->bX1 Y es y=cn->PA X y (TAp Γ X.env.cells X.N (n0 F es))
 | .nil,y,X,Y,G,h=>by
  cases y with
  | nil =>
   exact aj5.imp λ W H Q q=>bL1 (TAp.eq (λ U s=>rfl) q)
  | _=>exact ff h
 | .ex e es,y,X,Y,G,h=>by
  cases y with
  | cons x y =>
   obtain⟨h,h3⟩:=zL h;obtain⟨h1,Z⟩:=zL h;exact(qL (sE e _ X Y G h1).1 (cs0 es _ X Y G h3) (zA Z)).imp λ W H Q q=>ck6 (TAp.eq (λ U s=>rfl) q)
  | _=>exact ff h
 | .lam id caps es,y,X,Y,G,h=>by
  cases y with
  | cons x y =>
   obtain⟨h,h3⟩:=zL h;obtain⟨h1,Z⟩:=zL h;obtain⟨c,P,params,body,scope,pos,J,e,L⟩:=G.lam id caps _ h1;have hnm:J.nm=none:=by
    cases q:J.nm with
    | none=>rfl
    | some p=>unfold lamText at e;rw[q]at e;rw[e]at Z;cases Z
   unfold lamText at e;rw[hnm]at e;dsimp only at e;subst e;rw[<-G.N]at L;exact(ci2 L hnm (cs0 es _ X Y G h3)).imp λ W H Q q=>TAp.eq (λ U s=>rfl) q
  | _=>exact ff h
 | .fn _ _,y,X,Y,G,h=>ff h
theorem sI:∀(i:DV.I) (E tg:Expr) (X:Cx) (y:Ck),CG Γ F n X y->mI y tg i E=cn->PI X tg E (TIv Γ (oG F i))
 | .seq e,E,tg,X,y,G,h=>by
  obtain⟨J,Y⟩:=zL h;exact bS3 G (sE e _ X y G J).1
 | .rg a,E,tg,X,y,G,h=>by
  cases E with
  | Call fE xs kw p =>
   cases fE with
   | Name x pN =>
    cases xs with
    | cons l xs_0 =>
     cases xs_0 with
     | nil =>
      cases kw with
      | nil =>
       obtain⟨h,Z⟩:=zL h;obtain⟨h,h3⟩:=zL h;obtain⟨J,Y⟩:=zL h;have e:=dO J;subst e;exact bA9 G Y Z (sE a _ X y G h3).1
      | _=>exact ff h
     | _=>exact ff h
    | _=>exact ff h
   | _=>exact ff h
  | _=>exact ff h
 | .enum (.seq a),E,tg,X,y,G,h=>by
  cases E with
  | Call fE xs kw p =>
   cases fE with
   | Name x pN =>
    cases xs with
    | cons l xs_0 =>
     cases xs_0 with
     | nil =>
      cases kw with
      | nil =>
       obtain⟨h,h5⟩:=zL h;obtain⟨h,Z⟩:=zL h;obtain⟨h,h3⟩:=zL h;obtain⟨J,Y⟩:=zL h;have e:=dO J;subst e;cases tg with
       | Tuple es k p=>exact bz3 G Y Z (sE a _ X y G h3).1
       | _=>exact ff h5
      | _=>exact ff h
     | _=>exact ff h
    | _=>exact ff h
   | _=>exact ff h
  | _=>exact ff h
 | .enum (.rg _),E,tg,X,y,G,h=>ff h
 | .enum (.enum _),E,tg,X,y,G,h=>ff h
theorem sL:∀(l:DV.L) (E:Expr) (X:Cx) (J:Ck),CG Γ F n X J->∀ k,mL J k l E=cn->LK Γ X (DV.evL F l) E k
 | .comp tg it e caps,E,X,J,G,k,h=>by
  cases E with
  | ListComp elt gs scope p =>
   cases gs with
   | cons g gs1 =>
    cases g with
    | mk tgt iter ifs z =>
     cases ifs with
     | nil =>
      cases gs1 with
      | nil =>
       obtain⟨h,h3⟩:=zL h;obtain⟨h,Y⟩:=zL h;obtain⟨h0,y⟩:=zL h;have Z:=dO h0;subst Z;have c:=bz5 (pos:=p) G y (sI it _ _ X J G Y) λ Cc cells s H ex=>(sE e _ _ _ ((G.comp y).2.2 Cc cells s H ex).1 h3).1;exact .c (c.eq λ U s=>rfl)
      | _=>exact ff h
     | _=>exact ff h
   | _=>exact ff h
  | _=>exact ff h
 | .compIf tg it i e caps,E,X,J,G,k,h=>by
  cases E with
  | ListComp elt gs scope p =>
   cases gs with
   | cons g gs1 =>
    cases g with
    | mk tgt iter ifs z =>
     cases ifs with
     | cons i1 ifs1 =>
      cases ifs1 with
      | nil =>
       cases gs1 with
       | nil =>
        obtain⟨h,h4⟩:=zL h;obtain⟨h,h3⟩:=zL h;obtain⟨h,Y⟩:=zL h;obtain⟨h0,y⟩:=zL h;have Z:=dO h0;subst Z;have c:=bJ9 (pos:=p) G y (sI it _ _ X J G Y) (λ Cc cells s H ex=>(sE i _ _ _ ((G.comp y).2.2 Cc cells s H ex).1 h3).2) λ Cc cells s H ex=>(sE e _ _ _ ((G.comp y).2.2 Cc cells s H ex).1 h4).1;exact .c (c.eq λ U s=>rfl)
       | _=>exact ff h
      | _=>exact ff h
     | _=>exact ff h
   | _=>exact ff h
  | _=>exact ff h
 | .disp es,E,X,J,G,k,h=>by
  cases E with
  | List xs p =>
   obtain⟨h,Y⟩:=zL h;obtain⟨h0,y⟩:=zL h;exact .f (dO h0) (bO0 y (dO Y) (au4 (sEs es _ X J G y)))
  | _=>exact ff h
 | .seq e,E,X,J,G,k,h=>by
  obtain⟨h0,y⟩:=zL h;exact .s (dO h0) ((sE e _ X J G y).1.imp λ W H Q q=>ch8 (TLv.eq (λ U s=>rfl) q))
end
end
section
variable {Γ:Gm} {F:ng} {n:Nat}
def bw7 (G:CG Γ F n X ck)(c:CompF Γ X m E)(hi:ck.N[i]?=aT x)(hl:ck.loc x=cn) :
  PS X (.Assign [.Name x px] E pos) (bz9 (TFv Γ m) (aH6 i)):=by
 refine wl λ _ kk=>?_;obtain⟨J,Z,iter,y,scope,p2,N',h,wi,g,tc,te,rfl,h1,h2,h3,h4,h5⟩:=c.ex;obtain⟨l1,l2⟩:=G.loc hl;have nd:X.N.Nodup:=by rw[G.N];exact G.nd
 have a0:X.N[i]?=aT x:=by rw[G.N];exact hi
 generalize hb:((X.env.blockKind==.function&&X.env.kindOf x==aT .local&&px.line==(Expr.ListComp J [⟨Z,iter,y,0⟩] scope p2).pos.line&&!(scope.names.any λ(n,k)=>n==x&&(k==.local||k==.cell))))=b;have Y:fG (.ListComp J [⟨Z,iter,y,0⟩] scope p2) (aT (.Name x px)) pos.line X.env=pure b:=by rw[<-hb];rfl
 have imp:∀ D W H,bz9 (TFv Γ m) (aH6 i) D W H->bz9 (tComp h wi g tc te) (aH6 i) D W H:=λ D W H q=>h5 _ _ _ q;refine kk ?_;cases b with
 | true =>
  have a1:X.env.scope.names.lookup x=aT .local:=by
   simp only[aw]at hb;exact eq_of_beq hb.1.1.2
  exact(bb6 N' h nd a0 a1 h1 h2 G.calm h3 h4 Y).imp imp
 | false=>exact(bI2 nd a0 l1 (bh4 N' h h1 h2 G.calm h3 h4) Y l2).imp imp
def bS1 (G:CG Γ F n X y)(Y:y.N[i]?=aT x)(hl:y.loc x=cn)(h:mE y e v=cn) :
  PS X (.Assign [.Name x px] v pos) (TSv Γ (DV.ex F (.A (.Y i) e))):=by
 obtain⟨l1,l2⟩:=G.loc hl;have nd:X.N.Nodup:=by rw[G.N];exact G.nd
 have J:X.N[i]?=aT x:=by rw[G.N];exact Y
 by_cases hc:aI9 v=cn
 .exact(bI2 nd J l1 (sE e v X y G h).1 (aC8 hc) l2).imp λ D W H q=>bl8 (TSv.eq (λ U s=>rfl) q)
 .have hs:=aI5 h;cases v with
  | ListComp elt gs sc p =>
   cases e with
   | mk k l =>
    obtain⟨Z,h2⟩:=zL h;have e:=dO Z;subst e;exact(bw7 G (ch6 (sL l _ X y G 0 h2)) Y hl).imp λ D W H q=>bB3 (TSv.eq (λ U s=>rfl) q)
   | _=>exact ff h
  | SetComp _ _ _ _=>cases hs
  | DictComp _ _ _ _ _=>cases hs
  | _=>exact iF rfl hc
def bD0 {body:yL}(hT:TabsH T H)(nd:(T.map (·.1)).Nodup)(hm:(P,q)∈T)
  (go:∀(f:Addr) (H':Hp),bi5 H H'->(∀ b,H b≠bY->H' b≠bY)->TabsH T H'->H f=bY->(∃ G pm c' Y,H' f=aT (aF9 f (cT name q params body scope (ai8 cells scope.names []) .none .none G pm bY (.ref c') Y))/\H' c'=aT (ji c' q))->D0.nx (W.set ix (aT (.ref f))) H') :
  cz9 cells P name q params body scope pos ix D0 W H:=by
 obtain⟨ps,hP,ht,hc⟩:=hT _ hm;refine⟨ps,hP,ht,λ hn c' f G pm Y n1 n2 ne=>?_,λ cv e=>?_⟩
 .have cP:c'≠P:=λ z=>by lia
  have fP:f≠P:=λ z=>by lia
  have J:∀ b,b≠P->H b≠bY->∀ o1 o2 o3,upd (upd (upd H P o1) c' o2) f o3 b=H b:=λ b z1 z2 o1 o2 o3=>by
   rw[zr λ z=>by subst z;exact z2 n2,zr λ z=>by subst z;exact z2 n1,zr z1]
  refine go f _ (λ b o d e=>?_) (λ b hb=>?_) (λ y hy=>?_) n2 ⟨G,pm,c',Y,zu,by rw[zr ne,zu]⟩
  .rw[J b (λ z=>by subst z;rw[hP]at e;cases e;exact d _ rfl) (by rw[e];simp)];exact e
  .by_cases z:b=P
   .subst z;rw[zr (cg fP),zr (cg cP),zu];simp
   .rw[J b z hb];exact hb
  .by_cases z:y.1=P
   .have ey:=by
     have:∀(l:List (Addr×Str)),(l.map (·.1)).Nodup->y∈l->(P,q)∈l->y=(P,q):=by
      intro l
      induction l with
      | nil=>intro _ h;simp at h
      | cons a l ih =>
       grind
     exact this T nd hy hm
    subst ey;refine⟨_,by rw[zr (cg fP),zr (cg cP),zu],?_,λ Z cv e=>?_⟩
    .rw[d7];exact TriplesOk_snoc _ _ _ _ ht
    .rw[d7]at e;rcases codeAmong_add _ ht e with e'|e'
     .obtain⟨c2,e1,e2⟩:=hc Z cv e';exact⟨c2,e1,by rw[J c2 (λ z=>by subst z;rw[hP]at e2;unfold ji at e2;lia) (by rw[e2];simp)];exact e2⟩
     .exact⟨c',e',by rw[zr ne,zu]⟩
   .obtain⟨qs,e1,e2,e3⟩:=hT y hy;refine⟨qs,by rw[J y.1 z (by rw[e1];simp)];exact e1,e2,λ Z cv e=>?_⟩;obtain⟨c2,e4,e5⟩:=e3 Z cv e;exact⟨c2,e4,by rw[J c2 (λ z=>by subst z;rw[hP]at e5;unfold ji at e5;lia) (by rw[e5];simp)];exact e5⟩
 .obtain⟨c',e1,e2⟩:=hc pos cv e;refine⟨c',e1,λ f G pm Y n=>go f _ (.of ((ak4.refl H).new n)) (λ b hb=>by
   by_cases z:b=f
   .subst z;rw[zu];simp
   .rw[zr z];exact hb) (hT.new n) n ⟨G,pm,c',Y,zu,?_⟩⟩
  rw[zr (zV e2 n)];exact e2
theorem bs1  env  : ∀ l : List Arg, (l.all λ y => y.annotation.isNone) = cn -> kj l env = []
 | [], _ => by unfold kj; rfl
 | ⟨x,aT a,p⟩::l,h=>by simp at h
 | ⟨x,bY,p⟩::l,h=>by
  unfold kj;exact bs1 env l (by simpa using h)
def bD2 (h:bJ5 params=cn) env :params.defaults=[]/\params.kw_defaults=[]/\annTrees params bY env=[]:=by
 unfold bJ5 at h;split at h
 .refine⟨rfl,rfl,?_⟩;unfold annTrees;simp only[Option.toList,bu];rw[bs1 env _ h];rfl
 .cases h
def aP4 {α:Type}{o}{f:α->Bool}(h:o.any f=cn):∃ a,o=aT a/\f a=true:=by
 cases o with
 | none=>exact ff h
 | some a=>exact⟨a,rfl,h⟩
def bC7 {s}(h:cu9 s y=aT d):s=.und d.1/\y=.cons (.ret (.callC d.2.1 (.ex d.2.2.1 (.lam d.2.2.2.1 d.2.2.2.2 .nil)))) .nil:=by
 unfold cu9 at h;split at h
 .cases h;exact⟨rfl,rfl⟩
 .cases h
def bD8 {S:yL}(h:cy1 S=aT q):S=.FunctionDef q.1 q.2.1 [.Return (aT q.2.2.1) q.2.2.2.1] [] bY [] q.2.2.2.2.1 bY q.1 q.2.2.2.2.2.1::q.2.2.2.2.2.2:=by
 have y:∀ {p},(bY)=aT q->p:=λ h=>nomatch h;cases S with
 | cons x xs =>
  cases x with
  | FunctionDef nm params body dl ret tp scope ts nm2 pos =>
   cases body with
   | cons b1 bs =>
    cases b1 with
    | Return v rp =>
     cases v with
     | some b =>
      cases bs with
      | nil =>
       cases dl with
       | nil =>
        cases ret with
        | none =>
         cases tp with
         | nil =>
          cases ts with
          | none =>
           have h:(if nm2=nm then aT (nm,params,b,rp,scope,pos,xs)else bY)=aT q:=h;by_cases e:nm2=nm
           .rw[gc e]at h;cases h;rw[e]
           .rw[gn e]at h;exact y h
          | _=>exact y h
         | _=>exact y h
        | _=>exact y h
       | _=>exact y h
      | _=>exact y h
     | _=>exact y h
    | _=>exact y h
   | _=>exact y h
  | _=>exact y h
 | _=>exact y h
def bD7 {S:yL}(h:cy7 J S=aT r):S=[.Return (aT (.Call (.Name r.1 r.2.1) [r.2.2.1,.Name J r.2.2.2.1] [] r.2.2.2.2.1)) r.2.2.2.2.2]:=by
 have G:∀ {p},(bY)=aT r->p:=λ h=>nomatch h;cases S with
 | cons x xs =>
  cases x with
  | Return v rp2 =>
   cases v with
   | some e =>
    cases e with
    | Call f as kw cp =>
     cases f with
     | Name g gp =>
      cases as with
      | cons a as1 =>
       cases as1 with
       | cons y as2 =>
        cases y with
        | Name x p2 =>
         cases as2 with
         | nil =>
          cases kw with
          | nil =>
           cases xs with
           | nil =>
            have h:(if x=J then aT (g,gp,a,p2,cp,rp2)else bY)=aT r:=h;by_cases e:x=J
            .rw[gc e]at h;cases h;rw[e]
            .rw[gn e]at h;exact G h
           | _=>exact G h
          | _=>exact G h
         | _=>exact G h
        | _=>exact G h
       | _=>exact G h
      | _=>exact G h
     | _=>exact G h
    | _=>exact G h
   | _=>exact G h
  | _=>exact G h
 | _=>exact G h
set_option tactic.hygienic true in
def bX7 {s}(G:CG Γ F n X ck)(hM:cb6 ck s ss S=cn):PSs X S (TSv Γ (oS F (.cons s ss))):=by
 obtain⟨⟨i,g,e,id,Y⟩,e1,hA⟩:=aP4 hM;clear hM;obtain⟨⟨Z,params,b,rp,scope,pos,xs⟩,e2,hB⟩:=aP4 hA;clear hA;obtain⟨⟨g',gp,a,p2,cp,rp2⟩,e3,h⟩:=aP4 hB;clear hB;obtain⟨rfl,rfl⟩:=bC7 e1;have e3:=bD7 e3;have e2:=bD8 e2;dsimp only at e2 e3 h ⊢;subst e3;subst e2;clear e1;obtain⟨h,c3⟩:=zL h;obtain⟨h,b2⟩:=zL h;obtain⟨h,h9⟩:=zL h;obtain⟨h,h8⟩:=zL h;obtain⟨h,h7⟩:=zL h;obtain⟨h,h6⟩:=zL h;obtain⟨h,h5⟩:=zL h;obtain⟨h0,h2⟩:=zL h;have h7:=dO h7;subst h7;have h1:=dO h0;clear h0;obtain⟨c,P,b0,c2,b4,e8,J,eE,L⟩:=G.lam id Y _ h6;obtain⟨pn,hnm⟩:∃ pn,J.nm=aT pn:=by
  cases q:J.nm with
  | none=>unfold lamText at eE;simp_all
  | some p=>exact⟨p,rfl⟩
 obtain⟨pa,pb⟩:=pn;unfold lamText at eE;rw[hnm]at eE;dsimp only at eE;cases eE;rw[<-G.N]at L h1;obtain⟨l1,l2⟩:=G.loc h2;obtain⟨a1,a2,a3⟩:=bD2 c3 X.env;have b5:X.env.kindOf Z=aT .local\/X.env.kindOf Z=aT .cell:=l1;have hq:lJ X.env Z Z=J.qual:=by
  rw[L.q];unfold LamI.own lJ;rw[hnm];rcases b5 with z|z<;>rw[z]<;>rfl
 have p1:=cj4 (body:=[.Return (aT b) rp]) (pos:=pos) (by rw[G.N];exact G.nd) h1 l1 L.code L.hd L.bm L.ck hq a1 a2 a3 l2;have e0:PE X (.Name Z p2) (bI7 i):=bG9 G h5;obtain⟨g1,g2,g3⟩:=G.gl h8;rcases G.call g with hb|⟨fa,fd,ps,hF,d0,hk,hB⟩
 .intro e9 sh W H D I q;refine wl λ _ kk=>?_;obtain⟨C,U,s,c,s',E,R,hm,q⟩:=q;obtain⟨c1,s1,e1,hm⟩:=aa1 hm;have e1:(match oT U i with|some U=>DV.R.ok (DV.Ct.next U) s|none=>.B)=.ok c1 s1:=e1;refine kk ?_;split at e1
  case h_2=>cases e1
  cases e1;obtain⟨c1,s1,e1,hm⟩:=aa1 hm;obtain⟨d1,s2,e1,y⟩:=aa1 e1;obtain⟨l,s3,e1,y⟩:=aa1 e1
  simp_all
 have hE:=(sE e _ X ck G h9).1;have hA:=qL hE (qL e0 aj5 (zA rfl)) (zA b2);have p3:=aX1 (p:=gp) (pos:=cp) hF G.room g1 d0 hk hB L.fn hA g2 (zA b2) (qi λ z hz=>by rw[bv.mp hz];rfl).1;refine(as0 p1 (as0 (bi9 p3) aP7)).imp λ D W H q=>?_;obtain⟨C,U,s,c0,s',E,R,hm,q⟩:=q;obtain⟨c1,s1,e1,hm⟩:=aa1 hm;have e1:(match oT U i with|some U=>DV.R.ok (DV.Ct.next U) s|none=>.B)=.ok c1 s1:=e1;unfold oT at e1;by_cases hil:i < U.length
 case neg=>simp_all
 rw[gc hil]at e1;cases e1;obtain⟨c1,s1,e1,hm⟩:=aa1 hm;obtain⟨d1,s2,e1,y⟩:=aa1 e1;cases y;cases hm;obtain⟨l,s3,e1,y⟩:=aa1 e1;obtain⟨d2,s4,e4,y⟩:=aa1 y;split at y
 case isFalse=>exact fb y
 rename_i hn;cases y;rw[aw]at hn;obtain⟨x1,s5,e5,e1⟩:=aa1 e1;obtain⟨y1,s6,e6,e1⟩:=aa1 e1;cases e1;have e6:(match nw (U.set i bY) Y with|some cs=>(n0 F .nil (U.set i bY) s5).bind λ l s=>DV.R.ok (DV.D.clo id cs::l) s|none=>DV.R.B)=.ok y1 s3:=e6;cases eg:nw (U.set i bY) Y with
 | none=>simp_all
 | some cs =>
  rw[eg]at e6;cases e6;refine bD0 R.tab L.nd L.tab λ f H' eS st tb hf ho=>?_;refine wl λ _ kk=>?_;obtain⟨a4,R1⟩:=R.sameT eS st tb;have E1:RE Γ C H' s.length (U.set i bY) (W.set i (aT (.ref f))):=by
   have E0:=E.mono a4 (ai _);refine⟨by rw[bE,bE];exact E0.len,λ j d ej=>?_⟩;by_cases z:i=j
   .simp_all
   .rw[bq z]at ej;obtain⟨q1,v,q2,q3⟩:=E0.val j d ej;exact⟨q1,v,by rw[bq z];exact q2,q3⟩
  obtain⟨cap,a6,a0,hW⟩:=bk5 E1 eg;have a5:=(av0 eg).1;have c4:an6 H' f J (ai8 X.env.cells J.scope.names []):=by
   unfold an6;rw[hnm];dsimp only;rw[L.p,L.b,L.s];exact ho
  refine kk ⟨C,U.set i bY,s,x1,_,E1,R1,e5,λ v1 C1 H1 g1 l1 b1 r1 e7=>?_⟩;have b6:i < W.length:=by rw[<-E.len];exact hil
  refine⟨.ref f,by rw[a7 b6],?_⟩;intro H2 ca;obtain⟨gs,R2⟩:=e7.same ca.same;have b3:=ae9 l1 cs a0;have d3:∀ m,x1.bnd m=cn->mN m cs=cn->mN m [x1,.clo id cs]=true:=λ m z1 z2=>by
   simp only[mN,z1,dM,du];unfold mR;exact z2
  have bl:=d3 _ b1 b3;have pv:PVL Γ X.env.cells X.N (W.set i (aT (.ref f))) C1 H1 [x1,.clo id cs] [v1,.ref f]:=by
   refine .cons (.inl r1) (.cons (.inr ⟨id,cs,rfl,f,J,rfl,L.lg,c4.kp g1.w.kp,by rw[a5,L.len],by rw[L.s];exact L.cl,cap,RVL.mono g1 cs cap a0 a6,λ i x v e1 e3=>?_⟩) .nil);have hi:i<Y.length:=by rw[<-L.len];exact(ab.mp e1).1
   have hj:Y[i]?=aT Y[i]:=ac hi;exact⟨by rw[L.s];exact L.fr x (aC e1),Y[i],L.at_ i _ x hj e1,hW i _ v hj e3⟩
  refine⟨C1,_,[x1,.clo id cs],_,_,R2,pv.caught ca L.kd bl,bl,e4,λ v C' H3 g' l' b' r' R'=>?_⟩;have hc:Cells X.env.cells H3:=ca.cells.kp g'.w.kp;exact q C' (ah0 X.env.cells H3) ((a4.trans g1 (ai _)).trans (Gr.caught ca g') l1) (am l1 l') (R'.dropC hc hn.2) v b' (RV.dropC hc _ v hn.1 r')
mutual
theorem sS:∀(st:oQ) (S:Stmt) (X:Cx) (y:Ck),CG Γ F n X y->mS y st S=cn->PS X S (TSv Γ (DV.ex F st))
 | .A tg e,S,X,y,G,h=>by
  cases S with
  | Assign ts v p =>
   cases ts with
   | cons t ts1 =>
    cases ts1 with
    | nil =>
     obtain⟨h,h3⟩:=zL h;obtain⟨Y,J⟩:=zL h;cases tg with
     | Y i =>
      have h:=Y;cases t with
      | Name x px =>
       obtain⟨a1,Z⟩:=zL h;exact bS1 G (dO a1) Z J
      | _=>exact ff h
     | tp is =>
      obtain⟨a1,Z⟩:=zL h3;have h:=Y;cases t with
      | Tuple te tk tp=>exact(bH5 (sE e _ X y G J).1 (bJ3 G Y) (show fG v (aT (.Tuple te tk tp)) p.line X.env=pure dt from aC8 Z) (bb1 a1) rfl).imp λ D W H q=>bl8 (TSv.eq (λ U s=>rfl) q)
      | _=>exact ff h
    | _=>exact ff h
   | _=>exact ff h
  | _=>exact ff h
 | .setIx o i e,S,X,y,G,h=>by
  cases S with
  | Assign ts v p2 =>
   cases ts with
   | cons tt ts1 =>
    cases tt with
    | Subscript ob ix p1 =>
     cases ts1 with
     | nil =>
      obtain⟨h,h4⟩:=zL h;obtain⟨h,h3⟩:=zL h;obtain⟨Y,J⟩:=zL h;have a0:=aI5 J;refine(bH5 (sE e _ X y G h3).1 (ca0 (sE o _ X y G Y).1 (sE i _ X y G J).1 (ck4 (aW8 G.room)) ?_) (show fG v (aT (.Subscript ob ix p1)) p2.line X.env=pure dt from aC8 h4) ba5 ?_).imp λ D W H q=>bD4 (TSv.eq (λ U s=>rfl) q)
      .intro w;cases ix<;>first|rfl|cases a0
      .rfl
     | _=>exact ff h
    | _=>exact ff h
   | _=>exact ff h
  | _=>exact ff h
 | .aug i e,S,X,y,G,h=>by
  cases S with
  | AugAssign tt op v p =>
   cases tt with
   | Name x p1 =>
    cases op with
    | Add =>
     obtain⟨h,h3⟩:=zL h;obtain⟨Y,J⟩:=zL h;obtain⟨l1,l2⟩:=G.loc J;exact(cg9 (by rw[G.N];exact G.nd) (by rw[G.N];exact dO Y) l1 (sE e _ X y G h3).1 bZ1 l2).imp λ D W H q=>cd7 (TSv.eq (λ U s=>rfl) q)
    | _=>exact ff h
   | _=>exact ff h
  | _=>exact ff h
 | .ex e,S,X,y,G,h=>by
  cases S with
  | Expr v p =>
   obtain⟨Y,J⟩:=zL h;exact(bP8 (sE e _ X y G Y).1 (aC8 J)).imp λ D W H q=>bU5 (TSv.eq (λ U s=>rfl) q)
  | _=>exact ff h
 | .ret e,S,X,y,G,h=>by
  cases S with
  | Return vo p =>
   cases vo with
   | some v =>
    exact(bi9 (sE e _ X y G h).1).imp λ D W H q=>bY6 (TSv.eq (λ U s=>rfl) q)
   | _=>exact ff h
  | _=>exact ff h
 | .ite c a b,S,X,y,G,h=>by
  cases S with
  | If t l r p =>
   obtain⟨h,h3⟩:=zL h;obtain⟨Y,J⟩:=zL h;exact(cq4 (sE c _ X y G Y).2 (sSs a _ X y G J) (sSs b _ X y G h3)).imp λ D W H q=>cv7 (TSv.eq (λ U s=>rfl) q)
  | _=>exact ff h
 | .whl c b,S,X,y,G,h=>by
  cases S with
  | While t l o p =>
   cases o with
   | nil =>
    obtain⟨Y,J⟩:=zL h;exact(bB5 (by rw[G.xe];exact ln) (sE c _ X y G Y).2 (sSs b _ X y G J)).imp λ D W H q=>bw0 (TSv.eq (λ U s=>rfl) q)
   | _=>exact ff h
  | _=>exact ff h
 | .fo tg it b,S,X,y,G,h=>by
  cases S with
  | For tgt iter l o p =>
   cases o with
   | nil =>
    obtain⟨h,h3⟩:=zL h;obtain⟨Y,J⟩:=zL h;exact(cn0 (by rw[G.xe];exact ln) G.calm (sI it _ _ X y G J) (bJ3 G Y) (sSs b _ X y G h3) (aN8 (cj0 J))).imp λ D W H q=>cf0 (TSv.eq (λ U s=>rfl) q)
   | _=>exact ff h
  | _=>exact ff h
 | .und _,S,X,y,G,h=>ff h
 | .raise,S,X,y,G,h=>bC8.imp λ D W H q=>by
  obtain⟨C,U,s,c,s',E,R,hm,q⟩:=q;cases hm
theorem sSs:∀(st:oz) (S:yL) (X:Cx) (y:Ck),CG Γ F n X y->mSs y st S=cn->PSs X S (TSv Γ (oS F st))
 | .nil,S,X,y,G,h=>by
  cases S with
  | nil =>
   exact aP7.imp λ D W H q=>bQ8 (m:=oS F .nil) (λ U s=>rfl) q
  | _=>exact ff h
 | .cons s ss,S,X,y,G,h=>by
  cases S with
  | cons x xs =>
   rcases(bW _ _).mp h with h|h
   .exact bX7 G h
   obtain⟨Y,J⟩:=zL h;exact(as0 (sS s _ X y G Y) (sSs ss _ X y G J)).imp λ D W H q=>ca4 (TSv.eq (λ U s=>rfl) q)
  | _=>exact ff h
end
end
section
variable {X:Cx} {a:Addr} {oe:Obj}
end
section
variable {Γ:Gm}
def aQ5 (R:Rp Γ C H s)(g:Gr C s H C1 s1 G)(ho:oU s s1=cn)(y:i<s.length)(e:s1[i]?=aT o):o.bnd s.length=true:=by
 unfold oU at ho;have:=aU.mp ho i (aX.mpr y);rw[e,bW]at this;rcases this with h|h
 .exact R.wf i o (dO h).symm
 .exact h
def jz {s1:mK}(e:(s1.take k)[i]?=aT o):i<k/\s1[i]?=aT o:=by
 rw[List.getElem?_take]at e;split at e
 .exact⟨‹_›,e⟩
 .cases e
def bc0 (R:Rp Γ C H s)(g:Gr C s H C1 s1 h)(R1:Rp Γ C1 h s1)(ho:oU s s1=cn):Gr C s H C1 (s1.take s.length) h/\Rp Γ C1 h (s1.take s.length):=by
 have hl:(s1.take s.length).length=s.length:=by rw[br];have:=g.le;lia
 refine⟨⟨g.w,by rw[hl];exact ai _,λ i J G=>by rw[hl]at G;lia,λ i o y e e'=>g.kd i o y e (jz e').2,g.st,g.fr⟩,λ i j o y e e' m m' z=>R1.inj i j o y (jz e).2 (jz e').2 m m' z,λ i o e=>R1.obj i o (jz e).2,λ i o e=>?_,R1.tab⟩;rw[hl];exact aQ5 R g ho (jz e).1 (jz e).2
set_option tactic.hygienic true in
def aE8 (R:Rp Γ C H s)(g:Gr C s H C1 s1 Y)(R1:Rp Γ C1 Y s1)(hb:v0.bnd s1.length=cn)(r:RV Γ C1 Y v0 v)(h:DV.zY s v0 s1=.ok d s') :
  ∃ C',Gr C s H C' s' Y/\s.length<=s'.length/\d.bnd s'.length=cn/\RV Γ C' Y d v/\Rp Γ C' Y s':=by
 have all:d=v0->s'=s1->∃ C',Gr C s H C' s' Y/\s.length<=s'.length/\d.bnd s'.length=cn/\RV Γ C' Y d v/\Rp Γ C' Y s':=λ e1 e2=>by
  subst e1;subst e2;exact⟨C1,g,g.le,hb,r,R1⟩
 unfold DV.zY at h;split at h
 case isFalse=>cases h;exact all rfl rfl
 rename_i ho;obtain⟨gt,Rt⟩:=bc0 R g R1 ho;have hl:(s1.take s.length).length=s.length:=by rw[br];have:=g.le;omega
 have tk:d=v0->s'=s1.take s.length->v0.bnd s.length=cn->∃ C',Gr C s H C' s' Y/\s.length<=s'.length/\d.bnd s'.length=cn/\RV Γ C' Y d v/\Rp Γ C' Y s':=λ e1 e2 b=>by
  subst e1;subst e2;exact⟨C1,gt,by rw[hl];exact ai _,by rw[hl];exact b,r,Rt⟩
 split at h
 .rename_i k;split at h
  .cases h;exact tk rfl rfl (by unfold mR;exact gW ‹_›)
  .rename_i hk;split at h
   .rename_i o eo;split at h
    .rename_i Z;cases h;have gw:Gw C1 s.length Y (λ i=>if i=s.length then C1 k else C1 i) Y:=⟨λ i y=>gn (aD y),Kp.refl _⟩
     have key:∀(i:Nat) (J:nr),(s1.take s.length++[o])[i]?=aT J->(i<s.length/\s1[i]?=aT J)\/(i=s.length/\J=o):=λ i J e=>by
      rcases gh i s.length with h|h|h
      .rw[ax (by rw[hl];exact h)]at e;exact .inl (jz e)
      .subst h;rw[ag (by rw[hl];exact ai _),hl,dj]at e;exact .inr ⟨rfl,(aq e).symm⟩
      .rw[bn (by rw[aN,hl];simp;lia)]at e;cases e
     have G:(s1.take s.length++[o]).length=s.length+1:=by rw[aN,hl];rfl
     refine⟨λ i=>if i=s.length then C1 k else C1 i,⟨⟨λ i y=>?_,g.w.kp⟩,by rw[G];lia,λ i h1 h2=>?_,λ i oo J e e'=>?_,g.st,g.fr⟩,by rw[G];omega,by unfold mR;rw[G];exact gW (cW _),?_,⟨λ i j oi oj a1 a0 mi mj e=>?_,λ i J e=>?_,λ i J e=>?_,R1.tab⟩⟩
     .skip
      rw[gn (aD y)];exact g.w.map i y
     .rw[G]at h2
      skip
      rw[gc (by lia)];exact g.new k (by lia) (ab.mp eo).1
     .rcases key i J e' with⟨_,e2⟩|⟨y,_⟩
      .exact g.kd i oo J e e2
      simp_all
     .rw[r.refE];unfold RV;lia
     .rcases key i oi a1 with⟨y,ei⟩|⟨y,zi⟩<;>rcases key j oj a0 with⟨hj,ej⟩|⟨hj,zj⟩
      .rw[gn (aD y),gn (aD hj)]at e;exact R1.inj i j oi oj ei ej mi mj e
      .rw[gn (aD y),gc hj]at e;subst zj;have:=R1.inj i k oi _ ei eo mi mj e;lia
      .rw[gn (aD hj),gc y]at e;subst zi;have:=R1.inj k j _ oj eo ej mi mj e;lia
      .rw[y,hj]
     .rcases key i J e with⟨y,e⟩|⟨y,rfl⟩
      .skip
       rw[gn (aD y)];exact(R1.obj i J e).mono gw (aQ5 R g ho y e) λ _ u hu=>hu
      .skip
       rw[gc y];exact(R1.obj k _ eo).mono gw Z λ _ u hu=>hu
     .rw[G];rcases key i J e with⟨y,e⟩|⟨_,rfl⟩
      .exact ja (dX _) _ (aQ5 R g ho y e)
      .exact ja (dX _) _ Z
    .cases h;exact all rfl rfl
   .exact fb h
 .split at h
  .cases h;exact tk rfl rfl ‹_›
  .cases h;exact all rfl rfl
structure LamGood (J:LamI)(L:n8):Prop where
 sc:LamScope (J.ps++J.fr) J.ps J.fr J.scope
 ps:J.ps.length=L.ps
 fr:J.fr.length=L.cs
 m:mE (ck0 (J.ps++J.fr) J.scope) L.body J.body=cn
 pa:lamArgs J.params=aT J.ps
 bind:∀(clos:yB) (doc pm:Value) (c':Addr) (ctv:Value) (us:yG),us.length=J.ps.length->eO (bU "<lambda>" J.qual J.params J.body J.scope clos pm (.ref c') ctv) ⟨us,[]⟩=pure (J.ps.zip us) /\
  ∀(nm:Str) (rp:Pos),eO (cT nm J.qual J.params [.Return (aT J.body) rp] J.scope clos .none .none doc pm bY (.ref c') ctv) ⟨us,[]⟩=pure (J.ps.zip us)
structure LkAt (Γ:Gm)(cds:yF)(f:Str)(sc:Scope)(N:yH)(fd:bH)(id:String)(caps:List Nat)(params:a9)(body:Expr)(scope:Scope)(c P:Addr)(J:LamI):Prop where
 code:fd.code=.ref c
 cd:(c,P)∈cds
 ck:lamCheck scope sc=cn
 fre:∀ x,scope.names.lookup x=aT .free->sc.names.lookup x=aT .cell
 cel:∀ y∈sc.names,y.2=.cell->sc.names.lookup y.1=aT .cell
 df:∀ env,lI params env=([],[])
 lg:Γ.lg id J
 q:J.qual=f ++ ".<locals>."++J.own
 p:J.params=params
 b:J.body=body
 s:J.scope=scope
 len:J.fr.length=caps.length
 at_:∀(i j:Nat) (x:Str),caps[i]?=aT j->J.fr[i]?=aT x->N[j]?=aT x
 fr:∀ x∈J.fr,scope.names.lookup x=aT .free
 tab:(P,J.qual)∈Γ.T
def cb8 (Γ:Gm)(cds:yF)(f:Str)(sc:Scope)(N:yH)(fd:bH)(lk:String->List Nat->Expr->Bool):Prop :=
 ∀ id caps E,lk id caps E=cn->∃ c P params body scope pos J,E=lamText J params body scope pos/\LkAt Γ cds f sc N fd id caps params body scope c P J
def ch2 (Γ:Gm)(cds:yF)(mg:yC)(f:String)(pc vc:Nat)(m:Ck->List Stmt->Bool):Prop:=∃ st N ps a fd lk,DefAt Γ.K mg (f) st ps a fd/\FnScope N ps (defScope st)/\ps.length=pc/\N.length=pc+vc/\m ⟨N,defScope st,lk⟩ (qv st)=cn/\cb8 Γ cds (f) (defScope st) N fd lk
def Good (Γ:Gm)(cds:yF)(mg:yC)(f:String)(d:n9):Prop:=ch2 Γ cds mg f d.ps d.vs λ ck S=>mSs ck d.body S
structure PrOk (Γ:Gm)(cds:yF)(P:m7)(mg:yC)(w:World):Prop where
 df:∀ f d,P.df f=aT d->Good Γ cds mg f d
 con:∀ x d,P.con x=aT d->∃ v u,mg (x:Str)=aT u/\RelV v u/\(∀ m,d.bnd m=cn)/\∀ C H,RV Γ C H d v
 bi:∀ x∈bNames,mg x=bY
 fa:∀(f:String) (a:Addr),Γ.fa f=aT a->mg (f:Str)=aT (.ref a)/\∃ oc od fd sl,Γ.K.lookup a=aT ⟨oc,od,.func fd,sl⟩
 lg:∀ id J,Γ.lg id J->∃ L,P.lm id=aT L/\LamGood J L
 nd:(Γ.T.map (·.1)).Nodup
 cdc:∀(c:String) kvs,P.cdc c=aT kvs->∃ a,mg (c:Str)=aT (.ref a)/\∀(prog:aK) (h:Heap),Γ.K.In h->StrTab prog w h a (strD kvs)
def aU5 (Γ:Gm)(prog:aK)(w:World)(mg:yC)(base:Heap)(F:ng)(n:Nat):Prop:=(∀ f:String,(∀ l s,F.call f l s=.B) \/
  ∃ a fd ps,FnOk prog w Γ.K mg base CX0 n a fd ps (spV Γ (F.call f))/\mg (f:Str)=aT (.ref a)/\cM Γ.K (.ref a)=cn/\Binds Γ.K fd ps []) /\
 ∀(id:String) (J:LamI) (f:Addr) (cap:List V) (clos:yB),Γ.lg id J->cap.length=J.fr.length->ClOk prog w Γ.K mg base n (λ H=>CloAt H f J cap clos) f (spL Γ (F.lam id) cap)
def bw4 (r:RVL Γ C H l vs)(b:mN n l=cn)(hN:N.length=l.length+k):RE Γ C H n (l.map aT++ak k bY) (ao0 N vs):=by
 have hl:=r.length;refine⟨?_,λ i d e=>?_⟩
 .unfold ao0;simp_all
 .by_cases hi:i<l.length
  .rw[ax (by simp_all),ao]at e;have e':l[i]?=aT d:=by
    rw[ac hi]at e ⊢;exact aq e
   obtain⟨v,e1,e2⟩:=r.get e';refine⟨ar2 b e',v,?_,e2⟩;unfold ao0;rw[ax (by rw[ar,hl];exact hi),ao,e1];rfl
  .rw[ag (by simpa using k6 hi)]at e;rw[gz]at e;split at e<;>cases e
def bE9 (Z:PrOk Γ G P mg w) n :∀ c  y,(mW P n).cdc c=aT y->∃ a,mg (c)=aT (.ref a)/\∀ h:Heap,Γ.K.In h->StrTab prog w h a (strD y):=by
 have:(mW P n).cdc=P.cdc:=by cases n<;>rfl
 rw[this];intro c y e;obtain⟨a,J,Y⟩:=Z.cdc c y e;exact⟨a,J,Y prog⟩
def cl1 (hP:PrOk Γ a0 P mg w)(hb:∀ y∈a0,bV base y.1 y.2/\BM mg base) n (G:aU5 Γ prog w mg base (mW P n) (n+31))
  {f:String} {st:Stmt} {fd:bH} {lk:String->List Nat->Expr->Bool} (hS:FnScope N ps (defScope st)) (hL:cb8 Γ a0 (f:Str) (defScope st) N fd lk) (Y:Value) (a6:∀ id h E,lk id h E=cn->fd.code=Y) (A:aW) (Z:List Env) (sh:ah) (H:Hp) (E:XK) (hr:Room (n+31) (A.deeper (fM (f:Str) (defScope st) sh.heap.objs.size a Y))) :
  CG Γ (mW P n) (n+31) (bw1 CX0 prog w Γ.K mg base N (f:Str) (defScope st) a Y A Z sh H E).nox ⟨N,defScope st,lk⟩:=by
 refine⟨rfl,rfl,hS.nd,rfl,rfl,?_,hr,λ x k e=>.inl e,λ _ _=>rfl,hP.bi,G.1,?_,λ id h E' hlk=>?_,G.2,hP.fa,bE9 hP n⟩
 .show mZ+1<=n+31;unfold mZ;lia
 .have:(mW P n).con=P.con:=by cases n<;>rfl
  rw[this];exact hP.con
 .refine wl λ _ kk=>?_;obtain⟨c,Pa,params,body,scope,pos,J,eE,L⟩:=hL id h E' hlk;obtain⟨a3,a5⟩:=hb _ L.cd;obtain⟨L',_,lg⟩:=hP.lg id J L.lg;refine kk ⟨c,Pa,params,body,scope,pos,J,eE,⟨?_,a3,a5,L.ck,L.df _,L.lg,L.q,L.p,L.b,L.s,L.len,L.at_,L.fr,λ x hx=>?_,L.tab,hP.nd,λ _=>rfl,λ x c hx=>?_,lg.sc,lg.pa,λ a1 pm c' a4 us a2=>(lg.bind a1 .none pm c' a4 us a2).1⟩⟩
  .show Y=.ref c;rw[<-a6 id h E' hlk];exact L.code
  .exact qM (L.fre x hx)
  .rcases qc (aE hx)with z|z
   .exact .inl (L.cel (x,.cell) z rfl)
   simp_all
set_option tactic.hygienic true in
def bY3 {a3:yF}{P:m7}{prog:aK}{w:World}{mg:yC}{base:Heap}(hP:PrOk Γ a3 P mg w)(hb:∀ y∈a3,bV base y.1 y.2/\BM mg base)(n:Nat)(a2:aU5 Γ prog w mg base (mW P n) (n+31))
  {f:String} {d:n9} (e:P.df f=aT d) {st:Stmt} {N ps:yH} {a:Addr} {fd:bH} {lk:String->List Nat->Expr->Bool} (hD:DefAt Γ.K mg (f:Str) st ps a fd) (hS:FnScope N ps (defScope st)) (h1:ps.length=d.ps) (h2:N.length=d.ps+d.vs) (hm:mSs ⟨N,defScope st,lk⟩ d.body (qv st)=cn) (hL:cb8 Γ a3 (f:Str) (defScope st) N fd lk) :
  FnOk prog w Γ.K mg base CX0 (n+1+31) a fd ps (spV Γ ((mW P (n+1)).call f)):=by
 have a1:∀ vs H Q E,spV Γ ((mW P (n+1)).call f) vs H Q E->vs.length=ps.length:=λ vs H Q E q=>by
  obtain⟨C,s,l,d',s',R,r,b,hc,k⟩:=q;simp only[mW,e]at hc;split at hc
  .rw[r.length,h1];assumption
  .exact fb hc
 have body:∀(Z:Value),(∀ id Y E,lk id Y E=cn->fd.code=Z)->∀(A:aW) (a0:List Env) (sh:ah) (H:Hp) (vs:List V) (Q:VK) (E:XK),Room (n+31) (A.deeper (fM (f:Str) (defScope st) sh.heap.objs.size a Z))->spV Γ ((mW P (n+1)).call f) vs H Q E ->
   ∃ t,PSs (bw1 CX0 prog w Γ.K mg base N (f:Str) (defScope st) a Z A a0 sh H E).nox (qv st) t/\t { nx:=λ _ H'=>Q .N H',rt:=Q } (ao0 N vs) H:=by
  intro Z a5 A a0 sh H vs Q E hr q;have G:=cl1 hP hb n a2 hS hL (a:=a) Z a5 A a0 sh H E hr;refine⟨_,sSs d.body (qv st) _ ⟨N,defScope st,lk⟩ G hm,?_⟩;refine wl λ _ kk=>?_;obtain⟨C,s,l,d',s',R,r,b,hc,k⟩:=q;simp only[mW,e]at hc;refine kk ?_;split at hc
  case isFalse=>exact fb hc
  rename_i a1;obtain⟨c,s1,e1,hc⟩:=aa1 hc;refine⟨C,l.map aT++ak d.vs bY,s,c,s1,bw4 r b (by rw[h2,a1]),R,e1,λ C1 H1 g1 l1 R1=>?_⟩;cases c with
  | ret v0 =>
   intro v hb rv;obtain⟨C',g',l',b',r',R'⟩:=aE8 R g1 R1 hb rv hc;exact k v C' H1 g' l' b' r' R'
  | next U =>
   intro W' _;obtain⟨C',g',l',b',r',R'⟩:=aE8 (v0:=.N) R g1 R1 rfl RV.nonI hc;exact k .N C' H1 g' l' b' r' R'
  | cont U=>exact fb hc
  | brk U=>exact fb hc
 by_cases hl:∃ id Y E,lk id Y E=cn
 .refine wl λ _ kk=>?_;obtain⟨id,Y,E,hlk⟩:=hl;obtain⟨c,Pa,params,a4,scope,pos,J,eE,L⟩:=hL id Y E hlk;exact kk $ hD.fn.okC L.code hS a1 (body _ λ _ _ _ _=>L.code)
 .exact hD.fn.ok hS a1 (λ Z=>body Z λ id Y E h=>iF ⟨id,Y,E,h⟩ hl)
set_option tactic.hygienic true in
def bR0 (hP:PrOk Γ c2 P mg w) n (a2:aU5 Γ prog w mg base (mW P n) (n+31))
   id   J   f   cap   Z  (c0:Γ.lg id J) (a3:cap.length=J.fr.length) :
  ClOk prog w Γ.K mg base (n+1+31) (λ H=>CloAt H f J cap Z) f (spL Γ ((mW P (n+1)).lam id) cap):=by
 obtain⟨L,eL,LG⟩:=hP.lg id J c0;have a4:∀ vs H Q E,spL Γ ((mW P (n+1)).lam id) cap vs H Q E->vs.length=J.ps.length:=λ vs H Q E q=>by
  obtain⟨C,s,cs,l,d,s',R,r,rc,b,bc,hc,k⟩:=q;simp only[mW,eL]at hc;split at hc
  .rename_i hh;rw[r.length,LG.ps];exact hh.1
  .exact fb hc
 have main:∀(A:aW) (a0:List Env) (sh:ah) (H:Hp) (cd:Value) (vs:List V) (Q:VK),Room (n+31) (A.deeper (dA J.qual J.scope sh.heap.objs.size f cd (aP (sh.heap.objs.size+1) J.scope.names Z)))->Cells Z H->(∀ b o,Γ.K.lookup b=aT o->H b=bY)->spL Γ ((mW P (n+1)).lam id) cap vs H Q E0 ->
   ∃ t,PE (aS3 prog w Γ.K mg base (J.ps++J.fr) J.qual J.scope f cd Z A a0 sh H) J.body t/\t (vs.map aT++cap.map aT) (ah0 Z H) λ v H'=>(∀ b,isC Z b=cn->H' b=bY)->Q v (Put Z H H'):=by
  intro A a0 sh H cd vs Q hr Y hK q;have G:CG Γ (mW P n) (n+31) (aS3 prog w Γ.K mg base (J.ps++J.fr) J.qual J.scope f cd Z A a0 sh H) (ck0 (J.ps++J.fr) J.scope):=by
   refine⟨rfl,rfl,LG.sc.nd,rfl,rfl,?_,hr,λ x k e=>.inl e,λ x e=>?_,hP.bi,a2.1,?_,λ _ _ _ h=>(by cases h),a2.2,hP.fa,bE9 hP n⟩
   .skip
    unfold mZ;lia
   .show(J.scope.names.lookup x==aT .cell)=cn;rw[e];rfl
   .have:(mW P n).con=P.con:=by cases n<;>rfl
    rw[this];exact hP.con
  refine⟨_,(sE L.body J.body _ (ck0 (J.ps++J.fr) J.scope) G LG.m).1,?_⟩;refine wl λ _ kk=>?_;obtain⟨C,s,cs,l,d,s',R,r,rc,b,bc,hc,k⟩:=q;simp only[mW,eL]at hc;refine kk ?_;split at hc
  case isFalse=>exact fb hc
  rename_i hh;obtain⟨h1,h2,h3⟩:=hh;rw[aw,aw]at h3;obtain⟨⟨c1,b5⟩,b6⟩:=h3;obtain⟨v0,s1,e1,hc⟩:=aa1 hc;have RD:=R.dropC Y b6;have b4:=(RVL.dropC Y l vs c1 r).append (RVL.dropC Y cs cap b5 rc);refine⟨C,l.map aT++cs.map aT,s,v0,s1,⟨by simp[r.length,rc.length],λ i x ei=>?_⟩,RD,e1,λ v C1 H1 g1 l1 b1 r1 R1 a5=>?_⟩
  .rw[<-bO,ao]at ei;have b3:(l++cs)[i]?=aT x:=by
    simp_all
   obtain⟨u,e3,e4⟩:=b4.get b3;refine⟨ar2 (qI b bc) b3,u,?_,e4⟩;rw[<-bO,ao,e3];rfl
  .obtain⟨C',g',l',b',r',R'⟩:=aE8 RD g1 R1 b1 r1 hc;have gp:=Gr.put Y a5 hK R' g';obtain⟨gs,Rs⟩:=R'.same (bn2 (H:=H) a5);exact k v C' _ gp l' b' (RV.mono gs d v b' r') Rs
 unfold CloAt;cases q:J.nm with
 | none=>exact bL8 LG.sc a4 a3 (λ pm c' a1 us b0=>(LG.bind Z .none pm c' a1 us b0).1) (λ A a0 sh H cd vs Q hr a6 hK q=>by
   refine wl λ _ kk=>?_;obtain⟨pm,c',a1,_,_,Y,_⟩:=a6;exact kk $ main A a0 sh H cd vs Q hr Y hK q)
 | some p=>exact bW2 LG.sc a4 a3 (λ b2 pm c' a1 us b0=>(LG.bind Z b2 pm c' a1 us b0).2 _ _) (λ A a0 sh H cd vs Q hr a6 hK q=>by
   refine wl λ _ kk=>?_;obtain⟨b2,pm,c',a1,_,_,Y,_⟩:=a6;obtain⟨t,h1,h2⟩:=main A a0 sh H cd vs Q hr Y hK q;exact kk ⟨_,as0 (bi9 h1) aP7,h2⟩)
theorem aU9 (Y:PrOk Γ G P mg w)(hb:∀ y∈G,bV base y.1 y.2/\BM mg base)(ht:∀ f,P.tf f=bY):∀ n:Nat,aU5 Γ prog w mg base (mW P n) (n+31)
 | 0=>⟨λ f=>.inl λ l s=>rfl,λ id J f cap h _ _=>⟨λ A a0 s H us vs Q _ _ _ _ q=>by
   refine wl λ _ kk=>?_;obtain⟨C,s,cs,l,d,s',R,r,rc,b,bc,hc,k⟩:=q;refine kk ?_;cases hc⟩⟩
 | n+1=>by
  have ih:=aU9 (prog:=prog) Y hb ht n;refine⟨λ f=>?_,λ id J f cap h Z h2=>bR0 Y n ih id J f cap h Z h2⟩;cases e:P.df f with
  | none=>exact .inl λ l s=>by simp only[mW,e]
  | some d =>
   refine wl λ _ kk=>?_;obtain⟨st,N,ps,a,fd,lk,hD,hS,Z,h2,hm,hL⟩:=Y.df f d e;exact kk $ .inr ⟨a,fd,ps,bY3 Y hb n ih e hD hS Z h2 hm hL,hD.mg,hD.fn.kp,hD.bi⟩
def spT (Γ:Gm):Sp:=λ vs H Q _=>∃(a:Addr) (ns:List Int),vs=[.ref a]/\SqF Γ.K H a (ns.map V.int)/\ns.length<=63/\TabsH Γ.T H/\∀ H',Q (.T cn) H'
theorem aS6 :∀ ns:List Int,RVL Γ C H (ns.map DV.D.int) (ns.map V.int)
 | []=>.nil
 | n::ns=>.cons RV.intI (aS6 ns)
theorem aJ1 :∀ ns:List Int,mN m (ns.map DV.D.int)=cn
 | []=>rfl
 | n::ns=>by rw[aJ];unfold mN;rw[aJ1 ns];rfl
def cj6 (h:∀ ns:List Int,ns.length<=63->∃ s',(mW P k).call "law" [.ref 0] [.ro (ns.map DV.D.int)]=.ok (.T cn) s') vs  H  Q  E (q:spT Γ vs H Q E):spV Γ ((mW P k).call "law") vs H Q E:=by
 obtain⟨a,ns,rfl,y,hl,hT,G⟩:=q;obtain⟨s',hs⟩:=h ns hl;refine⟨λ _=>a,[.ro (ns.map DV.D.int)],[.ref 0],.T cn,s',⟨λ i j o J e e' m m' _=>?_,λ i o e=>?_,λ i o e=>?_,hT⟩,.cons RV.refI .nil,?_,hs,λ v C' H' g l b r R=>?_⟩
 .cases i with
  | zero=>cases e;cases m
  | succ i=>cases e
 .cases i with
  | zero=>cases e;exact⟨_,y,aS6 ns⟩
  | succ i=>cases e
 .cases i with
  | zero=>cases e;unfold mT;exact aJ1 ns
  | succ i=>cases e
 .unfold mN mR mN;rfl
 .rw[r.blE];exact G H'
theorem aW0 :∀ {tbl:List (String×n9)},(∀ p∈tbl,Good Γ y mg p.1 p.2)->∀ f d,tbl.lookup f=aT d->Good Γ y mg f d
 | [],_,f,d,h=>by cases h
 | (g,e)::tbl,H,f,d,h=>by
  rw[aZ]at h;cases q:f==g with
  | true =>
   simp_all
  | false =>
   rw[q]at h;exact aW0 (λ p G=>H p (aB _ G)) f d h
def br9 (Γ:Gm)(mg:yC)(x:String)(d:mM):Prop:=∃ v u,mg (x)=aT u/\RelV v u/\(∀ m,d.bnd m=cn)/\∀ C H,RV Γ C H d v
theorem bn7 :∀ {tbl:List (String×mM)},(∀ p∈tbl,br9 Γ mg p.1 p.2)->∀ f d,tbl.lookup f=aT d->br9 Γ mg f d
 | [],_,f,d,h=>by cases h
 | (g,e)::tbl,H,f,d,h=>by
  rw[aZ]at h;cases q:f==g with
  | true =>
   simp_all
  | false =>
   rw[q]at h;exact bn7 (λ p y=>H p (aB _ y)) f d h
def jQ (h:mg (x:Str)=aT (.int i t)):br9 Γ mg x (.int i):=⟨.int i,_,h,⟨t,rfl⟩,λ _=>rfl,λ _ _=>RV.intI⟩
inductive ConV (Γ:Gm):mM->Value->Prop where
 | int (i:Int) (t:Tok):ConV Γ (.int i) (.int i t)
 | str (x:List Nat) (t:Tok) (h:x.length<=1000):ConV Γ (.str x) (.str ⟨x.toArray⟩ t)
inductive ConL (Γ:Gm):List mM->List Value->Prop where
 | nil:ConL Γ [] []
 | cons {d v l vs} (a:ConV Γ d v) (b:ConL Γ l vs):ConL Γ (d::l) (v::vs)
def bN3 {its:yG}(h:mg (x:Str)=aT (.ref a))(hk:Γ.K.lookup a=aT o)(hc:o.cls=.type "tuple")(hd:o.data=.seq its.toArray n)(hz:its.length<=1000)
  (hl:ConL Γ l its) (Y:autoParam (ny l=dt) Zq4._auto_1):br9 Γ mg x (.tp l):=by
 have key:∃ y,Vals y its/\(∀ m,mN m l=cn)/\∀ C H,RVL Γ C H l y:=by
  clear hd hz Y
  induction hl with
  | nil=>exact⟨[],.nil,λ _=>rfl,λ _ _=>.nil⟩
  | cons a b ih =>
   obtain⟨y,G,J,h3⟩:=ih;cases a with
   | int i t=>exact⟨.int i::y,.cons ⟨t,rfl⟩ G,λ m=>by unfold mN;rw[J];rfl,λ C H=>.cons RV.intI (h3 C H)⟩
   | str x t h=>exact⟨.str ⟨x.toArray⟩::y,.cons ⟨t,rfl⟩ G,λ m=>by unfold mN;rw[J];rfl,λ C H=>.cons (RV.strI (by unfold mU;omega)) (h3 C H)⟩
 obtain⟨y,G,J,h3⟩:=key;refine⟨.ref a,_,h,rfl,λ m=>by unfold mR;exact J m,λ C H=>RV.tupC (.inr ⟨o,its.toArray,n,hk,hc,hd,?_,G⟩) (λ z=>by lia) (h3 C H)⟩;rw[aA];exact aU3 hz
end
def aY6 {K:af}{mg mb:yC}{vs:yG}{tabs:yF}
  (KX:K.In G.heap) (c1:G.heap.Ns aV mg) (hb:G.heap.Ns eA mb) (e4:∀ x:Str,x ≠ "__name__"->mb x=bf x) (a5:G.heap.NoLimit) (hg:G.gens=#[]) (d3:BM mg G.heap) (hT:lL tabs G.heap) (c4:lM K=cn)
  (ha:G.heap.get? a=aT { cls:=.type "list",data:=.seq vs.toArray }) (hi:lv vs ns) (hl:ns.length<=aR) (hr:Room k iR)
  (F:∀ base:Heap,K.In base->base.Ns aV mg->BM mg base->(∀ q∈tabs,bV base q.1 q.2)->FnOk P w K mg base CX0 k fa fd [x] sp) (a2:∀(s:ah) (u:Value),ls s fd ⟨[u],[]⟩ [(x,u)])
  (d1:∀ H:Hp,(∀ q∈tabs,H q.2=aT (.tbl #[]))->SqL K H a (ns.map V.int)->(∀ u,H a=aT u->(∃ o xs,u=.frz o (.J xs))\/∃ ps,u=.tbl ps)->sp [.ref a] H (λ v _=>v=.T cn) E0) :
  f7 (model P w) iR (.call (.ref fa) ⟨[.ref a],[]⟩) (λ r s'=>r=.ok (.ret (.bool cn))/\OldK G.heap s'.heap/\s'.os=G.os/\fZ s'.gens) G:=by
 have rv:=aH5 hi;have b0:=hi.length;have J:∀ b,b∈tabs.map (·.2)->G.heap.get? b=aT (eT #[]):=λ b h=>by
  obtain⟨q,hq,rfl⟩:=au.mp h;exact(hT q hq).2
 have a1:∀ H:Hp,(∀ b u,H b=aT u->(b=a/\∃ o xs,u=.frz o (.J xs))\/(b∈tabs.map (·.2)/\u=.tbl #[]))->(∀ q∈tabs,H q.2=aT (.tbl #[]))->SqL K H a (ns.map V.int)->HOk P w H G.heap->(H a≠bY->K.lookup a=bY) ->
   f7 (model P w) iR (.call (.ref fa) ⟨[.ref a],[]⟩) (λ r s'=>r=.ok (.ret (.bool cn))/\OldK G.heap s'.heap/\s'.os=G.os/\fZ s'.gens) G:=by
  intro H hO c2 hS hok hK;have un:∀ b o,G.heap.get? b=aT o->o.cls≠.type "list"->(∀ vs,o.data≠.fields vs)->H b=none:=λ b o e n1 n2=>by
   cases q:H b with
   | none=>rfl
   | some u =>
    rcases hO b u q with⟨z,_⟩|⟨z,_⟩
    .rw[z,ha]at e;cases e;exact iF rfl n1
    .rw[J b z]at e;cases e;exact iF rfl (n2 #[])
  have Z:∀ {b:Addr} {m:yC},G.heap.Ns b m->(bv0 G.heap H).Ns b m:=λ {b m} ⟨o,es,ep,e,d,r⟩=>by
   refine⟨o,es,ep,as3 e ?_,d,r⟩;cases q:H b with
   | none=>rfl
   | some u =>
    rcases hO b u q with⟨z,_⟩|⟨z,_⟩
    .rw[z,ha]at e;cases e;cases d
    .rw[J b z]at e;cases e;cases d
  have c0:K.In (bv0 G.heap H):=λ b o e=>as3 (KX b o e) (by
   cases q:H b with
   | none=>rfl
   | some u =>
    rcases hO b u q with⟨z,_⟩|⟨z,_⟩
    .lia
    .have e2:=KX b o e;rw[J b z]at e2;have h2:=aU.mp c4 (b,o) (PySem.W.mem_of_lookupK e);have e3:o=eT #[]:=(aq e2).symm;subst e3;exact iF (show dt=cn from h2) aS)
  have hM:Mod K mg (bv0 G.heap H):=⟨c0,Z c1,⟨mb,Z hb,e4⟩,let⟨mc,h1,h2⟩:=a5;⟨mc,Z h1,h2⟩⟩
  have e5:BM mg (bv0 G.heap H):=by
   obtain⟨bm,ob,b1,b2,b3,b4,b5,b6⟩:=d3;exact⟨bm,ob,b1,b2,as3 b3 (un bm ob b3 (by lia) (by simp_all)),b4,b5,b6⟩
  have d0:∀ q∈tabs,bV (bv0 G.heap H) q.1 q.2:=λ q hq=>by
   obtain⟨o,d2,a6,tf,a4,tg,c3,text,tt,e1,r1,r2⟩:=(hT q hq).1;refine⟨o,d2,a6,tf,a4,tg,c3,text,tt,as3 e1 ?_,r1,r2⟩;cases q2:H q.1 with
   | none=>rfl
   | some u =>
    rcases hO _ u q2 with⟨z,_⟩|⟨z,_⟩
    .rw[z,ha]at e1;cases e1;exact iF r1 (by simp)
    .rw[J _ z]at e1;cases e1;exact iF r1 (by simp)
  have e0:Env0 P w K mg (bv0 G.heap H) iR [] G H:=⟨rfl,hM,λ b o e=>bQ1 e,Nat.le_of_eq (bo1 _ _),trivial,λ b hb=>iF (show b∈([]:List Addr)from hb) (by simp),hok,.of_eq hg⟩
  refine fy ((F _ c0 (Z c1) e5 d0).run iR [] G H ⟨[.ref a],[]⟩ [.ref a] [.ref a] _ _ hr e0 (a2 G (.ref a)) (.cons rfl .nil) (d1 H c2 hS (λ u e=>(hO a u e).elim (λ z=>.inl z.2) (λ z=>.inr ⟨_,z.2⟩)))) λ r s' h=>?_;cases r with
  | error e=>exact bG h
  | ok fl =>
   cases fl with
   | next=>exact bG h
   | brk=>exact bG h
   | cont=>exact bG h
   | ret u =>
    obtain⟨v,H',os,bare,a3,a0,r',q⟩:=h;have q':v=.T true:=q;subst q';obtain rfl:u=Value.bool true:=r';have key:∀ b o,G.heap.get? b=aT o->asItWas G.heap s'.heap b o/\∃ o',s'.heap.get? b=aT o':=λ b o e=>by
     cases q:H b with
     | none =>
      have z:=a3.keep b o e q (by intro z;exact iF (show b∈([]:List Addr)from z) (by simp)) (by simp);exact⟨.inl z,o,z⟩
     | some u =>
      rcases hO b u q with⟨_,ob,xs,z⟩|⟨z,z2⟩
      .subst z;have z2:=a3.frzs b ob _ q;obtain⟨e1,_⟩:=hok b _ q;obtain⟨e2,_⟩:=a0 b _ z2;rw[e]at e1;cases e1;exact⟨.inl e2,_,e2⟩
      .subst z2;obtain⟨more,z3⟩:=a3.tbls b _ q;have g:s'.heap.get? b=aT { cls:=.none,data:=.fields (#[]++more) }:=a0 b _ z3;have e1:=J b z;rw[e]at e1;cases e1;obtain⟨p,hp,ep⟩:=au.mp z;refine⟨.inr (.inl ⟨?_,rfl,#[],more,rfl,g⟩),_,g⟩;have t:=((hT p hp).1.tab (hT p hp).2).isCodeTable
       simp_all
    exact⟨rfl,⟨λ b o e=>(key b o e).1,λ b o e=>(key b o e).2⟩,os,bare⟩
 have tbl:∀ b,b∈tabs.map (·.2)->b≠a:=λ b h z=>by
  grind
 cases hk:K.lookup a with
 | some o =>
  have e:=KX a o hk;rw[ha]at e;cases e;refine a1 (λ b=>if b∈tabs.map (·.2)then aT (.tbl #[])else bY) (λ b u z=>?_) (λ q hq=>gc (bo hq)) (.inr ⟨_,vs.toArray,_,hk,rfl,rfl,rfl,by simp_all,by simp_all⟩) (λ b u z=>?_) λ z=>?_
  .by_cases hb:b∈tabs.map (·.2)
   .have Y:=(gc hb).symm.trans z;cases Y;exact .inr ⟨hb,rfl⟩
   .have Y:=(gn hb).symm.trans z;cases Y
  .by_cases hb:b∈tabs.map (·.2)
   .have Y:=(gc hb).symm.trans z;cases Y;exact J b hb
   simp_all
  .exact iF (gn λ y=>tbl a y rfl) z
 | none =>
  refine a1 (λ b=>if b=a then aT (.frz { cls:=.type "list",data:=.seq vs.toArray } (.J (ns.map V.int)))else if b∈tabs.map (·.2)then aT (.tbl #[])else bY) (λ b u z=>?_) (λ q hq=>?_) (.inl (.inr ⟨{ cls:=.type "list",data:=.seq vs.toArray },gc rfl⟩)) (λ b u z=>?_) λ _=>hk
  .by_cases hb:b=a
   .have Y:=(gc hb).symm.trans z;cases Y;exact .inl ⟨hb,_,_,rfl⟩
   .have Y:=(gn hb).symm.trans z;by_cases hc:b∈tabs.map (·.2)
    .rw[gc hc]at Y;cases Y;exact .inr ⟨hc,rfl⟩
    .rw[gn hc]at Y;cases Y
  .have hm:q.2∈tabs.map (·.2):=bo hq;show(if _ then _ else if _ then _ else _)=_;rw[gn (tbl _ hm),gc hm]
  .by_cases hb:b=a
   .have Y:=(gc hb).symm.trans z;cases Y;subst hb;exact⟨ha,by simp_all,vs,_,rv,ha⟩
   .have Y:=(gn hb).symm.trans z;by_cases hc:b∈tabs.map (·.2)
    .rw[gc hc]at Y;cases Y;exact J b hc
    .rw[gn hc]at Y;cases Y
def bj8 {l:dD}{loose:yH}{K:Params->af}{sp:af->Sp} names 
  (hn:l.most=aT n) (a3:n<=aR) (a2:d.params.defaults=[]) (hr:Room k iR)
  (hY:∀(w:World) (h:Heap),YP w h->(K w.params).In h/\∀ P∈ts,h.get? P=aT (eT #[])) (a1:∀ w:World,cn6 (K w.params) names ts=cn) (a4:∀ w:World,lM (K w.params)=cn)
  (F:∀(w:World) (mg:yC) (fa:Addr) (h:Heap),(K w.params).In h->h.Ns aV mg->mg d.name=aT (.ref fa) ->
   ∃ fd:bH,(∀(s:ah) (u:Value),ls s fd ⟨[u],[]⟩ [(x,u)]) /\
    ∀ base:Heap,(K w.params).In base->base.Ns aV mg->BM mg base->bW9 (K w.params) names base->FnOk l.prog w (K w.params) mg base CX0 k fa fd [x] (sp (K w.params)))
  (b0:∀(K:af) (H:Hp) (a:Addr) (ns:List Int),ns.length<=n->bO8 K names H->SqL K H a (ns.map V.int)->(∀ u,H a=aT u->(∃ o xs,u=.frz o (.J xs))\/∃ ps,u=.tbl ps)->sp K [.ref a] H (λ v _=>v=.T cn) E0) :
  lR q loose XP YP l.row.toRowW d [] (λ f vs=>lw f vs):=by
 refine Att.attach_call hn a2 λ w s₀ s₁ mg mb fa o pm cd b1 a vs ns G Y ho hd b2 a5 a0 Z J hg=>?_;obtain⟨KX,a6⟩:=hY w _ Y;obtain⟨fd,hb,hF⟩:=F w mg fa _ KX G.T.g a5;have hT:lL ((aL9 (K w.params) names).map (·.2)) s₁.heap:=λ p hp=>by
  obtain⟨y,hy,rfl⟩:=au.mp hp;obtain⟨h1,h2⟩:=aA0.mp hy;have z:=aU.mp (a1 w) y.1 h1;rw[h2]at z;have z':(k8 (K w.params) y.2.1 y.2.2&&ts.contains y.2.2)=true:=z;rw[aw]at z';exact⟨PySem.W.codeHd_of_K KX z'.1,a6 _ (by simpa using z'.2)⟩
 have hm:∀ x∈names,∀ c P,a8 (K w.params) x=aT (c,P)->(c,P)∈(aL9 (K w.params) names).map (·.2):=λ x hx c P e=>au.mpr ⟨(x,c,P),aA0.mpr ⟨hx,e⟩,rfl⟩;refine aY6 (tabs:=(aL9 (K w.params) names).map (·.2)) KX G.T.g G.T.b G.T.builtins G.T.nolimit hg ?_ hT (a4 w) a0 Z (am J a3) hr (λ base k1 k2 k3 k4=>hF base k1 k2 k3 λ x hx c P e=>k4 _ (hm x hx c P e)) hb λ H hO hS hF=>b0 (K w.params) H a ns J (λ x hx c P e=>hO _ (hm x hx c P e)) hS hF;obtain⟨bm,ob,h1,h2,h3,h4,h5,h6⟩:=G.T.bmain;exact⟨bm,ob,h1,h2,h3,h4,h5,h6⟩
def spB (names:yH)(K:af):Sp:=λ vs H Q _=>∃(a:Addr) (ns:List Int),vs=[.ref a]/\SqF K H a (ns.map V.int)/\ns.length<=63/\bO8 K names H/\∀ H',Q (.T cn) H'
def ch0 {K}{ns:List Int}(hl:ns.length<=63)(Y:bO8 K names H)(y:SqL K H a (ns.map V.int))(J:∀ u,H a=aT u->(∃ o G,u=.frz o (.J G))\/∃ ps,u=.tbl ps):spB names K [.ref a] H (λ v _=>v=.T cn) E0:=by
 refine⟨a,ns,rfl,⟨y,λ H' k=>?_⟩,hl,Y,λ _=>rfl⟩;rcases y with(h|⟨o,h⟩)|h
 .simp_all
 .exact .inl (.inr ⟨o,k _ _ h rfl⟩)
 .exact .inr h
def cB9 (P:m7):String->LamI->Prop:=λ id J=>∃ L,P.lm id=aT L/\LamGood J L
noncomputable def sfx (x:Str):Str:=if x = "letter_table" then "least_fee" else "<lambda>"
def bK0 (names:yH)(K:af):List (Addr×Str):=names.map λ x=>(((a8 K x).getD (0,0)).2,x ++ ".<locals>."++sfx x)
noncomputable def bP7 (names:yH)(K:af):List (Addr×Addr):=names.map λ x=>(a8 K x).getD (0,0)
noncomputable def cm9 (K:af)(f:String):Option Addr:=match bR K aV (f)with
 | some (aT (.ref a))=>(match K.lookup a with
  | some ⟨_,_,.func _,_⟩=>aT a
  | _=>bY)
 | _=>bY
def bO5 {K}{f:String}{od:yI}{sl:yE}(y:bR K aV (f:Str)=aT (aT (.ref a)))(G:K.lookup a=aT ⟨oc,od,.func h,sl⟩):cm9 K f=aT a:=by
 unfold cm9;rw[y];simp only;rw[G]
set_option tactic.hygienic true in
def aX9 {K}(h:cm9 K f=aT a):bR K aV (f)=aT (aT (.ref a))/\∃ oc od y sl,K.lookup a=aT ⟨oc,od,.func y,sl⟩:=by
 unfold cm9 at h;split at h
 .rename_i G e;split at h
  .rename_i oc od y sl e2;cases h;exact⟨e,_,_,_,_,e2⟩
  .cases h
 .cases h
abbrev bt9 (names:yH)(P:m7)(K:af):Gm:=⟨K,cm9 K,cB9 P,bK0 names K⟩
def cr3 {K}{mg:yC}(X:K.In h)(G:h.Ns aV mg):∀ f   a ,(bt9 names P K).fa f=aT a->mg (f)=aT (.ref a)/\∃ oc od y sl,(bt9 names P K).K.lookup a=aT ⟨oc,od,.func y,sl⟩:=λ f a e=>⟨bK X G (aX9 e).1,(aX9 e).2⟩
def aK9 {K}{mg}{f:String}{od:yI}{sl:yE}(X:K.In h)(G:h.Ns aV mg)(y:bR K aV (f:Str)=aT (aT (.ref a)))(Y:K.lookup a=aT ⟨oc,od,.func J,sl⟩):br9 (bt9 names P K) mg f (.fn f) :=
 ⟨.ref a,.ref a,bK X G y,rfl,λ _=>rfl,λ C H=>by unfold RV;exact⟨a,bO5 y Y,rfl⟩⟩
def by6 {K}(ht:∀ x∈names,(a8 K x).isSome=cn)(q:spB names K vs H Q E):spT (bt9 names P K) vs H Q E:=by
 obtain⟨a,ns,e,y,hl,J,G⟩:=q;refine⟨a,ns,e,y,hl,TabsH.init λ p h=>?_,G⟩;simp only[bK0,dC]at h;obtain⟨x,hx,rfl⟩:=au.mp h;exact J x hx _ _ (aD7 (ht x hx))
def bH1 {K}(ht:∀ x∈names,(a8 K x).isSome=cn)(bm:BM mg base)(hc:bW9 K names base):∀ y∈bP7 names K,bV base y.1 y.2/\BM mg base:=λ y hy=>by
 obtain⟨x,hx,rfl⟩:=au.mp hy;exact⟨hc x hx _ _ (aD7 (ht x hx)),bm⟩
def jc {ps:yH}(h:lamArgs p=aT ps):∃ args,p=⟨[],args,bY,[],[],bY,[]⟩/\args.map (·.arg)=ps:=by
 unfold lamArgs at h;split at h
 .exact⟨_,rfl,aq h⟩
 .cases h
def aI4 (ps:yH):Prop:=∀ params,lamArgs params=aT ps->∀ qual   body   scope  (clos:yB)  doc pm   c'   ctv  (us:yG),us.length=ps.length->eO (bU "<lambda>" qual params body scope clos pm (.ref c') ctv) ⟨us,[]⟩=pure (ps.zip us) /\
 ∀ nm   rp ,eO (cT nm qual params [.Return (aT body) rp] scope clos .none .none doc pm bY (.ref c') ctv) ⟨us,[]⟩=pure (ps.zip us)
noncomputable def bg6 (ps fr:yH)(sc:Scope):Bool:=decide (sc.kind=.function)&&!sc.isCoroutine&&!sc.isGenerator&&decide ((ps++fr).Nodup)&&(ps.all λ x=>decide (sc.names.lookup x=aT .local)||decide (sc.names.lookup x=aT .cell))&&(fr.all λ x=>decide (sc.names.lookup x=aT .free))&&(sc.names.all λ y=>!decide (y.2=.cell)||decide (sc.names.lookup y.1=aT .cell))
def bm5 (h:bg6 ps fr sc=cn):LamScope (ps++fr) ps fr sc:=by
 unfold bg6 at h;simp only[aw,iN,eM,aU,bW]at h;obtain⟨⟨⟨⟨⟨⟨G,J⟩,h3⟩,Y⟩,Z⟩,h6⟩,h7⟩:=h;exact⟨G,J,h3,Y,rfl,Z,h6,λ y hy e=>by
  grind⟩
noncomputable def cl7 (scope sc:Scope):Bool:=scope.names.all λ y=>!decide (scope.names.lookup y.1=aT .free)||decide (sc.names.lookup y.1=aT .cell)
def bw2 (h:cl7 scope sc=cn):∀ x,scope.names.lookup x=aT .free->sc.names.lookup x=aT .cell:=λ x hx=>by
 have:=aU.mp h (x,.free) (aE hx);lia
def lkB (sc:Scope)(N:yH)(caps:List Nat)(params:a9)(body:Expr)(scope:Scope)(t:n8×List Str×List Str):Bool :=
 decide (lamArgs params=aT t.2.1)&&decide (caps.map (λ j=>N[j]?)=t.2.2.map aT)&&lamCheck scope sc&&cl7 scope sc&&bg6 t.2.1 t.2.2 scope&&decide (t.2.1.length=t.1.ps)&&decide (t.2.2.length=t.1.cs)&&mE (ck0 (t.2.1++t.2.2) scope) t.1.body body
def lkG (f:Str)(sc:Scope)(N:yH)(tab:List (String×n8×List Str×List Str))(id:String)(caps:List Nat)(E:Expr):Bool:=match tab.lookup id,E with
 | some t,.Lambda params body scope _=>decide (sfx f = "<lambda>")&&lkB sc N caps params body scope t
 | some t,.NamedExpr (.Name nm _) (.Lambda params body scope p1) p2=>decide (sfx f=nm)&&decide (p1=p2)&&lkB sc N caps params body scope t
 | _,_=>dt
set_option tactic.hygienic true in
def bR9 {K}(hf:f∈names)(Y:fd.code=.ref ((a8 K f).getD (0,0)).1)(a1:∀ y∈sc.names,y.2=.cell->sc.names.lookup y.1=aT .cell)
  (a2:∀ id t,tab.lookup id=aT t->P.lm id=aT t.1/\aI4 t.2.1):cb8 (bt9 names P K) (bP7 names K) f sc N fd (lkG f sc N tab):=by
 intro id G E h;have J:∀ t   params   body   scope   Z ,tab.lookup id=aT t->lkB sc N G params body scope t=cn->(match Z with|none => "<lambda>" | some p=>p.1)=sfx f ->
   LkAt (bt9 names P K) (bP7 names K) f sc N fd id G params body scope ((a8 K f).getD (0,0)).1 ((a8 K f).getD (0,0)).2 ⟨f ++ ".<locals>."++sfx f,params,body,scope,t.2.1,t.2.2,Z⟩:=λ t params body scope Z e h hs=>by
  refine wl λ _ kk=>?_;obtain⟨L,ps,fr⟩:=t;unfold lkB at h;simp only[aw,iN]at h;obtain⟨⟨⟨⟨⟨⟨⟨h1,h2⟩,h3⟩,h4⟩,h5⟩,h6⟩,h7⟩,h8⟩:=h;obtain⟨hL,hB⟩:=a2 id _ e;obtain⟨args,rfl,a4⟩:=jc h1;have a0:=by have:=congrArg iB h2;simpa using this.symm
  have S:=bm5 h5;refine kk ⟨Y,au.mpr ⟨f,hf,rfl⟩,h3,bw2 h4,a1,λ env=>rfl,⟨L,hL,⟨S,h6,h7,h8,h1,λ a5 a6 pm c' b0 us a3=>hB _ h1 _ _ _ _ _ _ _ _ _ a3⟩⟩,?_,rfl,rfl,rfl,a0,λ i j x e1 e2=>?_,S.frs,au.mpr ⟨f,hf,rfl⟩⟩
  .skip
   unfold LamI.own;rw[<-hs]<;>rfl
  .have e3:(G.map (λ j=>N[j]?))[i]?=aT (N[j]?):=by rw[ao,e1];rfl
   simp_all
 unfold lkG at h;split at h
 case h_3=>cases h
 .rename_i t params body scope pos e;rw[aw]at h;exact⟨_,_,params,body,scope,pos,_,rfl,J t params body scope bY e h.2 (dO h.1).symm⟩
 .rename_i t Z rp params body scope p1 p2 e;rw[aw,aw]at h;have ep:=dO h.1.2;subst ep;exact⟨_,_,params,body,scope,p1,_,rfl,J t params body scope (aT (Z,rp)) e h.2 (dO h.1.1).symm⟩
def bq0 {K}:cb8 (bt9 names P K) (bP7 names K) f sc N y (λ _ _ _=>dt):=λ _ _ _ h=>by cases h
def cp9 {K}:∀ id J,(bt9 names P K).lg id J->∃ L,P.lm id=aT L/\LamGood J L:=λ _ _ h=>h
def cr8 {P:m7}{tab:List (String×n8×List Str×List Str)}(h:∀ p∈tab,P.lm p.1=aT p.2.1/\aI4 p.2.2.1):∀ id t,tab.lookup id=aT t->P.lm id=aT t.1/\aI4 t.2.1:=by
 induction tab with
 | nil=>simp_all
 | cons y l ih =>
  intro id t e;rw[aZ]at e;cases q:id==y.1 with
  | true =>
   simp_all
  | false =>
   rw[q]at e;exact ih (λ p G=>h p (aB _ G)) id t e
def cv8 (K:af)(n:Str)(st:Stmt):Prop:=∃(f:Addr) (od an:yI) (sl:yE) (oc kV dc pm cd ct:Value),bR K aV n=aT (aT (.ref f)) /\
 K.lookup f=aT ⟨oc,od,.func (dz n n (defArgs st) (qv st) (defScope st) .none kV dc pm an cd ct),sl⟩/\fN K cd n=cn/\cM K (.ref f)=cn
def cy5 (n:Str)(st:Stmt)(ps:yH):Prop:=∀ kV doc pm  (an:yI)  cdv ct  (us:yG),us.length=ps.length->eO (dz n n (defArgs st) (qv st) (defScope st) .none kV doc pm an cdv ct) ⟨us,[]⟩=pure (ps.zip us)
def bd0 {Q:List Value->Prop}(h:Q [])(us:yG)(hl:us.length=0):Q us:=by
 simp_all
def bdS {Q:List Value->Prop}(h:∀ a us,us.length=k->Q (a::us))(us:yG)(hl:us.length=k+1):Q us:=by
 cases us with
 | nil=>cases hl
 | cons a us=>exact h a us (Nat.succ.inj hl)
def bd1 {Q:List Value->Prop}(h:∀ a,Q [a]):∀ us:List Value,us.length=1->Q us:=bdS λ a=>bd0 (h a)
def bd2 {Q:List Value->Prop}(h:∀ a b,Q [a,b]):∀ us:List Value,us.length=2->Q us:=bdS λ a=>bd1 (h a)
def bd3 {Q:List Value->Prop}(h:∀ a b c,Q [a,b,c]):∀ us:List Value,us.length=3->Q us:=bdS λ a=>bd2 (h a)
def bd4 {Q:List Value->Prop}(h:∀ a b c d,Q [a,b,c,d]):∀ us:List Value,us.length=4->Q us:=bdS λ a=>bd3 (h a)
def DTB (names:yH)(P:m7)(n:String)(pc vc:Nat)(m:Ck->List Stmt->Bool)(st:Stmt):Prop:=∃ N ps,FnScope N ps (defScope st)/\ps.length=pc/\N.length=pc+vc/\cy5 n st ps/\(m ⟨N,defScope st,λ _ _ _=>dt⟩ (qv st)=cn \/
 ((n:Str)∈names/\∃ tab,m ⟨N,defScope st,lkG n (defScope st) N tab⟩ (qv st)=cn/\(∀ y∈(defScope st).names,y.2=.cell->(defScope st).names.lookup y.1=aT .cell)/\∀ p∈tab,P.lm p.1=aT p.2.1/\aI4 p.2.2.1))
def DT (names:yH)(P:m7)(n:String)(d:n9)(st:Stmt):Prop:=DTB names P n d.ps d.vs (λ ck S=>mSs ck d.body S) st
def bx7 {names:yH}{P:m7}{K:af}{h:Heap}{mg:yC}{n:String}{Z Y:Nat}{m:Ck->List Stmt->Bool}{st:Stmt}(X:K.In h)(G:h.Ns aV mg)(hT:∀ x∈names,(a8 K x).isSome=cn)(hD:cv8 K n st)(hd:DTB names P n Z Y m st):ch2 (bt9 names P K) (bP7 names K) mg n Z Y m:=by
 refine wl λ _ kk=>?_;obtain⟨f,od,an,sl,oc,kV,dc,pm,cd,ct,a,l,c,k⟩:=hD;obtain⟨N,ps,J,h2,h3,h4,y⟩:=hd;have F:=bE8 (st:=st) l c k;have D:DefAt K mg n st ps f _:=⟨F,bK X G a,F.binds h4⟩
 refine kk ?_;rcases y with y|⟨hn,tab,y,h6,h7⟩
 .exact⟨_,_,_,_,_,_,D,J,h2,h3,y,bq0⟩
 .exact⟨_,_,_,_,_,_,D,J,h2,h3,y,bR9 hn (PySem.W.law_code X G (aD7 (hT _ hn)) (bK X G a) (X _ _ l) rfl) h6 (cr8 h7)⟩
def good_of {K}{mg}{n:String}{st}(X:K.In h)(G:h.Ns aV mg)(hT:∀ x∈names,(a8 K x).isSome=cn)(hD:cv8 K n st)(hd:DT names P n d st):Good (bt9 names P K) (bP7 names K) mg n d:=bx7 X G hT hD hd
end L2
end
noncomputable section
namespace DV
noncomputable def ae3:Df:=⟨"is_whole",3,0,(.cons (.ret (.and (.bi .isInt (.cons (.X 0) .nil)) (.and (.not (.bi .isBool (.cons (.X 0) .nil))) (.chain .le .le (.X 1) (.X 0) (.X 2))))) .nil)⟩
noncomputable def ac9:Df:=⟨"is_tuple_of",2,0,(.cons (.ret (.and (.bi .isTup (.cons (.X 0) .nil)) (.Z .eq (.bi .len (.cons (.X 0) .nil)) (.X 1)))) .nil)⟩
noncomputable def ae8:Df:=⟨"is_letter",2,0,(.cons (.ret (.Z .isin (.X 0) (.slU (.gl "LETTERS") (.X 1)))) .nil)⟩
noncomputable def ad7:Df:=⟨"letters_of",1,0,(.cons (.ret (.slU (.gl "LETTERS") (.ix (.X 0) (.K (.int 0))))) .nil)⟩
noncomputable def aa9:Df:=⟨"rooms_of",1,0,(.cons (.ret (.ix (.X 0) (.K (.int 1)))) .nil)⟩
noncomputable def jg:Df:=⟨"begins_of",1,0,(.cons (.ret (.ix (.X 0) (.K (.int 2)))) .nil)⟩
noncomputable def jK:Df:=⟨"ends_of",1,0,(.cons (.ret (.ix (.X 0) (.K (.int 3)))) .nil)⟩
noncomputable def ab5:Df:=⟨"doors_of",1,0,(.cons (.ret (.ix (.X 0) (.K (.int 4)))) .nil)⟩
noncomputable def af3:Df:=⟨"grid",2,2,(.cons (.A (.Y 2) (.J .nil)) (.cons (.fo (.Y 3) (.rg (.X 0)) (.cons (.ex (.me .append (.X 2) (.cons (.mk .tuple (.comp (.Y 0) (.rg (.X 0)) (.callV 1 (.cons (.X 2) (.cons (.X 0) .nil))) [bY,aT 1,aT 3])) .nil))) .nil)) (.cons (.ret (.mk .tuple (.seq (.X 2)))) .nil)))⟩
noncomputable def ae7:Df:=⟨"least",1,0,(.cons (.ret (.mkD .min (.compIf (.Y 0) (.seq (.X 0)) (.notN (.X 0)) (.X 0) [bY]) (.K .N))) .nil)⟩
noncomputable def af0:Df:=⟨"added",2,0,(.cons (.ite (.or (.isN (.X 0)) (.isN (.X 1))) (.cons (.ret (.K .N)) .nil) .nil) (.cons (.ret (.G .add (.X 0) (.X 1))) .nil))⟩
noncomputable def af5:Df:=⟨"plain",1,0,(.cons (.ret (.callC "grid" (.ex (.X 0) (.lam "plain.0" [] .nil)))) .nil)⟩
noncomputable def ab2:Lm:=⟨"plain.0",2,0,(.ite (.Z .eq (.X 0) (.X 1)) (.K (.int 0)) (.K .N))⟩
noncomputable def ab8:Df:=⟨"product",2,1,(.cons (.A (.Y 2) (.bi .len (.cons (.X 0) .nil))) (.cons (.ret (.callC "grid" (.ex (.X 2) (.lam "product.0" [2,0,1] .nil)))) .nil))⟩
noncomputable def aa6:Lm:=⟨"product.0",2,3,(.call "least" (.ex (.mk .list (.comp (.Y 0) (.rg (.X 2)) (.call "added" (.ex (.ix (.ix (.X 1) (.X 2)) (.X 0)) (.ex (.ix (.ix (.X 3) (.X 0)) (.X 4)) .nil))) [bY,aT 3,aT 0,aT 4,aT 1])) .nil))⟩
noncomputable def ae0:Df:=⟨"raised",4,3,(.cons (.A (.Y 4) (.X 2)) (.cons (.A (.Y 5) (.X 0)) (.cons (.A (.Y 6) (.X 1)) (.cons (.whl (.Z .gt (.X 6) (.K (.int 0))) (.cons (.ite (.Z .eq (.G .mod (.X 6) (.K (.int 2))) (.K (.int 1))) (.cons (.A (.Y 4) (.callV 3 (.cons (.X 4) (.cons (.X 5) .nil)))) .nil) .nil) (.cons (.A (.Y 6) (.G .fdiv (.X 6) (.K (.int 2)))) (.cons (.ite (.Z .gt (.X 6) (.K (.int 0))) (.cons (.A (.Y 5) (.callV 3 (.cons (.X 5) (.cons (.X 5) .nil)))) .nil) .nil) .nil)))) (.cons (.ret (.X 4)) .nil)))))⟩
noncomputable def ah5:Df:=⟨"power",2,0,(.cons (.ret (.call "raised" (.ex (.X 0) (.ex (.X 1) (.ex (.call "plain" (.ex (.bi .len (.cons (.X 0) .nil)) .nil)) (.ex (.gl "product") .nil)))))) .nil)⟩
noncomputable def aa4:Df:=⟨"letter_table",2,1,(.cons (.und 2) (.cons (.ret (.callC "grid" (.ex (.call "rooms_of" (.ex (.X 0) .nil)) (.lam "letter_table.least_fee" [0,1] .nil)))) .nil))⟩
noncomputable def aa2:Lm:=⟨"letter_table.least_fee",2,2,(.call "least" (.ex (.mk .list (.compIf (.tp [0,1,2,3]) (.seq (.call "doors_of" (.ex (.X 2) .nil))) (.Z .eq (.tp (.cons (.X 0) (.cons (.X 1) (.cons (.X 2) .nil)))) (.tp (.cons (.X 4) (.cons (.X 5) (.cons (.X 6) .nil))))) (.X 3) [bY,bY,bY,bY,aT 0,aT 3,aT 1])) .nil))⟩
noncomputable def aa8:Df:=⟨"word_table",2,3,(.cons (.A (.Y 2) (.dc .nil .nil)) (.cons (.A (.Y 3) (.call "plain" (.ex (.call "rooms_of" (.ex (.X 0) .nil)) .nil))) (.cons (.fo (.Y 4) (.seq (.X 1)) (.cons (.ite (.Z .notin (.X 4) (.X 2)) (.cons (.setIx (.X 2) (.X 4) (.call "letter_table" (.ex (.X 0) (.ex (.X 4) .nil)))) .nil) .nil) (.cons (.A (.Y 3) (.call "product" (.ex (.X 3) (.ex (.ix (.X 2) (.X 4)) .nil)))) .nil))) (.cons (.ret (.X 3)) .nil))))⟩
noncomputable def zQ:Df:=⟨"at_begins_and_ends",2,2,.nil⟩
noncomputable def ag4:Df:=⟨"sign_of",1,0,(.cons (.ite (.isN (.X 0)) (.cons (.ret (.gl "NONE")) .nil) .nil) (.cons (.ret (.ite (.Z .eq (.X 0) (.K (.int 0))) (.gl "FREE") (.gl "SOME"))) .nil))⟩
noncomputable def ag3:Df:=⟨"reading",1,0,(.cons (.ret (.callC "grid" (.ex (.bi .len (.cons (.X 0) .nil)) (.lam "reading.0" [0] .nil)))) .nil)⟩
noncomputable def ac6:Lm:=⟨"reading.0",2,1,(.call "sign_of" (.ex (.ix (.ix (.X 2) (.X 0)) (.X 1)) .nil))⟩
noncomputable def ad6:Df:=⟨"plain_signs",1,0,(.cons (.ret (.callC "grid" (.ex (.X 0) (.lam "plain_signs.0" [] .nil)))) .nil)⟩
noncomputable def ab3:Lm:=⟨"plain_signs.0",2,0,(.ite (.Z .eq (.X 0) (.X 1)) (.gl "FREE") (.gl "NONE"))⟩
noncomputable def ak3:Df:=⟨"_law_box",2,4,(.cons (.A (.Y 2) (.K (.int 0))) (.cons (.ite (.Z .lt (.X 1) (.bi .len (.cons (.X 0) .nil))) (.cons (.A (.Y 2) (.bi .abs (.cons (.ix (.X 0) (.X 1)) .nil))) .nil) .nil) (.cons (.ite (.Z .ge (.X 2) (.G .pow (.K (.int 10)) (.K (.int 18)))) (.cons (.ret (.J (.cons (.X 2) .nil))) .nil) .nil) (.cons (.A (.Y 3) (.K (.int 0))) (.cons (.fo (.Y 4) (.rg (.K (.int 128))) (.cons (.A (.Y 5) (.G .mod (.G .mul (.G .add (.G .add (.G .add (.G .mod (.X 2) (.K (.int 2147483647))) (.G .mul (.K (.int 7919)) (.X 1))) (.G .mul (.K (.int 104729)) (.X 4))) (.K (.int 97))) (.K (.int 48271))) (.K (.int 2147483647)))) (.cons (.A (.Y 3) (.G .add (.G .mul (.X 3) (.K (.int 2147483647))) (.G .mod (.G .add (.G .add (.G .mul (.X 5) (.X 5)) (.G .mul (.K (.int 31)) (.X 4))) (.G .fdiv (.X 2) (.K (.int 2147483647)))) (.K (.int 2147483647))))) .nil))) (.cons (.ret (.J (.cons (.X 3) .nil))) .nil))))))⟩
noncomputable def ah4:Df:=⟨"_law_draw",2,1,(.cons (.A (.Y 2) (.G .mod (.ix (.X 0) (.K (.int 0))) (.X 1))) (.cons (.setIx (.X 0) (.K (.int 0)) (.G .fdiv (.ix (.X 0) (.K (.int 0))) (.X 1))) (.cons (.ret (.X 2)) .nil)))⟩
noncomputable def aa5:Df:=⟨"sign_product",2,1,(.cons (.A (.Y 2) (.bi .len (.cons (.X 0) .nil))) (.cons (.ret (.callC "grid" (.ex (.X 2) (.lam "sign_product.0" [2,0,1] .nil)))) .nil))⟩
noncomputable def aa3:Lm:=⟨"sign_product.0",2,3,(.mk .min (.comp (.Y 0) (.rg (.X 2)) (.bi .max2 (.cons (.ix (.ix (.X 1) (.X 2)) (.X 0)) (.cons (.ix (.ix (.X 3) (.X 0)) (.X 4)) .nil))) [bY,aT 3,aT 0,aT 4,aT 1]))⟩
noncomputable def ab6:Df:=⟨"_law_product",2,4,(.cons (.A (.Y 2) (.J .nil)) (.cons (.fo (.Y 3) (.seq (.X 0)) (.cons (.A (.Y 4) (.mk .list (.comp (.Y 0) (.seq (.X 3)) (.K (.int 3)) [bY]))) (.cons (.fo (.Y 5) (.rg (.bi .len (.cons (.X 3) .nil))) (.cons (.ite (.Z .lt (.ix (.X 3) (.X 5)) (.K (.int 3))) (.cons (.A (.Y 4) (.mk .list (.comp (.Y 0) (.rg (.bi .len (.cons (.X 3) .nil))) (.bi .min2 (.cons (.ix (.X 1) (.X 0)) (.cons (.bi .max2 (.cons (.ix (.X 2) (.X 3)) (.cons (.ix (.ix (.X 4) (.X 3)) (.X 0)) .nil))) .nil))) [bY,aT 4,aT 3,aT 5,aT 1]))) .nil) .nil) .nil)) (.cons (.ex (.me .append (.X 2) (.cons (.mk .tuple (.seq (.X 4))) .nil))) .nil)))) (.cons (.ret (.mk .tuple (.seq (.X 2)))) .nil)))⟩
noncomputable def ae5:Df:=⟨"sign_power",2,0,(.cons (.ret (.call "raised" (.ex (.X 0) (.ex (.X 1) (.ex (.call "plain_signs" (.ex (.bi .len (.cons (.X 0) .nil)) .nil)) (.ex (.gl "sign_product") .nil)))))) .nil)⟩
noncomputable def ac2:Df:=⟨"is_steady",1,0,(.cons (.ret (.Z .eq (.call "sign_product" (.ex (.X 0) (.ex (.X 0) .nil))) (.X 0))) .nil)⟩
noncomputable def ad5:Df:=⟨"round_of",1,0,(.cons (.ite (.or (.Z .eq (.X 0) (.gl "FREE")) (.Z .eq (.X 0) (.gl "NONE"))) (.cons (.ret (.X 0)) .nil) .nil) (.cons (.ret (.gl "UNBOUND")) .nil))⟩
noncomputable def ad0:Df:=⟨"sharpened",1,2,(.cons (.ite (.not (.call "is_steady" (.ex (.X 0) .nil))) (.cons .raise .nil) .nil) (.cons (.A (.Y 1) (.bi .len (.cons (.X 0) .nil))) (.cons (.A (.Y 2) (.mk .list (.comp (.Y 0) (.rg (.X 1)) (.call "round_of" (.ex (.ix (.ix (.X 1) (.X 0)) (.X 0)) .nil)) [bY,aT 0]))) (.cons (.ret (.callC "grid" (.ex (.X 1) (.lam "sharpened.0" [1,0,2] .nil)))) .nil))))⟩
noncomputable def ab1:Lm:=⟨"sharpened.0",2,3,(.mk .min (.comp (.Y 0) (.rg (.X 2)) (.bi .max3 (.cons (.ix (.ix (.X 1) (.X 2)) (.X 0)) (.cons (.ix (.X 3) (.X 0)) (.cons (.ix (.ix (.X 1) (.X 0)) (.X 4)) .nil)))) [bY,aT 3,aT 0,aT 4,aT 1]))⟩
noncomputable def ac1:Df:=⟨"steady_power",1,2,(.cons (.A (.Y 1) (.K (.int 1))) (.cons (.A (.Y 2) (.X 0)) (.cons (.whl (.not (.call "is_steady" (.ex (.X 2) .nil))) (.cons (.aug 1 (.K (.int 1))) (.cons (.A (.Y 2) (.call "sign_product" (.ex (.X 2) (.ex (.X 0) .nil)))) .nil))) (.cons (.ret (.tp (.cons (.X 1) (.cons (.X 2) .nil)))) .nil))))⟩
noncomputable def ac5:Df:=⟨"word_signs",2,0,(.cons (.ret (.call "reading" (.ex (.call "word_table" (.ex (.X 0) (.ex (.X 1) .nil))) .nil))) .nil)⟩
noncomputable def ad9:Df:=⟨"_law_machine",1,12,(.cons (.A (.Y 1) (.G .add (.K (.int 1)) (.call "_law_draw" (.ex (.X 0) (.ex (.K (.int 3)) .nil))))) (.cons (.A (.Y 2) (.G .add (.K (.int 1)) (.call "_law_draw" (.ex (.X 0) (.ex (.K (.int 5)) .nil))))) (.cons (.A (.Y 3) (.call "_law_draw" (.ex (.X 0) (.ex (.G .add (.G .mul (.K (.int 3)) (.X 2)) (.K (.int 2))) .nil)))) (.cons (.ite (.Z .eq (.call "_law_draw" (.ex (.X 0) (.ex (.K (.int 8)) .nil))) (.K (.int 5))) (.cons (.A (.Y 3) (.call "_law_draw" (.ex (.X 0) (.ex (.K (.int 76)) .nil)))) .nil) .nil) (.cons (.A (.Y 4) (.ix (.J (.cons (.K (.int 2)) (.cons (.K (.int 2)) (.cons (.K (.int 4)) (.cons (.K (.int 1)) .nil))))) (.call "_law_draw" (.ex (.X 0) (.ex (.K (.int 4)) .nil))))) (.cons (.A (.Y 5) (.J .nil)) (.cons (.fo (.Y 6) (.rg (.X 3)) (.cons (.A (.Y 7) (.call "_law_draw" (.ex (.X 0) (.ex (.X 2) .nil)))) (.cons (.A (.Y 8) (.call "_law_draw" (.ex (.X 0) (.ex (.X 2) .nil)))) (.cons (.A (.Y 9) (.ix (.K (.str [97,98,99])) (.call "_law_draw" (.ex (.X 0) (.ex (.X 1) .nil))))) (.cons (.ex (.me .append (.X 5) (.cons (.tp (.cons (.X 7) (.cons (.X 9) (.cons (.X 8) (.cons (.call "_law_draw" (.ex (.X 0) (.ex (.X 4) .nil))) .nil))))) .nil))) .nil))))) (.cons (.A (.Y 10) (.call "_law_draw" (.ex (.X 0) (.ex (.G .shl (.K (.int 1)) (.X 2)) .nil)))) (.cons (.A (.Y 11) (.mk .tuple (.compIf (.Y 0) (.rg (.X 2)) (.Z .eq (.G .mod (.G .shr (.X 1) (.X 0)) (.K (.int 2))) (.K (.int 1))) (.X 0) [bY,aT 10]))) (.cons (.A (.Y 10) (.call "_law_draw" (.ex (.X 0) (.ex (.G .shl (.K (.int 1)) (.X 2)) .nil)))) (.cons (.A (.Y 12) (.mk .tuple (.compIf (.Y 0) (.rg (.X 2)) (.Z .eq (.G .mod (.G .shr (.X 1) (.X 0)) (.K (.int 2))) (.K (.int 1))) (.X 0) [bY,aT 10]))) (.cons (.ret (.tp (.cons (.X 1) (.cons (.X 2) (.cons (.X 11) (.cons (.X 12) (.cons (.mk .tuple (.seq (.X 5))) .nil))))))) .nil))))))))))))⟩
noncomputable def ab4:Df:=⟨"_law_letter_signs",2,6,(.cons (.A (.Y 2) (.ix (.X 0) (.K (.int 1)))) (.cons (.A (.Y 3) (.mk .list (.comp (.Y 0) (.rg (.X 2)) (.mk .list (.comp (.Y 0) (.rg (.X 1)) (.K (.int 3)) [bY])) [bY,aT 2]))) (.cons (.fo (.tp [4,5,6,7]) (.seq (.ix (.X 0) (.K (.int 4)))) (.cons (.ite (.Z .eq (.X 5) (.X 1)) (.cons (.setIx (.ix (.X 3) (.X 4)) (.X 6) (.bi .min2 (.cons (.ix (.ix (.X 3) (.X 4)) (.X 6)) (.cons (.bi .int (.cons (.Z .gt (.X 7) (.K (.int 0))) .nil)) .nil)))) .nil) .nil) .nil)) (.cons (.ret (.mk .tuple (.comp (.Y 0) (.seq (.X 3)) (.mk .tuple (.seq (.X 0))) [bY]))) .nil))))⟩
noncomputable def ag0:Df:=⟨"is_ahead",2,0,(.cons (.ret (.call "is_whole" (.ex (.X 0) (.ex (.K (.int 0)) (.ex (.G .sub (.X 1) (.K (.int 1))) .nil))))) .nil)⟩
noncomputable def aa7:Df:=⟨"is_letter_step",2,0,(.cons (.ret (.and (.call "is_tuple_of" (.ex (.X 0) (.ex (.K (.int 2)) .nil))) (.and (.Z .eq (.ix (.X 0) (.K (.int 0))) (.K (.str [108,101,116,116,101,114]))) (.call "is_letter" (.ex (.ix (.X 0) (.K (.int 1))) (.ex (.X 1) .nil)))))) .nil)⟩
noncomputable def ab0:Df:=⟨"is_pair_step",2,0,(.cons (.ret (.and (.call "is_tuple_of" (.ex (.X 0) (.ex (.K (.int 3)) .nil))) (.and (.Z .eq (.ix (.X 0) (.K (.int 0))) (.K (.str [112,97,105,114]))) (.and (.call "is_ahead" (.ex (.ix (.X 0) (.K (.int 1))) (.ex (.X 1) .nil))) (.call "is_ahead" (.ex (.ix (.X 0) (.K (.int 2))) (.ex (.X 1) .nil))))))) .nil)⟩
noncomputable def ab7:Df:=⟨"is_sharp_step",2,0,(.cons (.ret (.and (.call "is_tuple_of" (.ex (.X 0) (.ex (.K (.int 2)) .nil))) (.and (.Z .eq (.ix (.X 0) (.K (.int 0))) (.K (.str [115,104,97,114,112]))) (.call "is_ahead" (.ex (.ix (.X 0) (.K (.int 1))) (.ex (.X 1) .nil)))))) .nil)⟩
noncomputable def jO:Df:=⟨"signs_made",2,2,(.cons (.ite (.or (.not (.bi .isTup (.cons (.X 1) .nil))) (.not (.chain .le .le (.K (.int 1)) (.bi .len (.cons (.X 1) .nil)) (.gl "MOST_STEPS")))) (.cons .raise .nil) .nil) (.cons (.A (.Y 2) (.J .nil)) (.cons (.fo (.Y 3) (.seq (.X 1)) (.cons (.ex (.me .append (.X 2) (.cons (.call "signs_of_step" (.ex (.X 0) (.ex (.X 3) (.ex (.X 2) .nil)))) .nil))) .nil)) (.cons (.ret (.X 2)) .nil))))⟩
noncomputable def ac4:Df:=⟨"signs_of_step",3,1,(.cons (.A (.Y 3) (.bi .len (.cons (.X 2) .nil))) (.cons (.ite (.call "is_letter_step" (.ex (.X 1) (.ex (.bi .len (.cons (.call "letters_of" (.ex (.X 0) .nil)) .nil)) .nil))) (.cons (.ret (.call "word_signs" (.ex (.X 0) (.ex (.ix (.X 1) (.K (.int 1))) .nil)))) .nil) .nil) (.cons (.ite (.call "is_pair_step" (.ex (.X 1) (.ex (.X 3) .nil))) (.cons (.ret (.call "sign_product" (.ex (.ix (.X 2) (.ix (.X 1) (.K (.int 1)))) (.ex (.ix (.X 2) (.ix (.X 1) (.K (.int 2)))) .nil)))) .nil) .nil) (.cons (.ite (.and (.call "is_sharp_step" (.ex (.X 1) (.ex (.X 3) .nil))) (.call "is_steady" (.ex (.ix (.X 2) (.ix (.X 1) (.K (.int 1)))) .nil))) (.cons (.ret (.call "sharpened" (.ex (.ix (.X 2) (.ix (.X 1) (.K (.int 1)))) .nil))) .nil) .nil) (.cons .raise .nil)))))⟩
noncomputable def ag5:Df:=⟨"_law_sharp",1,8,(.cons (.A (.Y 1) (.bi .len (.cons (.X 0) .nil))) (.cons (.A (.Y 2) (.J .nil)) (.cons (.fo (.Y 3) (.rg (.X 1)) (.cons (.A (.Y 4) (.J .nil)) (.cons (.fo (.Y 5) (.rg (.X 1)) (.cons (.A (.Y 6) (.K (.int 3))) (.cons (.fo (.Y 7) (.rg (.X 1)) (.cons (.A (.Y 8) (.ix (.ix (.X 0) (.X 7)) (.X 7))) (.cons (.ite (.Z .eq (.X 8) (.K (.int 1))) (.cons (.A (.Y 8) (.K (.int 2))) .nil) .nil) (.cons (.A (.Y 6) (.bi .min2 (.cons (.X 6) (.cons (.bi .max3 (.cons (.ix (.ix (.X 0) (.X 3)) (.X 7)) (.cons (.X 8) (.cons (.ix (.ix (.X 0) (.X 7)) (.X 5)) .nil)))) .nil)))) .nil)))) (.cons (.ex (.me .append (.X 4) (.cons (.X 6) .nil))) .nil)))) (.cons (.ex (.me .append (.X 2) (.cons (.mk .tuple (.seq (.X 4))) .nil))) .nil)))) (.cons (.ret (.mk .tuple (.seq (.X 2)))) .nil))))⟩
noncomputable def ah1:Df:=⟨"_law_makings",4,8,(.cons (.A (.Y 4) (.J .nil)) (.cons (.A (.Y 5) (.J .nil)) (.cons (.A (.Y 6) (.J .nil)) (.cons (.fo (.Y 7) (.rg (.G .add (.K (.int 1)) (.call "_law_draw" (.ex (.X 0) (.ex (.X 2) .nil))))) (.cons (.A (.Y 8) (.call "_law_draw" (.ex (.X 0) (.ex (.K (.int 6)) .nil)))) (.cons (.A (.Y 9) (.call "_law_draw" (.ex (.X 0) (.ex (.G .add (.X 7) (.K (.int 1))) .nil)))) (.cons (.A (.Y 10) (.call "_law_draw" (.ex (.X 0) (.ex (.G .add (.X 7) (.K (.int 1))) .nil)))) (.cons (.ite (.and (.Z .lt (.X 8) (.K (.int 4))) (.and (.Z .gt (.X 3) (.K (.int 0))) (.and (.Z .ne (.X 6) (.J .nil)) (.Z .gt (.X 8) (.K (.int 0)))))) (.cons (.A (.Y 9) (.ix (.X 6) (.G .mod (.X 10) (.bi .len (.cons (.X 6) .nil))))) (.cons (.ex (.me .append (.X 4) (.cons (.tp (.cons (.K (.str [115,104,97,114,112])) (.cons (.X 9) .nil))) .nil))) (.cons (.ex (.me .append (.X 5) (.cons (.call "_law_sharp" (.ex (.ix (.X 5) (.X 9)) .nil)) .nil))) (.cons (.A (.Y 3) (.G .sub (.X 3) (.K (.int 1)))) .nil)))) (.cons (.ite (.and (.Z .gt (.X 7) (.K (.int 0))) (.Z .lt (.X 8) (.K (.int 5)))) (.cons (.A (.Y 9) (.bi .min2 (.cons (.X 9) (.cons (.G .sub (.X 7) (.K (.int 1))) .nil)))) (.cons (.A (.Y 10) (.ite (.Z .gt (.X 8) (.K (.int 1))) (.bi .min2 (.cons (.X 10) (.cons (.G .sub (.X 7) (.K (.int 1))) .nil))) (.X 9))) (.cons (.ex (.me .append (.X 4) (.cons (.tp (.cons (.K (.str [112,97,105,114])) (.cons (.X 9) (.cons (.X 10) .nil)))) .nil))) (.cons (.ex (.me .append (.X 5) (.cons (.call "_law_product" (.ex (.ix (.X 5) (.X 9)) (.ex (.ix (.X 5) (.X 10)) .nil))) .nil))) .nil)))) (.cons (.A (.Y 11) (.ix (.K (.str [97,98,99])) (.G .mod (.X 9) (.ix (.X 1) (.K (.int 0)))))) (.cons (.ex (.me .append (.X 4) (.cons (.tp (.cons (.K (.str [108,101,116,116,101,114])) (.cons (.X 11) .nil))) .nil))) (.cons (.ex (.me .append (.X 5) (.cons (.call "_law_letter_signs" (.ex (.X 1) (.ex (.X 11) .nil))) .nil))) .nil)))) .nil)) (.cons (.ite (.Z .eq (.call "_law_product" (.ex (.ix (.X 5) (.X 7)) (.ex (.ix (.X 5) (.X 7)) .nil))) (.ix (.X 5) (.X 7))) (.cons (.ex (.me .append (.X 6) (.cons (.X 7) .nil))) .nil) .nil) .nil)))))) (.cons (.ret (.tp (.cons (.mk .tuple (.seq (.X 4))) (.cons (.X 5) .nil)))) .nil)))))⟩
noncomputable def af4:Df:=⟨"as_times",2,0,(.cons (.ret (.mk .list (.comp (.Y 0) (.seq (.X 0)) (.ite (.Z .eq (.ix (.X 0) (.K (.int 0))) (.K (.str [115,104,97,114,112]))) (.tp (.cons (.K (.str [116,105,109,101,115])) (.cons (.ix (.X 0) (.K (.int 1))) (.cons (.X 1) .nil)))) (.X 0)) [bY,aT 1]))) .nil)⟩
noncomputable def ac0:Df:=⟨"folded",4,2,(.cons (.A (.Y 4) (.J .nil)) (.cons (.fo (.Y 5) (.seq (.X 0)) (.cons (.ite (.Z .eq (.ix (.X 5) (.K (.int 0))) (.K (.str [108,101,116,116,101,114]))) (.cons (.ex (.me .append (.X 4) (.cons (.callV 1 (.cons (.ix (.X 5) (.K (.int 1))) .nil)) .nil))) .nil) (.cons (.ite (.Z .eq (.ix (.X 5) (.K (.int 0))) (.K (.str [112,97,105,114]))) (.cons (.ex (.me .append (.X 4) (.cons (.callV 2 (.cons (.ix (.X 4) (.ix (.X 5) (.K (.int 1)))) (.cons (.ix (.X 4) (.ix (.X 5) (.K (.int 2)))) .nil))) .nil))) .nil) (.cons (.ex (.me .append (.X 4) (.cons (.callV 3 (.cons (.ix (.X 4) (.ix (.X 5) (.K (.int 1)))) (.cons (.ix (.X 5) (.K (.int 2))) .nil))) .nil))) .nil)) .nil)) .nil)) (.cons (.ret (.X 4)) .nil)))⟩
noncomputable def ae6:Df:=⟨"counted",2,0,(.cons (.ret (.callC "folded" (.ex (.X 0) (.lam "counted.2" [1] (.lam "counted.1" [] (.lam "counted.0" [] .nil)))))) .nil)⟩
noncomputable def ad2:Lm:=⟨"counted.0",2,0,(.G .mul (.X 0) (.X 1))⟩
noncomputable def ad3:Lm:=⟨"counted.1",2,0,(.G .add (.X 0) (.X 1))⟩
noncomputable def ad1:Lm:=⟨"counted.2",1,1,(.X 1)⟩
noncomputable def ah7:Df:=⟨"weights",2,0,(.cons (.ret (.call "counted" (.ex (.call "as_times" (.ex (.X 1) (.ex (.K (.int 2)) .nil))) (.ex (.gl "LETTER_WEIGHT") .nil)))) .nil)⟩
noncomputable def ae4:Df:=⟨"unrolled",3,0,(.cons (.ret (.call "as_times" (.ex (.X 1) (.ex (.G .mul (.G .add (.X 2) (.K (.int 1))) (.call "rooms_of" (.ex (.X 0) .nil))) .nil)))) .nil)⟩
noncomputable def ah6:Df:=⟨"lengths",3,0,(.cons (.ret (.call "counted" (.ex (.call "unrolled" (.ex (.X 0) (.ex (.X 1) (.ex (.X 2) .nil)))) (.ex (.K (.int 1)) .nil)))) .nil)⟩
noncomputable def ai6:Df:=⟨"begun",1,0,(.cons (.ret (.slU (.X 0) (.G .add (.gl "MOST_WRITTEN") (.K (.int 1))))) .nil)⟩
noncomputable def ae2:Df:=⟨"begun_times",2,1,(.cons (.A (.Y 2) (.G .add (.G .fdiv (.gl "MOST_WRITTEN") (.bi .len (.cons (.X 0) .nil))) (.K (.int 1)))) (.cons (.ret (.call "begun" (.ex (.G .mul (.X 0) (.bi .min2 (.cons (.X 1) (.cons (.X 2) .nil)))) .nil))) .nil))⟩
noncomputable def ag8:Df:=⟨"last_word",1,1,(.cons (.A (.Y 1) (.ix (.callC "folded" (.ex (.X 0) (.lam "last_word.1" [] (.lam "last_word.0" [] (.ex (.gl "begun_times") .nil))))) (.neg (.K (.int 1))))) (.cons (.ite (.Z .gt (.bi .len (.cons (.X 1) .nil)) (.gl "MOST_WRITTEN")) (.cons .raise .nil) .nil) (.cons (.ret (.X 1)) .nil)))⟩
noncomputable def af7:Lm:=⟨"last_word.0",2,0,(.call "begun" (.ex (.G .add (.X 0) (.X 1)) .nil))⟩
noncomputable def af8:Lm:=⟨"last_word.1",1,0,(.X 0)⟩
noncomputable def ae1:Df:=⟨"word_unrolled",3,0,(.cons (.ret (.call "last_word" (.ex (.call "unrolled" (.ex (.X 0) (.ex (.X 1) (.ex (.X 2) .nil)))) .nil))) .nil)⟩
noncomputable def ah9:Df:=⟨"_law_tall",3,2,(.cons (.A (.Y 3) (.J (.cons (.tp (.cons (.K (.str [108,101,116,116,101,114])) (.cons (.ix (.K (.str [97,98,99])) (.call "_law_draw" (.ex (.X 0) (.ex (.X 1) .nil)))) .nil))) .nil))) (.cons (.fo (.Y 4) (.rg (.call "_law_draw" (.ex (.X 0) (.ex (.X 2) .nil)))) (.cons (.ex (.me .append (.X 3) (.cons (.tp (.cons (.K (.str [112,97,105,114])) (.cons (.X 4) (.cons (.G .sub (.X 4) (.call "_law_draw" (.ex (.X 0) (.ex (.G .add (.bi .min2 (.cons (.X 4) (.cons (.K (.int 1)) .nil))) (.K (.int 1))) .nil)))) .nil)))) .nil))) .nil)) (.cons (.ret (.mk .tuple (.seq (.X 3)))) .nil)))⟩
noncomputable def ad4:Df:=⟨"last_table",2,0,(.cons (.ret (.ix (.callC "folded" (.ex (.X 1) (.lam "last_table.0" [0] (.ex (.gl "product") (.ex (.gl "power") .nil))))) (.neg (.K (.int 1))))) .nil)⟩
noncomputable def ab9:Lm:=⟨"last_table.0",1,1,(.call "letter_table" (.ex (.X 1) (.ex (.X 0) .nil)))⟩
noncomputable def ac8:Df:=⟨"table_unrolled",3,0,(.cons (.ret (.call "last_table" (.ex (.X 0) (.ex (.call "unrolled" (.ex (.X 0) (.ex (.X 1) (.ex (.X 2) .nil)))) .nil)))) .nil)⟩
noncomputable def jh:Df:=⟨"_law_least",2,0,(.cons (.ite (.or (.isN (.X 0)) (.and (.notN (.X 1)) (.Z .lt (.X 1) (.X 0)))) (.cons (.ret (.X 1)) .nil) .nil) (.cons (.ret (.X 0)) .nil))⟩
noncomputable def jF:Df:=⟨"_law_power",2,1,(.cons (.A (.Y 2) (.K .N)) (.cons (.whl (.Z .gt (.X 1) (.K (.int 0))) (.cons (.ite (.Z .eq (.G .mod (.X 1) (.K (.int 2))) (.K (.int 1))) (.cons (.A (.Y 2) (.ite (.isN (.X 2)) (.X 0) (.call "_law_times" (.ex (.X 2) (.ex (.X 0) .nil))))) .nil) .nil) (.cons (.A (.Y 1) (.G .fdiv (.X 1) (.K (.int 2)))) (.cons (.ite (.Z .gt (.X 1) (.K (.int 0))) (.cons (.A (.Y 0) (.call "_law_times" (.ex (.X 0) (.ex (.X 0) .nil)))) .nil) .nil) .nil)))) (.cons (.ret (.X 2)) .nil)))⟩
noncomputable def qr:Df:=⟨"_law_letter_table",2,6,(.cons (.A (.Y 2) (.ix (.X 0) (.K (.int 1)))) (.cons (.A (.Y 3) (.mk .list (.comp (.Y 0) (.rg (.X 2)) (.mk .list (.comp (.Y 0) (.rg (.X 1)) (.K .N) [bY])) [bY,aT 2]))) (.cons (.fo (.tp [4,5,6,7]) (.seq (.ix (.X 0) (.K (.int 4)))) (.cons (.ite (.Z .eq (.X 5) (.X 1)) (.cons (.setIx (.ix (.X 3) (.X 4)) (.X 6) (.call "_law_least" (.ex (.ix (.ix (.X 3) (.X 4)) (.X 6)) (.ex (.X 7) .nil)))) .nil) .nil) .nil)) (.cons (.ret (.mk .tuple (.comp (.Y 0) (.seq (.X 3)) (.mk .tuple (.seq (.X 0))) [bY]))) .nil))))⟩
noncomputable def af2:Df:=⟨"is_times_step",2,0,(.cons (.ret (.and (.call "is_tuple_of" (.ex (.X 0) (.ex (.K (.int 3)) .nil))) (.and (.Z .eq (.ix (.X 0) (.K (.int 0))) (.K (.str [116,105,109,101,115]))) (.and (.call "is_ahead" (.ex (.ix (.X 0) (.K (.int 1))) (.ex (.X 1) .nil))) (.call "is_whole" (.ex (.ix (.X 0) (.K (.int 2))) (.ex (.K (.int 1)) (.ex (.G .pow (.K (.int 10)) (.K (.int 30))) .nil)))))))) .nil)⟩
noncomputable def ai2:Df:=⟨"is_step",2,0,(.cons (.ret (.or (.call "is_letter_step" (.ex (.X 0) (.ex (.bi .len (.cons (.gl "LETTERS") .nil)) .nil))) (.or (.call "is_pair_step" (.ex (.X 0) (.ex (.X 1) .nil))) (.call "is_times_step" (.ex (.X 0) (.ex (.X 1) .nil)))))) .nil)⟩
noncomputable def af6:Df:=⟨"long_length",1,0,(.cons (.ret (.ix (.call "counted" (.ex (.X 0) (.ex (.K (.int 1)) .nil))) (.neg (.K (.int 1))))) .nil)⟩
noncomputable def ag9:Df:=⟨"long_word",1,0,(.cons (.ret (.call "last_word" (.ex (.X 0) .nil))) .nil)⟩
noncomputable def af1:Df:=⟨"long_table",2,0,(.cons (.ret (.call "last_table" (.ex (.X 0) (.ex (.X 1) .nil)))) .nil)⟩
noncomputable def ac3:Df:=⟨"signs_of_pair",2,0,(.cons (.ret (.tp (.cons (.call "sign_product" (.ex (.ix (.X 0) (.K (.int 0))) (.ex (.ix (.X 1) (.K (.int 0))) .nil))) (.cons (.G .add (.ix (.X 0) (.K (.int 1))) (.ix (.X 1) (.K (.int 1)))) .nil)))) .nil)⟩
noncomputable def ac7:Df:=⟨"signs_of_times",3,5,(.cons (.A (.Y 3) (.ix (.X 0) (.K (.int 0)))) (.cons (.A (.Y 4) (.ix (.X 0) (.K (.int 1)))) (.cons (.A (.Y 5) (.call "steady_power" (.ex (.X 3) .nil))) (.cons (.A (.Y 6) (.ix (.X 5) (.K (.int 0)))) (.cons (.A (.Y 7) (.G .mod (.X 1) (.X 6))) (.cons (.ite (.Z .lt (.G .fdiv (.X 1) (.X 6)) (.X 2)) (.cons (.ret (.tp (.cons (.call "sign_power" (.ex (.X 3) (.ex (.X 1) .nil))) (.cons (.G .mul (.X 1) (.X 4)) .nil)))) .nil) .nil) (.cons (.ret (.tp (.cons (.call "sign_product" (.ex (.call "sharpened" (.ex (.ix (.X 5) (.K (.int 1))) .nil)) (.ex (.call "sign_power" (.ex (.X 3) (.ex (.X 7) .nil))) .nil))) (.cons (.G .mul (.G .add (.G .mul (.K (.int 2)) (.X 6)) (.X 7)) (.X 4)) .nil)))) .nil)))))))⟩
noncomputable def ag6:Df:=⟨"long_signs",3,1,(.cons (.A (.Y 3) (.G .mul (.G .add (.X 2) (.K (.int 1))) (.call "rooms_of" (.ex (.X 0) .nil)))) (.cons (.ret (.ix (.callC "folded" (.ex (.X 1) (.lam "long_signs.1" [0] (.ex (.gl "signs_of_pair") (.lam "long_signs.0" [3] .nil))))) (.neg (.K (.int 1))))) .nil))⟩
noncomputable def ag1:Lm:=⟨"long_signs.0",2,1,(.call "signs_of_times" (.ex (.X 0) (.ex (.X 1) (.ex (.X 2) .nil))))⟩
noncomputable def ag2:Lm:=⟨"long_signs.1",1,1,(.tp (.cons (.call "word_signs" (.ex (.X 1) (.ex (.X 0) .nil))) (.cons (.gl "LETTER_WEIGHT") .nil)))⟩
noncomputable def af9:Df:=⟨"signs_made",2,2,(.cons (.ite (.or (.not (.bi .isTup (.cons (.X 1) .nil))) (.not (.chain .le .le (.K (.int 1)) (.bi .len (.cons (.X 1) .nil)) (.gl "MOST_STEPS_makings")))) (.cons .raise .nil) .nil) (.cons (.A (.Y 2) (.J .nil)) (.cons (.fo (.Y 3) (.seq (.X 1)) (.cons (.ex (.me .append (.X 2) (.cons (.call "signs_of_step" (.ex (.X 0) (.ex (.X 3) (.ex (.X 2) .nil)))) .nil))) .nil)) (.cons (.ret (.X 2)) .nil))))⟩
noncomputable def ag7:Df:=⟨"is_recipe",1,0,(.cons (.ite (.or (.not (.bi .isTup (.cons (.X 0) .nil))) (.not (.chain .le .le (.K (.int 1)) (.bi .len (.cons (.X 0) .nil)) (.gl "MOST_STEPS_longwords")))) (.cons (.ret (.K (.T dt))) .nil) .nil) (.cons (.ret (.mk .all (.comp (.tp [0,1]) (.enum (.seq (.X 0))) (.call "is_step" (.ex (.X 1) (.ex (.X 0) .nil))) [bY,bY]))) .nil))⟩
noncomputable def aj9:Df:=⟨"_law_led",2,0,(.cons (.ret (.mk .tuple (.comp (.Y 0) (.seq (.X 0)) (.ite (.Z .ne (.ix (.X 0) (.K (.int 0))) (.K (.str [115,104,97,114,112]))) (.X 0) (.tp (.cons (.K (.str [116,105,109,101,115])) (.cons (.ix (.X 0) (.K (.int 1))) (.cons (.X 1) .nil))))) [bY,aT 1]))) .nil)⟩
noncomputable def ah8:Df:=⟨"law",1,8,(.cons (.fo (.Y 1) (.rg (.G .add (.bi .min2 (.cons (.K (.int 2)) (.cons (.bi .len (.cons (.X 0) .nil)) .nil))) (.K (.int 1)))) (.cons (.A (.Y 2) (.call "_law_box" (.ex (.X 0) (.ex (.X 1) .nil)))) (.cons (.A (.Y 3) (.call "_law_machine" (.ex (.X 2) .nil))) (.cons (.A (.Y 4) (.ix (.call "_law_makings" (.ex (.X 2) (.ex (.X 3) (.ex (.K (.int 10)) (.ex (.K (.int 4)) .nil))))) (.K (.int 0)))) (.cons (.ite (.Z .eq (.call "_law_draw" (.ex (.X 2) (.ex (.K (.int 8)) .nil))) (.K (.int 3))) (.cons (.A (.Y 4) (.call "_law_tall" (.ex (.X 2) (.ex (.ix (.X 3) (.K (.int 0))) (.ex (.K (.int 60)) .nil))))) .nil) .nil) (.cons (.A (.Y 5) (.call "_law_draw" (.ex (.X 2) (.ex (.G .pow (.K (.int 10)) (.K (.int 29))) .nil)))) (.cons (.ite (.or (.Z .gt (.X 1) (.K (.int 0))) (.Z .gt (.ix (.X 3) (.K (.int 1))) (.K (.int 3)))) (.cons (.A (.Y 5) (.G .mod (.X 5) (.K (.int 1000)))) .nil) .nil) (.cons (.fo (.Y 6) (.seq (.J (.cons (.call "_law_draw" (.ex (.X 2) (.ex (.K (.int 4)) .nil))) (.cons (.X 5) .nil)))) (.cons (.A (.Y 7) (.call "_law_led" (.ex (.X 4) (.ex (.G .mul (.G .add (.X 6) (.K (.int 1))) (.ix (.X 3) (.K (.int 1)))) .nil)))) (.cons (.ite (.notB (.call "is_recipe" (.ex (.X 7) .nil)) cn) (.cons (.ret (.K (.T dt))) .nil) .nil) (.cons (.A (.Y 8) (.call "long_length" (.ex (.X 7) .nil))) (.cons (.ite (.Z .ne (.X 8) (.ix (.call "lengths" (.ex (.X 3) (.ex (.X 4) (.ex (.X 6) .nil)))) (.neg (.K (.int 1))))) (.cons (.ret (.K (.T dt))) .nil) .nil) (.cons (.ite (.Z .ne (.call "long_table" (.ex (.X 3) (.ex (.X 7) .nil))) (.call "table_unrolled" (.ex (.X 3) (.ex (.X 4) (.ex (.X 6) .nil))))) (.cons (.ret (.K (.T dt))) .nil) .nil) (.cons (.ite (.and (.Z .le (.X 8) (.K (.int 2000))) (.Z .ne (.call "long_word" (.ex (.X 7) .nil)) (.call "word_unrolled" (.ex (.X 3) (.ex (.X 4) (.ex (.X 6) .nil)))))) (.cons (.ret (.K (.T dt))) .nil) .nil) (.cons (.ite (.Z .ne (.call "long_signs" (.ex (.X 3) (.ex (.X 7) (.ex (.X 6) .nil)))) (.tp (.cons (.ix (.call "signs_made" (.ex (.X 3) (.ex (.X 4) .nil))) (.neg (.K (.int 1)))) (.cons (.ix (.call "weights" (.ex (.X 3) (.ex (.X 4) .nil))) (.neg (.K (.int 1)))) .nil)))) (.cons (.ret (.K (.T dt))) .nil) .nil) .nil)))))))) .nil)))))))) (.cons (.ret (.K (.T cn))) .nil))⟩
noncomputable def cA8:Df:=⟨"_law_on",3,5,(.cons (.A (.Y 3) (.mk .list (.comp (.Y 0) (.seq (.X 2)) (.K .N) [bY]))) (.cons (.fo (.tp [4,5,6,7]) (.seq (.ix (.X 0) (.K (.int 4)))) (.cons (.ite (.and (.Z .eq (.X 5) (.X 1)) (.notN (.ix (.X 2) (.X 4)))) (.cons (.ite (.or (.isN (.ix (.X 3) (.X 6))) (.Z .lt (.G .add (.ix (.X 2) (.X 4)) (.X 7)) (.ix (.X 3) (.X 6)))) (.cons (.setIx (.X 3) (.X 6) (.G .add (.ix (.X 2) (.X 4)) (.X 7))) .nil) .nil) .nil) .nil) .nil)) (.cons (.ret (.X 3)) .nil)))⟩
class Has (P:Pr)(d:Df):Prop where
 eq:P.df d.name=aT d
class HasL (P:Pr)(d:Lm):Prop where
 eq:P.lm d.id=aT d
class HasC (P:Pr)(x:String)(v:D):Prop where
 eq:P.con x=aT v
set_option tactic.hygienic true in
def fin (s:Sto)(c:Ct)(s':Sto):R D:=match c with
 | .ret v=>zY s v s'
 | .next _=>zY s .N s'
 | _=>.B
@[simp] theorem zJ  s   v   s' :fin s (.ret v) s'=zY s v s':=rfl
set_option tactic.hygienic true in
@[simp] theorem fin_next  s   U   s' :fin s (.next U) s'=zY s .N s':=rfl
def zb  d [h:Has P d](hl:l.length=d.ps) :
  (aa0 P (n+1)).call d.name l s=(exs (aa0 P n) d.body (l.map aT++ak d.vs bY) s).bind (fin s):=by
 simp only[aa0,h.eq,hl];rfl
def qe  d [h:HasL P d](hl:l.length=d.ps)(hc:cs.length=d.cs)(hn:(D.nclL l&&D.nclL cs&&s.all O.ncl)=cn) :
  (aa0 P (n+1)).lam d.id cs l s=(ev (aa0 P n) d.body (l.map aT++cs.map aT) s).bind (zY s):=by
 simp only[aa0,h.eq,hl,hc,hn,and_self,if_true]
def aD8 [h:HasC P x v]:(aa0 P n).con x=aT v:=by
 cases n<;>exact h.eq
def aI1  s t :az2 s (s++t)=true:=by
 unfold az2;rw[aU];intro i h;rw[aX]at h;rw[ax h];simp
def ax7  s t  r  o (h:o.bnd s.length=cn):az2 s (s.set r o++t)=true:=by
 unfold az2;rw[aU];intro i y;rw[aX]at y;rw[ax (by rw[bE];exact y)];by_cases e:r=i
 .subst e;rw[a7 y];simp[h]
 .rw[bq e];simp
def zT (h:∀ n,d.bnd n=cn)(y:∀ r,d≠.ref r):zY s d (s++t)=.ok d s:=by
 unfold zY;rw[aI1,gc rfl]
 simp_all
def zn (h:∀ n,d.bnd n=cn)(y:∀ r,d≠.ref r):zY s d s=.ok d s:=by
 have:=zT (s:=s) (t:=[]) h y
 rwa [bu]at this
def av7 (h:∀ n,d.bnd n=cn)(y:∀ r,d≠.ref r)(ho:o.bnd s.length=cn):zY s d (s.set r o++t)=.ok d (s.set r o):=by
 unfold zY;rw[ax7 s t r o ho,gc rfl]
 simp_all
def bd7 (h:∀ n,d.bnd n=cn)(y:∀ r,d≠.ref r)(ho:o.bnd s.length=cn):zY s d (s.set r o)=.ok d (s.set r o):=by
 have:=av7 (t:=[]) (r:=r) h y ho
 rwa [bu]at this
def au0 {  u:Sto}(ho:o.bnd s.length=cn):zY s (.ref (s.length+t.length)) (s++(t++o::u))=.ok (.ref s.length) (s++[o]):=by
 unfold zY;rw[aI1,gc rfl]
 simp_all
@[simp] theorem zM :zY s (.int i) s=.ok (.int i) s:=zn (λ _=>rfl) (by nofun)
@[simp] theorem zS :zY s (.T i) s=.ok (.T i) s:=zn (λ _=>rfl) (by nofun)
@[simp] theorem aw8 :zY s .N s=.ok .N s:=zn (λ _=>rfl) (by nofun)
@[simp] theorem cl9 :zY s (.str x) s=.ok (.str x) s:=zn (λ _=>rfl) (by nofun)
set_option tactic.hygienic true in
theorem jH :∀ {n} {U} {s},al3 c g n U s≠.B->al3 c g (n+1) U s=al3 c g n U s
 | 0,_,_,h=>iF rfl h
 | n+1,U,s,h=>by
  rw[show al3 c g (n+1+1) U s=tru (c U s) (λ b s=>if b then(g U s).bind λ y s=>match y with
   | .next U=>al3 c g (n+1) U s|.cont U=>al3 c g (n+1) U s|.brk U=>.ok (.next U) s|.ret d=>.ok (.ret d) s else .ok (.next U) s)from rfl]
  have e:al3 c g (n+1) U s=tru (c U s) (λ b s=>if b then(g U s).bind λ y s=>match y with
   | .next U=>al3 c g n U s|.cont U=>al3 c g n U s|.brk U=>.ok (.next U) s|.ret d=>.ok (.ret d) s else .ok (.next U) s):=rfl
  rw[e]at h ⊢;unfold tru at h ⊢;cases hc:c U s with
  | exc _ _=>rfl
  | B=>rfl
  | ok d s1 =>
   rw[hc]at h;cases d with
   | T b =>
    cases b with
    | false=>rfl
    | true =>
     simp only[R.bind_ok]at h ⊢;cases hg:g U s1 with
     | exc _ _=>rfl
     | B=>rfl
     | ok y s2 =>
      rw[hg]at h;simp only[R.bind_ok]at h ⊢;cases y with
      | next U'=>exact jH h
      | cont U'=>exact jH h
      | _=>rfl
   | _=>rfl
theorem jf (h:al3 c g n U s≠.B):∀ k,al3 c g (n+k) U s=al3 c g n U s
 | 0=>rfl
 | k+1=>by
  have e:=jf h k;rw[<-Nat.add_assoc,jH (by rw[e];exact h),e]
def cm3 (h:al3 c g n U s=.ok r t):whl c g U s=.ok r t:=by
 have hb:al3 c g n U s≠.B:=by lia
 have hx:∃ n,al3 c g n U s≠.B:=⟨n,hb⟩
 unfold whl;rw[dif_pos hx];have y:=jf hx.choose_spec n;have G:=jf hb hx.choose;rw[<-y,gY,G,h]
set_option tactic.hygienic true in
def bC6 (hc:c U s=.ok (.T cn) s1)(h:g U s1=.ok (.next U') s'):whl c g U s=whl c g U' s':=by
 have key:∀ n,al3 c g (n+1) U s=al3 c g n U' s':=λ n=>by
  show tru (c U s) _=_
  simp_all
 unfold whl;by_cases hx:∃ n,al3 c g n U' s'≠.B
 .have hy:∃ n,al3 c g n U s≠.B:=⟨hx.choose+1,by rw[key];exact hx.choose_spec⟩
  rw[dif_pos hx,dif_pos hy];have y:=jf hy.choose_spec (hx.choose+1);have G:=jf (by rw[key];exact hx.choose_spec) hy.choose;rw[<-y,gY,G,key]
 .have hy:¬ ∃ n,al3 c g n U s≠.B:=λ⟨n,hn⟩=>by
   cases n with
   | zero=>exact hn rfl
   | succ n=>exact hx ⟨n,by rw[<-key];exact hn⟩
  rw[dif_neg hx,dif_neg hy]
set_option tactic.hygienic true in
def bV2 (hc:c U s=.ok (.T dt) s1):whl c g U s=.ok (.next U) s1 :=
 cm3 (n:=1) (by show tru (c U s) _=_;rw[hc,zD];rfl)
def aD5  s0 s :chk s0 s []=true:=rfl
set_option tactic.hygienic true in
theorem an9 (P:Nat->Env->Sto->Prop):∀ l   k   U   s ,
  P k U s->(∀ j   U   s ,j<=l.length->P (k+j) U s->ok s=cn)->(∀ j   d   U   s ,l[j]?=aT d->P (k+j) U s->∃ U' s',(g d U s=.ok (.next U') s'\/g d U s=.ok (.cont U') s')/\P (k+j+1) U' s') ->
  ∃ U' s',bo2 ok g l U s=.ok (.next U') s'/\P (k+l.length) U' s'
 | [],k,U,s,h,o,_=>⟨U,s,by show(if ok s then _ else _)=_;rw[gc (o 0 U s (ai _) h)],h⟩
 | d::l,k,U,s,h,o,t=>by
  have ho:=o 0 U s (dW _) h;refine wl λ _ kk=>?_;obtain⟨U1,s1,y,G⟩:=t 0 d U s rfl h;obtain⟨U2,s2,e,Y⟩:=an9 P l (k+1) U1 s1 G (λ j U' s' hj J=>o (j+1) U' s' (by simp_all) (by grind)) λ j d' U' s' hj J=>by
   have:=t (j+1) d' U' s' (by simp_all) (by grind)
   rwa [show k+(j+1)+1=k+1+j+1 by lia]at this
  refine kk ⟨U2,s2,?_,by grind⟩;show(if ok s then _ else _)=_;rw[gc ho];rcases y with y|y<;>(simp_all)
set_option tactic.hygienic true in
noncomputable def Nx (Q:Env->Sto->Prop):R Ct->Prop
 | .ok (.next U) s=>Q U s
 | .ok (.cont U) s=>Q U s
 | _=>False
set_option tactic.hygienic true in
@[simp] theorem bp4  Q   U   s :Nx Q (.ok (.next U) s)=Q U s:=rfl
@[simp] theorem cw7  Q   U   s :Nx Q (.ok (.cont U) s)=Q U s:=rfl
set_option tactic.hygienic true in
def az0 (e:r=.ok (.next U) s)(h:Q U s):Nx Q r:=by simp_all
set_option tactic.hygienic true in
def Nx.out :∀ {r},Nx Q r->∃ U s,(r=.ok (.next U) s\/r=.ok (.cont U) s)/\Q U s
 | .ok (.next U) s,h=>⟨U,s,.inl rfl,h⟩
 | .ok (.cont U) s,h=>⟨U,s,.inr rfl,h⟩
 | .ok (.ret _) _,h=>h.elim
 | .ok (.brk _) _,h=>h.elim
 | .exc _ _,h=>h.elim
 | .B,h=>h.elim
noncomputable def Tst (A B:Sto->Prop):R D->Prop
 | .ok (.T dt) s=>A s
 | .ok (.T cn) s=>B s
 | _=>False
@[simp] theorem bh2  A B   b   s :Tst A B (.ok (.T b) s)=if b then B s else A s:=by cases b<;>rfl
def Tst.out :∀ {r},Tst A B r->(∃ s,r=.ok (.T dt) s/\A s)\/∃ s,r=.ok (.T cn) s/\B s
 | .ok (.T dt) s,h=>.inl ⟨s,rfl,h⟩
 | .ok (.T cn) s,h=>.inr ⟨s,rfl,h⟩
 | .ok .N _,h=>h.elim
 | .ok (.int _) _,h=>h.elim
 | .ok (.str _) _,h=>h.elim
 | .ok (.tp _) _,h=>h.elim
 | .ok (.ref _) _,h=>h.elim
 | .ok (.fn _) _,h=>h.elim
 | .ok (.clo _ _) _,h=>h.elim
 | .exc _ _,h=>h.elim
 | .B,h=>h.elim
def bx6 (hc:c U s=.ok (.T cn) s1)(h:g U s1=.ok (.cont U') s'):whl c g U s=whl c g U' s':=by
 have key:∀ n,al3 c g (n+1) U s=al3 c g n U' s':=λ n=>by
  show tru (c U s) _=_
  simp_all
 unfold whl;by_cases hx:∃ n,al3 c g n U' s'≠.B
 .have hy:∃ n,al3 c g n U s≠.B:=⟨hx.choose+1,by rw[key];exact hx.choose_spec⟩
  rw[dif_pos hx,dif_pos hy];have y:=jf hy.choose_spec (hx.choose+1);have G:=jf (by rw[key];exact hx.choose_spec) hy.choose;rw[<-y,gY,G,key]
 .have hy:¬ ∃ n,al3 c g n U s≠.B:=λ⟨n,hn⟩=>by
   cases n with
   | zero=>exact hn rfl
   | succ n=>exact hx ⟨n,by rw[<-key];exact hn⟩
  rw[dif_neg hx,dif_neg hy]
set_option tactic.hygienic true in
def bX9 (P:Nat->Env->Sto->Prop)(Q:Env->Sto->Prop)
  (step:∀ k U s,P k U s->Tst (λ s1=>Q U s1) (λ s1=>Nx (λ U' s'=>∃ G,G<k/\P G U' s') (g U s1)) (c U s)) :
  ∀ k   U   s ,P k U s->∃ U' s',whl c g U s=.ok (.next U') s'/\Q U' s':=by
 intro k
 induction k using cR with
 | _ k ih =>
  intro U s h;rcases(step k U s h).out with⟨s1,hc,hq⟩|⟨s1,hc,hn⟩
  .exact⟨U,s1,bV2 hc,hq⟩
  .obtain⟨U',s',y,G,hk,J⟩:=hn.out;rcases y with y|y
   .rw[bC6 hc y];exact ih G hk U' s' J
   .rw[bx6 hc y];exact ih G hk U' s' J
set_option tactic.hygienic true in
def bz2 {Ww:R α->Prop}(P:Nat->Env->Sto->Prop)(Q:Env->Sto->Prop) k (h:P k U s)
  (step:∀ k U s,P k U s->Tst (λ s1=>Q U s1) (λ s1=>Nx (λ U' s'=>∃ y,y<k/\P y U' s') (g U s1)) (c U s))
  (G:∀ U' s',Q U' s'->Ww (f (.next U') s')):Ww ((whl c g U s).bind f):=by
 obtain⟨U',s',e,q⟩:=bX9 P Q step k U s h;rw[e];exact G U' s' q
set_option tactic.hygienic true in
def aE4 {x:R α}(P:Nat->Env->Sto->Prop)(Q:Env->Sto->Prop) k (h:P k U s)
  (step:∀ k U s,P k U s->Tst (λ s1=>Q U s1) (λ s1=>Nx (λ U' s'=>∃ y,y<k/\P y U' s') (g U s1)) (c U s))
  (G:∀ U' s',Q U' s'->f (.next U') s'=x):(whl c g U s).bind f=x:=bz2 (Ww:=(·=x)) P Q k h step G
set_option tactic.hygienic true in
def jl {Ww:R α->Prop}(P:Nat->Env->Sto->Prop)(h:P 0 U s)
  (o:∀(j:Nat) (U:Env) (s:Sto),j<=l.length->P j U s->ok s=cn) (step:∀(j:Nat) (d:D) (U:Env) (s:Sto),l[j]?=aT d->P j U s->Nx (P (j+1)) (g d U s))
  (G:∀ U' s',P l.length U' s'->Ww (f (.next U') s')):Ww ((bo2 ok g l U s).bind f):=by
 obtain⟨U',s',e,q⟩:=an9 P l 0 U s h (λ j U s hj y=>o j U s hj (by simp_all)) (λ j d U s hj y=>by
  rw[bB]at y ⊢;exact(step j d U s hj y).out)
 simp_all
set_option tactic.hygienic true in
def jC {x:R α}(P:Nat->Env->Sto->Prop)(h:P 0 U s)
  (o:∀(j:Nat) (U:Env) (s:Sto),j<=l.length->P j U s->ok s=cn) (step:∀(j:Nat) (d:D) (U:Env) (s:Sto),l[j]?=aT d->P j U s->Nx (P (j+1)) (g d U s))
  (y:∀ U' s',P l.length U' s'->f (.next U') s'=x):(bo2 ok g l U s).bind f=x:=jl (Ww:=(·=x)) P h o step y
section
variable {F:Fns} {U:Env} {s:Sto}
@[simp] theorem zd  i :ev F (.X i) U s=bb2 U i s:=rfl
@[simp] theorem zw  c :ev F (.K c) U s=.ok c.d s:=rfl
@[simp] theorem qg  op   a b :ev F (.G op a b) U s=(ev F a U s).bind λ x s=>(ev F b U s).bind λ y s=>qZ op x y s:=rfl
@[simp] theorem ev_not  a :ev F (.not a) U s=tru (ev F a U s) λ b s=>.ok (.T (!b)) s:=rfl
@[simp] theorem zK  op   a b :ev F (.Z op a b) U s=(ev F a U s).bind λ x s=>(ev F b U s).bind λ y s=>qp op x y s:=rfl
@[simp] theorem as9  o p   a b c :ev F (.chain o p a b c) U s=(ev F a U s).bind λ x s=>(ev F b U s).bind λ y s=>tru (qp o x y s) λ k s=>if k then(ev F c U s).bind λ z s=>qp p y z s else .ok (.T dt) s:=rfl
@[simp] theorem ev_isN  a :ev F (.isN a) U s=(ev F a U s).bind λ x s=>.ok (.T (decide (x=.N))) s:=rfl
@[simp] theorem ev_notN  a :ev F (.notN a) U s=(ev F a U s).bind λ x s=>.ok (.T (!decide (x=.N))) s:=rfl
@[simp] theorem ev_and  a b :ev F (.and a b) U s=tru (ev F a U s) λ c s=>if c then tru (ev F b U s) λ c s=>.ok (.T c) s else .ok (.T dt) s:=rfl
@[simp] theorem ev_or  a b :ev F (.or a b) U s=tru (ev F a U s) λ c s=>if c then .ok (.T cn) s else tru (ev F b U s) λ c s=>.ok (.T c) s:=rfl
@[simp] theorem jY  c a b :ev F (.ite c a b) U s=tru (ev F c U s) λ k s=>if k then ev F a U s else ev F b U s:=rfl
@[simp] theorem jE  es :ev F (.tp es) U s=(evs F es U s).bind λ l s=>.ok (.tp l) s:=rfl
@[simp] theorem ev_lst  es :ev F (.J es) U s=(evs F es U s).bind λ l s=>ak7 (.J l) s:=rfl
@[simp] theorem qa  a b :ev F (.ix a b) U s=(ev F a U s).bind λ x s=>(ev F b U s).bind λ y s=>ixM x y s:=rfl
@[simp] theorem zR  f   h :ev F (.call f h) U s=(ay2 F h U s).bind λ l s=>F.call f l s:=rfl
@[simp] theorem qt  f   h :ev F (.callC f h) U s=(ay2 F h U s).bind λ l s=>(F.call f l s).bind λ d s'=>if(d.ncl&&s'.all O.ncl)=cn then .ok d s' else .B:=rfl
@[simp] theorem ev_bi  b   es :ev F (.bi b es) U s=(evs F es U s).bind λ l s=>bi b l s:=rfl
@[simp] theorem ev_mk  k   it :ev F (.mk k it) U s=(evL F it U s).bind λ q s=>mk k q s:=rfl
@[simp] theorem ev_mkD  k   it   d :ev F (.mkD k it d) U s=(evL F it U s).bind λ q s=>(ev F d U s).bind λ d s=>mkD k q d s:=rfl
@[simp] theorem zB :mkq x s s r=r:=gc rfl
def bt8 (h:s[a]?=aT (.J l))(g:t[a]?=aT (.J m)):mkq (.ref a) s t r=r:=gc (show s[a]?.map O.kd=t[a]?.map O.kd by rw[h,g];rfl)
@[simp] theorem qd  m   o   es :ev F (.me m o es) U s=(ev F o U s).bind λ x s=>(evs F es U s).bind λ l t=>mkq x s t (meth m x l t):=rfl
@[simp] theorem zq:evs F .nil U s=.ok [] s:=rfl
@[simp] theorem zo  e   es :evs F (.cons e es) U s=(ev F e U s).bind λ d s=>(evs F es U s).bind λ l s=>.ok (d::l) s:=rfl
@[simp] theorem zz:ay2 F .nil U s=.ok [] s:=rfl
@[simp] theorem zE  e   h :ay2 F (.ex e h) U s=(ev F e U s).bind λ d s=>(ay2 F h U s).bind λ l s=>.ok (d::l) s:=rfl
@[simp] theorem cw1  f   h :ay2 F (.fn f h) U s=(ay2 F h U s).bind λ l s=>.ok (.fn f::l) s:=rfl
@[simp] theorem evI_seq  e :evI F (.seq e) U s=(ev F e U s).bind λ d s=>ay0 d s:=rfl
@[simp] theorem co4  es :evL F (.disp es) U s=evs F es U s:=rfl
@[simp] theorem evL_seq  e :evL F (.seq e) U s=(ev F e U s).bind λ d s=>bf1 d s:=rfl
def bJ7 (x:D):M Sq:=λ s=>match x with|.int i=>if -Ww62<=i/\i<Ww62 then .ok ⟨j4 0 i,[]⟩ s else .B|_=>.B
@[simp] theorem qC  a :evI F (.rg a) U s=(ev F a U s).bind λ x s=>bJ7 x s:=rfl
def z6 (h0:-Ww62<=i)(h:i<Ww62):bJ7 (.int i) s=.ok ⟨j4 0 i,[]⟩ s:=by unfold bJ7;simp only[h0,h,and_self,if_true]
set_option tactic.hygienic true in
def nxt (F:Fns)(ss:Ss)(c:Ct)(s:Sto):R Ct:=match c with|.next U=>exs F ss U s|c=>.ok c s
set_option tactic.hygienic true in
@[simp] theorem zm  h   U   s :nxt F h (.next U) s=exs F h U s:=rfl
@[simp] theorem zI  h   d   s :nxt F h (.ret d) s=.ok (.ret d) s:=rfl
@[simp] theorem nxt_cont  h   U   s :nxt F h (.cont U) s=.ok (.cont U) s:=rfl
set_option tactic.hygienic true in
@[simp] theorem zl:exs F .nil U s=.ok (.next U) s:=rfl
@[simp] theorem za  st   h :exs F (.cons st h) U s=(ex F st U s).bind (nxt F h):=rfl
set_option tactic.hygienic true in
noncomputable def cq5 (U:Option Env)(s:Sto):R Ct:=match U with|some U=>.ok (.next U) s|none=>.B
set_option tactic.hygienic true in
@[simp] theorem zt  U   s :cq5 (aT U) s=.ok (.next U) s:=rfl
@[simp] theorem zW  tg   e :ex F (.A tg e) U s=(ev F e U s).bind λ d s=>cq5 (ai5 U tg d) s:=rfl
set_option tactic.hygienic true in
@[simp] theorem ex_setIx  o i e :ex F (.setIx o i e) U s=(ev F e U s).bind λ d s=>(ev F o U s).bind λ x s=>(ev F i U s).bind λ y s=>(setIx x y d s).bind λ _ s=>.ok (.next U) s:=rfl
set_option tactic.hygienic true in
@[simp] theorem jD  e :ex F (.ex e) U s=(ev F e U s).bind λ _ s=>.ok (.next U) s:=rfl
@[simp] theorem zX  e :ex F (.ret e) U s=(ev F e U s).bind λ d s=>.ok (.ret d) s:=rfl
@[simp] theorem z5  c   a b :ex F (.ite c a b) U s=tru (ev F c U s) λ k s=>if k then exs F a U s else exs F b U s:=rfl
@[simp] theorem ex_whl  c   b :ex F (.whl c b) U s=whl (ev F c) (exs F b) U s:=rfl
def turn (F:Fns)(tg:Tg)(b:Ss)(d:D)(U:Env)(s:Sto):R Ct:=match ai5 U tg d with
 | some U=>exs F b U s
 | none=>.B
@[simp] theorem ex_for  tg   it   b :ex F (.fo tg it b) U s=(evI F it U s).bind λ q s0=>bo2 (λ s=>chk s0 s q.src) (turn F tg b) q.its U s0:=rfl
@[simp] theorem ex_und  i :ex F (.und i) U s=cq5 (am9 U i) s:=rfl
@[simp] theorem zg  i   d :ai5 U (.Y i) d=aA5 U i d:=rfl
@[simp] theorem bindT_tup  is   l :ai5 U (.tp is) (.tp l)=aw7 U is l:=rfl
@[simp] theorem setVs_nil:aw7 U [] []=aT U:=rfl
@[simp] theorem setVs_cons  i   is   d   l :aw7 U (i::is) (d::l)=(aA5 U i d).bind λ U=>aw7 U is l:=rfl
@[simp] theorem ze  d  (U:Env):bb2 (aT d::U) 0 s=.ok d s:=rfl
@[simp] theorem zh  x  (U:Env)  i :bb2 (x::U) (i+1) s=bb2 U i s:=by unfold bb2;rw[gH]
@[simp] theorem zx  d   x  (U:Env):aA5 (x::U) 0 d=aT (aT d::U):=rfl
@[simp] theorem zC  d   x  (U:Env)  i :aA5 (x::U) (i+1) d=(aA5 U i d).map (x::·):=by
 unfold aA5;by_cases h:i < U.length
 .rw[gc (by simpa using h),gc h];rfl
 .rw[gn (by simpa using h),gn h];rfl
@[simp] theorem unsetV_0  x  (U:Env):am9 (x::U) 0=aT (bY::U):=rfl
@[simp] theorem unsetV_s  x  (U:Env)  i :am9 (x::U) (i+1)=(am9 U i).map (x::·):=by
 unfold am9;by_cases h:i < U.length
 .rw[gc (by simpa using h),gc h];rfl
 .rw[gn (by simpa using h),gn h];rfl
@[simp] theorem zy  i :(Cn.int i).d=.int i:=rfl
@[simp] theorem Cn_bl  i :(Cn.T i).d=.T i:=rfl
@[simp] theorem qk  i :(Cn.str i).d=.str i:=rfl
@[simp] theorem Cn_non:Cn.N.d=.N:=rfl
@[simp] theorem add_int  a b :qZ .add (.int a) (.int b) s=.ok (.int (a+b)) s:=rfl
@[simp] theorem sub_int  a b :qZ .sub (.int a) (.int b) s=.ok (.int (a - b)) s:=rfl
def ah2 (h:mulOk a b=cn):qZ .mul (.int a) (.int b) s=.ok (.int (a*b)) s:=by show(if mulOk a b then _ else _:M D) s=_;rw[gc h];rfl
def j7 (h:a.natAbs<2^64):mulOk a b=true:=by unfold mulOk;simp[h]
def an7 (h:b.natAbs<2^64):mulOk a b=true:=by unfold mulOk;simp[h]
def jw (h:0<b):qZ .mod (.int a) (.int b) s=.ok (.int (a % b)) s:=by show(if 0<b then _ else _:M D) s=_;rw[gc h];rfl
def bP4:(10)^200<=(DIVL:Int):=by unfold DIVL;decide +kernel
def jW (h:0<b)(y:b<10^200):qZ .fdiv (.int a) (.int b) s=.ok (.int (a / b)) s:=by show(if 0<b/\b<(DIVL)then _ else _:M D) s=_;rw[gc ⟨h,Int.lt_of_lt_of_le y bP4⟩];rfl
def aG0 (h:0<=b/\b<=1000000/\a.natAbs<2^64):qZ .pow (.int a) (.int b) s=.ok (.int (a^b.toNat)) s:=by show(if _ then _ else _:M D) s=_;rw[gc h];rfl
@[simp] theorem lt_int  a b :qp .lt (.int a) (.int b) s=.ok (.T (decide (a<b))) s:=rfl
@[simp] theorem le_int  a b :qp .le (.int a) (.int b) s=.ok (.T (decide (a<=b))) s:=rfl
@[simp] theorem gt_int  a b :qp .gt (.int a) (.int b) s=.ok (.T (decide (b<a))) s:=rfl
@[simp] theorem ge_int  a b :qp .ge (.int a) (.int b) s=.ok (.T (decide (b<=a))) s:=rfl
@[simp] theorem jZ  a b :qp .eq (.int a) (.int b) s=.ok (.T (decide (a=b))) s:=rfl
@[simp] theorem ne_int  a b :qp .ne (.int a) (.int b) s=.ok (.T (!decide (a=b))) s:=rfl
@[simp] theorem qD  o :ak7 o s=.ok (.ref s.length) (s++[o]):=rfl
@[simp] theorem at1  l :bi .len [.tp l] s=.ok (.int l.length) s:=rfl
@[simp] theorem aO3  l :bi .len [.str l] s=.ok (.int l.length) s:=rfl
def bo4 (h:s[r]?=aT (.J l)):bi .len [.ref r] s=.ok (.int l.length) s:=by simp only[bi,bi1,cf3,h]
def bI8 (h:s[r]?=aT (.ro l)):bi .len [.ref r] s=.ok (.int l.length) s:=by simp only[bi,bi1,cf3,h]
@[simp] theorem cu8  i :bi .abs [.int i] s=.ok (.int (if i<0 then -i else i)) s:=rfl
@[simp] theorem jR  a b :bi .min2 [.int a,.int b] s=.ok (.int (if b<a then b else a)) s:=rfl
@[simp] theorem bB1  a b :bi .max2 [.int a,.int b] s=.ok (.int (if b > a then b else a)) s:=rfl
@[simp] theorem aJ8  a :bi .isInt [.int a] s=.ok (.T cn) s:=rfl
@[simp] theorem aB8  a :bi .isBool [.int a] s=.ok (.T dt) s:=rfl
@[simp] theorem at2  l :bi .isTup [.tp l] s=.ok (.T cn) s:=rfl
def cp6 {j:Nat}(h:s[r]?=aT (.ro l))(hj:l[j]?=aT d):ixM (.ref r) (.int (j)) s=.ok d s:=by
 have hl:=(ab.mp hj).1;have e:=(ab.mp hj).2;simp[ixM,h,ixn,hl,e]
def qz {j:Nat}(h:s[r]?=aT (.J l))(hj:l[j]?=aT d):ixM (.ref r) (.int (j)) s=.ok d s:=by
 have hl:=(ab.mp hj).1;have e:=(ab.mp hj).2;simp[ixM,h,ixn,hl,e]
def ix_tup {j:Nat}(hj:l[j]?=aT d):ixM (.tp l) (.int (j)) s=.ok d s:=by
 have hl:=(ab.mp hj).1;have e:=(ab.mp hj).2;simp[ixM,ixn,hl,e]
def bV0 {j:Nat}(h:s[r]?=aT (.J l))(hl:j<l.length):setIx (.ref r) (.int (j)) v s=.ok () (s.set r (.J (l.set j v))):=by
 simp[setIx,h,ixn,hl]
def qH (h:s[r]?=aT (.J l))(hl:l.length<LIM):meth .append (.ref r) [v] s=.ok .N (s.set r (.J (l++[v]))):=by
 show(match s[r]? with|some (.J l)=>(if l.length<LIM then R.ok D.N (s.set r (.J (l++[v])))else .B)|_=>.B)=_;rw[h];exact gc hl
end
def aQ9  s t  b :∃ s',zY s (.T b) t=.ok (.T b) s':=by
 unfold zY;by_cases h:az2 s t=cn
 .rw[gc h];exact⟨_,rfl⟩
 .rw[gn h];exact⟨_,rfl⟩
def Yes (r:R D):Prop:=∃ s',r=.ok (.T cn) s'
def bm4  s t :Yes (zY s (.T cn) t):=aQ9 s t cn
def al5 {j:Nat}(h:(j4 a b)[j]?=aT d):(j)<b - a/\d=.int (a+j):=by
 have hj:=(ab.mp h).1;simp only[j4,ar,cc]at hj;unfold j4 at h
 simp_all
def cu1 (P:Pr)(k:Nat):Prop:=∀ ns:List Int,ns.length<=63->Yes ((aa0 P k).call "law" [.ref 0] [.ro (ns.map D.int)])
noncomputable def jk:Option Int->D
 | none=>.N
 | some i=>.int i
@[simp] theorem am3:jk bY=.N:=rfl
@[simp] theorem jN  i :jk (aT i)=.int i:=rfl
@[simp] theorem jx  p   n :(jk p).bnd n=true:=by cases p<;>rfl
def aE3  p  r :jk p≠.ref r:=by cases p<;>nofun
@[simp] theorem bd5 :zY s (jk p) s=.ok (jk p) s:=zn (jx p) (aE3 p)
noncomputable def cA7 (b:Nat×Nat):O:=.J [.int b.1,.int b.2]
@[simp] theorem co9  b   n :(cA7 b).bnd n=true:=rfl
noncomputable def tkW (many:Nat):Nat->Nat->Nat->Nat->Nat×Nat
 | 0,mix,num,_=>(num,mix)
 | n+1,mix,num,room=>if room<many then tkW many n ((mix*48271+7919) % 2147483647) (num*1073741789+(mix*48271+7919) % 2147483647 / 8*69621 % 1073741789) (room*1073741789)else(num,mix)
def tk (b:Nat×Nat)(many:Nat):Nat×(Nat×Nat) :=
 if 0<b.1 then(b.1 % many,(b.1 / many,b.2))else let r:=tkW many 12 b.2 0 1;(r.1 % many,(b.1,r.2))
def bV8 { t:Sto}(h:r<s.length):(s++t).set r o=s.set r o++t:=by simp_all
def jJ { t:Sto}{r:Nat}(h:s[r]?=aT o):(s++t)[r]?=aT o:=by
 rw[ax (ab.mp h).1];exact h
def bu5 {s:Sto}(h:r<s.length):(s.set r o)[r]?=aT o:=a7 h
def bd (b:Nat×Nat):Nat×(Nat×Nat) :=
 let x0:=tk b 3
 let x1:=tk x0.2 13
 let x2:=tk x1.2 1000000000
 let x3:=tk x2.2 1000000000000000000000000000000
 let i:=tk x3.2 4
 ([x0.1,x1.1,x2.1,x3.1].getD i.1 0,i.2)
section
variable {F:Fns} {U:Env} {s:Sto}
def ql (F:Fns)(tg:Tg)(e:E)(d:D)(U:Env)(s:Sto):R (Option D×Env):=match ai5 U tg d with
 | some U=>(ev F e U s).bind λ v s=>.ok (aT v,U) s
 | none=>.B
def aK1 (F:Fns)(tg:Tg)(c e:E)(d:D)(U:Env)(s:Sto):R (Option D×Env):=match ai5 U tg d with
 | some U=>tru (ev F c U s) λ k s=>if k then(ev F e U s).bind λ v s=>.ok (aT v,U) s else .ok (bY,U) s
 | none=>.B
@[simp] theorem jm  tg   it   e   h :evL F (.comp tg it e h) U s=(evI F it U s).bind λ q s0=>if q.its.length<=LIM then qX (λ s=>chk s0 s q.src) (ql F tg e) q.its (qb U h) s0 else .B:=rfl
@[simp] theorem jU  tg   it   c e   h :evL F (.compIf tg it c e h) U s=(evI F it U s).bind λ q s0=>if q.its.length<=LIM then qX (λ s=>chk s0 s q.src) (aK1 F tg c e) q.its (qb U h) s0 else .B:=rfl
@[simp] theorem bF2  a h :ev F (.slU a h) U s=(ev F a U s).bind λ x s=>(ev F h U s).bind λ y s=>match y with|.int i=>slM x bY (aT i) s|_=>.B:=rfl
end
theorem am5 (P:Env->Sto->Prop) f :∀ l   U   s ,P U s ->
  (∀ U s,P U s->ok s=cn)->(∀ d∈l,∀ U s,P U s->∃ U' s',g d U s=.ok (f d,U') s'/\P U' s')->∃ U' s',qX ok g l U s=.ok (l.filterMap f) s'/\P U' s'
 | [],U,s,h,o,_=>⟨U,s,by unfold qX;rw[gc (o U s h)];rfl,h⟩
 | d::l,U,s,h,o,st=>by
  obtain⟨U1,s1,e1,y⟩:=st d (aH ..) U s h;obtain⟨U2,s2,e2,G⟩:=am5 P f l U1 s1 y o λ x hx=>st x (aB _ hx);refine⟨U2,s2,?_,G⟩;unfold qX;rw[gc (o U s h),e1];simp only[R.bind_ok];rw[e2,bA];cases f d<;>rfl
def qJ {k:Int}(h:k<=1000):k<=10^90:=bp h (by decide)
def bn4 (h:0<=k/\k<=1000000):qZ .shl (.int 1) (.int k) s=.ok (.int (1*2^k.toNat)) s:=by
 show(if 0<=k/\k<=1000000/\(1:Int).natAbs<2^64 then _ else _:M D) s=_;rw[gc ⟨h.1,h.2,by decide⟩];rfl
def zP (h:∀ d∈l,∀ n,d.bnd n=cn) n :D.bndL n l=true:=by
 induction l with
 | nil=>rfl
 | cons d l ih=>unfold D.bndL;rw[h d (aH ..),ih λ x hx=>h x (aB _ hx)];rfl
noncomputable def bn6 (bits:Nat):D->Option D
 | .int i=>if(bits:Int) / (1*2^i.toNat) % 2=1 then aT (.int i)else bY
 | _=>bY
def bt5 {k:Nat}(h:k<3) s :ixM (.str [97,98,99]) (.int (k)) s=.ok (.str [97+k]) s:=by
 match k,h with
 | 0,_=>rfl
 | 1,_=>rfl
 | 2,_=>rfl
def bp5 (h:a.length+b.length<=LIM):qZ .add (.str a) (.str b) s=.ok (.str (a++b)) s:=by
 show(if a.length+b.length<=LIM then _ else _:M D) s=_;rw[gc h];rfl
def bQ5 (h:0<=k/\k<=1000000/\a.length*k.toNat<=LIM):qZ .mul (.str a) (.int k) s=.ok (.str (rep k.toNat a)) s:=by
 show(if _ then _ else _:M D) s=_;rw[gc h];rfl
def Lts (L:Nat)(w:List Nat):Prop:=∀ c∈w,97<=c/\c<97+L
theorem rep_len  l :∀ n,(rep n l).length=l.length*n
 | 0=>by simp[rep]
 | n+1=>by simp[rep,rep_len l n,eK];omega
noncomputable def bY7 (L:Nat)(d:D):Bool:=match d with
 | .str w=>decide (w.length<=200)&&w.all λ c=>decide (97<=c/\c<97+L)
 | _=>dt
noncomputable def bR4 (s:Sto):D->Prop
 | .fn _=>False
 | .clo _ _=>False
 | .ref k=>∃ l,s[k]?=aT (.J l)
 | _=>True
def js [HasC P x v]{n}{U}{s}:ev (aa0 P n) (.gl x) U s=.ok v s:=by
 show(match(aa0 P n).con x with|some d=>R.ok d s|none=>.B)=_;rw[aD8 (v:=v)]
noncomputable abbrev ax5:List D:=[.str [97],.str [98],.str [99]]
def bi3 {L:Nat}(h:L<=3) s :slM (.tp ax5) bY (aT (L)) s=.ok (.tp (ax5.take L)) s:=by
 match L,h with
 | 0,_=>rfl
 | 1,_=>rfl
 | 2,_=>rfl
 | 3,_=>rfl
def aZ4 [Has P ad7][HasC P "LETTERS" (.tp ax5)] n {L:Nat}(h:L<=3) l  s :(aa0 P (n+1)).call "letters_of" [.tp (.int L::l)] s=.ok (.tp (ax5.take L)) s:=by
 refine(zb ad7 rfl).trans ?_;have y:ixM (.tp (.int L::l)) (.int ((0:Nat))) s=.ok (.int L) s:=ix_tup rfl;simp -implicitDefEqProofs [ad7,js (v:=.tp ax5)];rw[show(0)=((0:Nat):Int)from rfl,y];simp only[R.bind_ok];rw[bi3 h];simp -implicitDefEqProofs
 match L,h with
 | 0,_=>exact zn (λ _=>rfl) (by nofun)
 | 1,_=>exact zn (λ _=>rfl) (by nofun)
 | 2,_=>exact zn (λ _=>rfl) (by nofun)
 | 3,_=>exact zn (λ _=>rfl) (by nofun)
def bM0 :qp .isin a b s=(inM a b s).bind λ r s=>.ok (.T r) s:=rfl
@[simp] theorem cz0  a :ev F (.neg a) U s=(ev F a U s).bind λ x s=>match x with|.int i=>.ok (.int (-i)) s|_=>.B:=rfl
structure Dr where
 a:Nat
 l:Nat
 b:Nat
 t:Nat
noncomputable def Dr.d (x:Dr):D:=.tp [.int x.a,.str [x.l],.int x.b,.int x.t]
structure Mc where
 L:Nat
 R:Nat
 bg:List Nat
 en:List Nat
 ds:List Dr
noncomputable def qF (l:List Nat):List D:=l.map λ(k:Nat)=>D.int (k)
noncomputable def av3 (l:List Int):List D:=l.map D.int
noncomputable def sg (w:List Nat):List D:=w.map λ c=>.str [c]
def Mc.ps (m:Mc):List D:=[.int m.L,.int m.R,.tp (qF m.bg),.tp (qF m.en),.tp (m.ds.map Dr.d)]
noncomputable def Mc.d (m:Mc):D:=.tp m.ps
structure Dr.Ok (m:Mc)(x:Dr):Prop where
 a:x.a<m.R
 l:97<=x.l/\x.l<97+m.L
 b:x.b<m.R
 t:x.t<4
structure Mc.Ok (m:Mc):Prop where
 L1:1<=m.L
 L3:m.L<=3
 R1:1<=m.R
 R5:m.R<=5
 bg:(∀ k∈m.bg,k<m.R)/\m.bg.Pairwise (· < ·)
 en:(∀ k∈m.en,k<m.R)/\m.en.Pairwise (· < ·)
 ds:(∀ x∈m.ds,x.Ok m)/\m.ds.length<=75
def aC3 :∀ d∈qF l,∀ n,d.bnd n=true:=λ d hd n=>by
 obtain⟨c,_,rfl⟩:=au.mp hd;rfl
def aD2 :∀ d∈av3 l,∀ n,d.bnd n=true:=λ d hd n=>by
 obtain⟨c,_,rfl⟩:=au.mp hd;rfl
def bf6 {l:List Dr}:∀ d∈l.map Dr.d,∀ n,d.bnd n=true:=λ d hd n=>by
 obtain⟨c,_,rfl⟩:=au.mp hd;rfl
def bN8 {m:Mc}:∀ d∈m.ps,∀ n,d.bnd n=true:=λ d hd n=>by
 simp only[Mc.ps,aL,cK,or_false]at hd;rcases hd with rfl|rfl|rfl|rfl|rfl
 .rfl
 .rfl
 .unfold D.bnd;exact zP aC3 n
 .unfold D.bnd;exact zP aC3 n
 .unfold D.bnd;exact zP bf6 n
def cd1 (m:Mc) n :m.d.bnd n=true:=by unfold Mc.d D.bnd;exact zP bN8 n
noncomputable def am6 (bits k:Nat):List Nat:=(ae k).filter λ i=>decide (bits / 2^i % 2=1)
def aG6  h k :(∀ i∈am6 h k,i<k)/\(am6 h k).Pairwise (· < ·) :=
 ⟨λ i y=>aX.mp (hV.mp y).1,mG _ List.pairwise_lt_range⟩
def bx4  y (k:Nat):(j4 0 (k)).filterMap (bn6 y)=qF (am6 y k):=by
 unfold j4 am6 qF;simp only[mn,cO];rw[eD]
 induction (ae k)with
 | nil=>rfl
 | cons i l ih =>
  rw[bA,List.filter_cons];have e:((y:Int) / (1*2^((0)+(i:Int)).toNat) % 2=1)↔(y / 2^i % 2=1):=by
   rw[Int.one_mul,show((0)+(i:Int)).toNat=i by lia];have:((y) / 2^i % 2)=((y / 2^i % 2:Nat):Int):=by simp
   rw[this];omega
  simp only[km,bn6];by_cases h:y / 2^i % 2=1
  .rw[gc (e.mpr h)];simp only[h,decide_true,if_true,aJ];rw[<-ih,hJ]
  .rw[gn λ z=>h (e.mp z)];simp only[h];exact ih
section
variable {P:Pr}
def bO6 (j:Nat)(h:l[j]?=aT d):ixM (.tp l) (.int (j)) s=.ok d s:=ix_tup h
def ixL (m:Mc) s :ixM m.d (.int 0) s=.ok (.int m.L) s:=bO6 0 rfl
def ixR (m:Mc) s :ixM m.d (.int 1) s=.ok (.int m.R) s:=bO6 1 rfl
def ixD (m:Mc) s :ixM m.d (.int 4) s=.ok (.tp (m.ds.map Dr.d)) s:=bO6 4 rfl
def jd [Has P aa9] n (m:Mc) s :(aa0 P (n+1)).call "rooms_of" [m.d] s=.ok (.int m.R) s:=by
 refine(zb aa9 rfl).trans ?_;simp -implicitDefEqProofs [aa9,ixR]
def bk2 (h:∀ d∈l,∀ n,d.bnd n=cn):zY s (.tp l) s=.ok (.tp l) s:=zn (λ n=>by unfold D.bnd;exact zP h n) (by nofun)
def aR2 [Has P ab5] n (m:Mc) s :(aa0 P (n+1)).call "doors_of" [m.d] s=.ok (.tp (m.ds.map Dr.d)) s:=by
 refine(zb ab5 rfl).trans ?_;simp -implicitDefEqProofs [ab5,ixD,bk2 bf6]
def bq6 (h:a<b):j4 a b=.int a::j4 (a+1) b:=by
 unfold j4;obtain⟨n,hn⟩:∃ n,(b - a).toNat=n+1:=⟨(b - a).toNat - 1,by lia⟩
 rw[hn,show(b - (a+1)).toNat=n by omega,eV,aJ,dC]
 congr 1
 .simp
 .apply b9
  grind
@[simp] theorem cr1  a b   s :qp .ne (.str [a]) (.str [b]) s=.ok (.T (!decide (a=b))) s:=by
 show(match eqv s DEEP (.str [a]) (.str [b])with|some r=>R.ok (D.T (!r)) s|none=>.B)=_;have:eqv s DEEP (.str [a]) (.str [b])=aT ([a]==[b]):=rfl;rw[this];have e:([a]==[b])=decide (a=b):=by rw[et];simp
 rw[e]
@[simp] theorem bj2  a b   s :qp .eq (.str [a]) (.str [b]) s=.ok (.T (decide (a=b))) s:=by
 show(match eqv s DEEP (.str [a]) (.str [b])with|some r=>R.ok (D.T r) s|none=>.B)=_;have:eqv s DEEP (.str [a]) (.str [b])=aT ([a]==[b]):=rfl;rw[this];have e:([a]==[b])=decide (a=b):=by rw[et];simp
 rw[e]
end
def good_of {L}(h:w.length<=200)(hw:Lts L w):bY7 L (.str w)=true:=by
 unfold bY7;simp only[h,decide_true,dM,aU,iN];exact hw
noncomputable def qO (N:Int):O:=.J [.int N]
def aU2 {s:Sto}(h:∃ N,s[r]?=aT (qO N)):r<s.length:=by obtain⟨b,hb⟩:=h;exact(ab.mp hb).1
def at5 {s:Sto}(h:r<s.length):∃ y,(s.set r (qO b))[r]?=aT (qO y):=⟨b,bu5 h⟩
def jq [Has P ah4] n {s}{r}(hs:∃ N,s[r]?=aT (qO N)) y (h0:0<y)(h:y<=10^90) :
  ∃(k:Nat) (N:Int),(k:Int)<y/\(aa0 P (n+1)).call "_law_draw" [.ref r,.int y] s=.ok (.int k) (s.set r (qO N)):=by
 obtain⟨N,hN⟩:=hs;have Y:(aa0 P (n+1)).call "_law_draw" [.ref r,.int y] s=_:=zb ah4 rfl;have J:y<10^200:=by
  lia
 have Z:=lq N (show y≠0 by lia);have h2:=kF N h0;refine⟨(N % y).toNat,N / y,by lia,?_⟩;rw[Y];have G:s[r]?=aT (.J [.int N]):=hN;simp -implicitDefEqProofs [ah4,ixM,G,ixn,jw h0,jW h0 J,setIx];rw[show max (N % y) 0=N % y by lia];exact bd7 (λ _=>rfl) (by nofun) rfl
def cz6 (s:Sto)(x:R D):Prop:=∃ N,x=.ok (.ref s.length) (s++[qO N])
def cf4 [Has P ak3] n (ns:List Int)(k:Nat){s:Sto}{r:Nat}(hs:s[r]?=aT (.ro (ns.map D.int))) :
  ∃ N:Int,(aa0 P (n+1)).call "_law_box" [.ref r,.int k] s=.ok (.ref s.length) (s++[qO N]):=by
 have e0:(aa0 P (n+1)).call "_law_box" [.ref r,.int k] s=_:=zb ak3 (n:=n) rfl;have h:bi .len [.ref r] s=.ok (.int ns.length) s:=by rw[bI8 hs,ar]
 have m1:∀ a:Int,mulOk 7919 a=true:=λ a=>j7 (by decide);have m2:∀ a:Int,mulOk a 48271=true:=λ a=>an7 (by decide);have Z:∀ a:Int,mulOk 104729 a=true:=λ a=>j7 (by decide);have m4:∀ a:Int,mulOk a 2147483647=true:=λ a=>an7 (by decide);have m5:∀ a:Int,mulOk 31 a=true:=λ a=>j7 (by decide);have m6:∀ a:Int,mulOk (a % 2147483647) (a % 2147483647)=true:=λ a=>j7 (by
  lia)
 have Y:∀ N:Int,zY s (.ref s.length) (s++[.J [.int N]])=.ok (.ref s.length) (s++[qO N]):=λ N=>by
  have:=au0 (s:=s) (t:=[]) (u:=[]) (o:=qO N) rfl;simp only[c9,mr,dF]at this;exact this
 have G:∀ c:Int,cz6 s ((exs (aa0 P n) (.cons (.ite (.Z .ge (.X 2) (.G .pow (.K (.int 10)) (.K (.int 18)))) (.cons (.ret (.J (.cons (.X 2) .nil))) .nil) .nil) (.cons (.A (.Y 3) (.K (.int 0))) (.cons (.fo (.Y 4) (.rg (.K (.int 128))) (.cons (.A (.Y 5) (.G .mod (.G .mul (.G .add (.G .add (.G .add (.G .mod (.X 2) (.K (.int 2147483647))) (.G .mul (.K (.int 7919)) (.X 1))) (.G .mul (.K (.int 104729)) (.X 4))) (.K (.int 97))) (.K (.int 48271))) (.K (.int 2147483647)))) (.cons (.A (.Y 3) (.G .add (.G .mul (.X 3) (.K (.int 2147483647))) (.G .mod (.G .add (.G .add (.G .mul (.X 5) (.X 5)) (.G .mul (.K (.int 31)) (.X 4))) (.G .fdiv (.X 2) (.K (.int 2147483647)))) (.K (.int 2147483647))))) .nil))) (.cons (.ret (.J (.cons (.X 3) .nil))) .nil))))
   [aT (.ref r),aT (.int k),aT (.int c),bY,bY,bY] s).bind (fin s)):=by
  intro c;by_cases hc:(10:Int)^18<=c
  .have J:(1000000000000000000:Int)<=c:=hc;exact⟨c,by simp -implicitDefEqProofs [aG0,J,Y]⟩
  .have J:¬(1000000000000000000:Int)<=c:=hc;simp -implicitDefEqProofs [aG0,J];rw[z6 (by decide) (by decide)];simp only[R.bind_ok];refine jl (Ww:=cz6 s) (λ j U t=>t=s/\∃(N:Int) (x y:Option D),U=[aT (.ref r),aT (.int k),aT (.int c),aT (.int N),x,y]) ⟨rfl,0,_,_,rfl⟩ (λ _ _ _ _ _=>rfl) ?_ ?_
   .rintro j d U t hj ⟨rfl,N,x,y,rfl⟩
    obtain⟨_,rfl⟩:=al5 hj
    conv=>arg 2;simp -implicitDefEqProofs [turn,ah2 (m1 _),ah2 (m2 _),ah2 (Z _),ah2 (m4 _),ah2 (m5 _),ah2 (m6 _),jw,jW]
    exact⟨rfl,_,_,_,rfl⟩
   .rintro U t ⟨rfl,N,x,y,rfl⟩
    exact⟨N,by simp_all⟩
 rw[e0];by_cases hk:k<ns.length
 .have hx:ixM (.ref r) (.int k) s=.ok (.int (ns.getD k 0)) s:=cp6 hs (by simp[hk]);obtain⟨N,e⟩:=G (if ns.getD k 0<0 then -ns.getD k 0 else ns.getD k 0);refine⟨N,?_⟩;rw[<-e];simp -implicitDefEqProofs [ak3,h,hk,hx]
 .obtain⟨N,e⟩:=G 0;refine⟨N,?_⟩;rw[<-e];simp -implicitDefEqProofs [ak3,h,hk]
def bm8 (h:bR4 s d) w :∃ b,qp .eq d (.str w) s=.ok (.T b) s/\(b=cn↔d=.str w):=by
 cases d with
 | str v=>exact⟨v==w,rfl,by
   rw[beq_iff_eq];constructor
   .intro h;rw[h]
   .intro h;cases h;rfl⟩
 | ref k =>
  obtain⟨l,e⟩:=h;refine⟨dt,?_,by constructor<;>intro h<;>cases h⟩;have:eqv s DEEP (.ref k) (.str w)=aT false:=by
   have y:kd s (.ref k)=4:=by
    show(match s[k]? with|some (.J _)=>4|_=>9)=4;rw[e]
   show(if aN0 (kd s (.ref k)) (kd s (.str w))then bY else aT dt)=_;rw[y];rfl
  show(match eqv s DEEP (.ref k) (.str w)with|some r=>R.ok (D.T r) s|none=>R.B)=_;rw[this]
 | fn _=>exact h.elim
 | clo _ _=>exact h.elim
 | _=>exact⟨dt,rfl,by constructor<;>intro h<;>cases h⟩
theorem aI3 :∀ {l} {m},x∈aj1 m l↔∃ k d,l[k]?=aT d/\x=.tp [.int ((m+k:Nat)),d]
 | [],m=>by
  constructor
  .intro h;cases h
  .rintro⟨k,d,h,_⟩;cases h
 | a::l,m=>by
  unfold aj1;rw[aL,aI3 ];constructor
  .rintro(rfl|⟨k,d,h,rfl⟩)
   .exact⟨0,a,rfl,rfl⟩
   .exact⟨k+1,d,h,by rw[show m+1+k=m+(k+1)by omega]⟩
  .rintro⟨k,d,h,rfl⟩
   cases k with
   | zero=>cases h;exact .inl rfl
   | succ k=>exact .inr ⟨k,d,h,by rw[show m+1+k=m+(k+1)by omega]⟩
theorem enumL_len:∀ l   m ,(aj1 m l).length=l.length
 | [],_=>rfl
 | a::l,m=>by unfold aj1;rw[aQ,aQ,enumL_len l]
@[simp] theorem bA2  e :evI F (.enum (.seq e)) U s=(ev F e U s).bind λ d s=>(be6 d s).bind λ q s=>.ok ⟨aj1 0 q.its,q.src⟩ s:=rfl
def qS  v w  s :qp .eq (.str v) (.str w) s=.ok (.T (decide (v=w))) s:=by
 obtain⟨b,e,q⟩:=bm8 (d:=.str v) trivial w;rw[e]
 congr 2
 lia
def jr [Has P ah4] n {s t:Sto}{r}(J:r<s.length) b  y (h0:0<y)(h:y<=10^90) :
  ∃(k:Nat) (G:Int),(k:Int)<y/\(aa0 P (n+1)).call "_law_draw" [.ref r,.int y] (s.set r (qO b)++t)=.ok (.int k) (s.set r (qO G)++t):=by
 obtain⟨k,G,Z,Y⟩:=jq (P:=P) n ⟨b,jJ (bu5 J)⟩ y h0 h;refine⟨k,G,Z,?_⟩;rw[Y,bV8 (by rw[bE];exact J),fD]
def bN1 {s t:Sto}(h:l.length<LIM):meth .append (.ref s.length) [v] (s.set r (qO b)++(.J l::t))=.ok .N (s.set r (qO b)++(.J (l++[v])::t)):=by
 rw[qH (l:=l) (by simp_all) h]
 simp_all
noncomputable def row (m:Nat)(f:Nat->Int):List D:=(ae m).map λ j=>.int (f j)
def gd (m:Nat)(f:Nat->Nat->Int):D:=.tp ((ae m).map λ i=>.tp (row m (f i)))
def an8 (h:j<m):(row m f)[j]?=aT (.int (f j)):=by
 unfold row;rw[ao,aY h];rfl
@[simp] theorem br6 :(row m f).length=m:=by unfold row;simp
def bL3  n :D.bndL n (row m f)=true:=zP (λ d hd n=>by
 obtain⟨j,_,rfl⟩:=au.mp hd;rfl) n
def bk0 (h:∀ j,j<m->f j=g j):row m f=row m g:=by
 unfold row;simp_all
def qV  n :(gd m f).bnd n=true:=by
 unfold gd D.bnd;exact zP (λ d hd n=>by
  obtain⟨j,_,rfl⟩:=au.mp hd;unfold D.bnd;exact bL3 n) n
def ay3 (h:i<m) s :ixM (gd m f) (.int (i)) s=.ok (.tp (row m (f i))) s :=
 ix_tup (by rw[ao,aY h];rfl)
def jv (h:j<m) s :ixM (.tp (row m f)) (.int (j)) s=.ok (.int (f j)) s:=ix_tup (an8 h)
def ci9  s :ay0 (gd m f) s=.ok ⟨(ae m).map λ i=>.tp (row m (f i)),[]⟩ s:=rfl
def ao4  s :ay0 (.tp l) s=.ok ⟨l,[]⟩ s:=rfl
def al6 (h:∀ i j,i<m->j<m->f i j=g i j):gd m f=gd m g:=by
 unfold gd
 congr 1
 exact b9 λ i y=>by rw[bk0 λ j hj=>h i j (aX.mp y) hj]
def ar8 (P:Env->Sto->Prop) f  l  U  s (h:P U s)
  (o:∀ U s,P U s->ok s=cn) (st:∀ d∈l,∀ U s,P U s->∃ U' s',g d U s=.ok (aT (f d),U') s'/\P U' s'):∃ U' s',qX ok g l U s=.ok (l.map f) s'/\P U' s':=by
 obtain⟨U',s',e,p⟩:=am5 P (λ d=>aT (f d)) l U s h o st;refine⟨U',s',?_,p⟩
 simp_all
def jA (P:Env->Sto->Prop) f (n:Nat) U  s (h:P U s)
  (o:∀ U s,P U s->ok s=cn) (st:∀ j,j<n->∀ U s,P U s->∃ U' s',g (.int (j:Int)) U s=.ok (aT (f j),U') s'/\P U' s'):∃ U' s',qX ok g (j4 0 (n)) U s=.ok ((ae n).map f) s'/\P U' s':=by
 obtain⟨U',s',e,p⟩:=ar8 (g:=g) P (λ d=>match d with|.int i=>f i.toNat|d=>d) (j4 0 (n)) U s h o λ d hd U s y=>by
  obtain⟨j,hj⟩:=fj hd;obtain⟨G,rfl⟩:=al5 hj
  simp_all
 refine⟨U',s',?_,p⟩;rw[e]
 congr 1
 unfold j4
 simp_all
def zZ (n:Nat):(j4 0 (n)).length=n:=by simp[j4]
def qG {n :Nat}(h:(j4 0 (n:Int))[j]?=aT d):j<n/\d=.int (j):=by
 obtain⟨y,rfl⟩:=al5 h;lia
def bo0 :(row m f).map (λ _=>D.int i)=row m λ _=>i:=by
 unfold row;rw[dC];rfl
def aO4 { t:Sto}(h:l.length<LIM):meth .append (.ref s.length) [v] (s++.J l::t)=.ok .N (s++.J (l++[v])::t):=by
 rw[qH (by rw[ag (ai _)];simp) h,bD _ _ (ai _)];simp
def aE2 {s t:Sto}{o:O}:(s++x::(t++[o]))[s.length+(t.length+1)]?=aT o:=by
 simp_all
noncomputable def prN (f g:Nat->Nat->Int)(i j:Nat):Nat->Int
 | 0=>3
 | k+1=>if f i k<3 then(let b:=(if g k j > f i k then g k j else f i k);if b<prN f g i j k then b else prN f g i j k)else prN f g i j k
def pr (m:Nat)(f g:Nat->Nat->Int)(i j:Nat):Int:=prN f g i j m
def aC1 [Has P ab6] n {m}(hR:m<=5) f g  s  :
  (aa0 P (n+1)).call "_law_product" [gd m f,gd m g] s=.ok (gd m (pr m f g)) s:=by
 have Z:(aa0 P (n+1)).call "_law_product" [gd m f,gd m g] s=_:=zb ab6 rfl;rw[Z]
 conv=>lhs;simp only[ab6]
 simp -implicitDefEqProofs [];refine jC (λ i U t=>∃ T   x y z ,U=[aT (gd m f),aT (gd m g),aT (.ref s.length),x,y,z]/\t=s++.J ((ae i).map λ i=>.tp (row m (pr m f g i)))::T) ⟨[],bY,bY,bY,rfl,rfl⟩ (λ _ _ _ _ _=>rfl) ?_ ?_
 .rintro i d U t hi ⟨T,x,y,z,rfl,rfl⟩
  have Y:=by have:=(ab.mp hi).1;simpa using this
  have hd:=by rw[ao,aY Y]at hi;exact(aq hi).symm
  subst hd
  conv=>arg 2;simp -implicitDefEqProofs [turn,ao4]
  rw[gc (by unfold LIM;lia)];obtain⟨U1,s1,e1,J⟩:=ar8 (ok:=λ s1=>chk (s++.J ((ae i).map λ i=>.tp (row m (pr m f g i)))::T) s1 []) (g:=ql (aa0 P n) (.Y 0) (.K (.int 3))) (λ U u=>u=s++.J ((ae i).map λ i=>.tp (row m (pr m f g i)))::T/\∃ x,U=[x]) (λ _=>.int 3) (row m (f i)) (qb [aT (gd m f),aT (gd m g),aT (.ref s.length),aT (.tp (row m (f i))),y,z] [bY]) _ ⟨rfl,bY,rfl⟩ (λ _ _ _=>rfl) (by
   rintro d _ U u ⟨rfl,x,rfl⟩
   exact⟨_,_,rfl,rfl,_,rfl⟩)
  obtain⟨rfl,_⟩:=J;rw[bo0]at e1;rw[e1];simp -implicitDefEqProofs [mk];rw[z6 (by unfold Ww62;lia) (by unfold Ww62;lia)];simp only[R.bind_ok];refine jl (λ k U t=>∃(T:Sto) (p:Nat) (z:Option D),U=[aT (gd m f),aT (gd m g),aT (.ref s.length),aT (.tp (row m (f i))),aT (.ref p),z]/\t=s++.J ((ae i).map λ i=>.tp (row m (pr m f g i)))::T/\t[p]?=aT (.J (row m λ j=>prN f g i j k))) ⟨T++[.J (row m λ _=>3)],s.length+(T.length+1),z,rfl,rfl,aE2⟩ (λ _ _ _ _ _=>rfl) ?_ ?_
  .rintro k d U t hk ⟨T,p,z,rfl,rfl,G⟩
   obtain⟨h,rfl⟩:=qG hk;by_cases h3:f i k<3
   .conv=>arg 2;simp -implicitDefEqProofs [turn,jv h,h3]
    rw[z6 (by unfold Ww62;lia) (by unfold Ww62;lia)];simp only[R.bind_ok];rw[gc (by rw[zZ];unfold LIM;lia)];obtain⟨U1,s1,e1,J⟩:=jA (ok:=λ s1=>chk (s++.J ((ae i).map λ i=>.tp (row m (pr m f g i)))::T) s1 []) (g:=ql (aa0 P n) (.Y 0) (.bi .min2 (.cons (.ix (.X 1) (.X 0)) (.cons (.bi .max2 (.cons (.ix (.X 2) (.X 3)) (.cons (.ix (.ix (.X 4) (.X 3)) (.X 0)) .nil))) .nil)))) (λ U u=>u=s++.J ((ae i).map λ i=>.tp (row m (pr m f g i)))::T/\∃ x,U=[x,aT (.ref p),aT (.tp (row m (f i))),aT (.int k),aT (gd m g)]) (λ j=>.int (prN f g i j (k+1))) m (qb [aT (gd m f),aT (gd m g),aT (.ref s.length),aT (.tp (row m (f i))),aT (.ref p),aT (.int (k:Int))] [bY,aT 4,aT 3,aT 5,aT 1]) _ ⟨rfl,bY,rfl⟩ (λ _ _ _=>rfl) (by
     rintro j hj U u ⟨rfl,x,rfl⟩
     refine⟨[aT (.int j),aT (.ref p),aT (.tp (row m (f i))),aT (.int k),aT (gd m g)],_,?_,rfl,_,rfl⟩;simp -implicitDefEqProofs [ql,jv h,ay3 h,jv hj,qz G (an8 hj),prN,h3])
    obtain⟨rfl,_⟩:=J;rw[e1];simp -implicitDefEqProofs [mk];rfl
   .refine az0 (U:=[aT (gd m f),aT (gd m g),aT (.ref s.length),aT (.tp (row m (f i))),aT (.ref p),aT (.int k)]) ?_ ⟨T,p,_,rfl,rfl,?_⟩
    .simp -implicitDefEqProofs [turn,jv h,h3]
    .rw[G];simp[prN,h3]
  .rintro U t ⟨T,p,z,rfl,rfl,G⟩
   rw[zZ]at G;simp -implicitDefEqProofs [bf1,G,mk];rw[aO4 (by unfold LIM;simp;lia)];simp -implicitDefEqProofs;rw[cE,bO];rfl
 .rintro U t ⟨T,x,y,z,rfl,rfl⟩
  have h0:(s++.J ((ae m).map λ i=>D.tp (row m (pr m f g i)))::T:Sto)[s.length]?=aT (.J ((ae m).map λ i=>D.tp (row m (pr m f g i)))):=by rw[ag (ai _)];simp
  simp -implicitDefEqProofs [bf1,h0,mk];exact zT (d:=gd m (pr m f g)) qV (by nofun)
def bK9 (h:0<=b):qZ .shr (.int a) (.int b) s=.ok (.int (a / 2^b.toNat)) s:=by
 show(if 0<=b then _ else _:M D) s=_;rw[gc h];rfl
def bp7 { c h:Nat}(Y:c<=5)(G:qb U [bY,aT 10]=[bY,aT (.int h)]) :
  qX (λ y=>chk s y []) (aK1 (aa0 P n) (.Y 0) (.Z .eq (.G .mod (.G .shr (.X 1) (.X 0)) (.K (.int 2))) (.K (.int 1))) (.X 0)) (j4 0 (c)) (qb U [bY,aT 10]) s=.ok (qF (am6 h c)) s:=by
 have key:∃ U'   s' ,qX (λ y=>chk s y []) (aK1 (aa0 P n) (.Y 0) (.Z .eq (.G .mod (.G .shr (.X 1) (.X 0)) (.K (.int 2))) (.K (.int 1))) (.X 0)) (j4 0 (c)) (qb U [bY,aT 10]) s=.ok ((j4 0 (c)).filterMap (bn6 h)) s'/\(s'=s/\∃ x,U'=[x,aT (D.int h)]):=by
  refine am5 (λ U u=>u=s/\∃ x,U=[x,aT (.int h)]) (bn6 h) (j4 0 (c)) _ _ ⟨rfl,bY,G⟩ (λ _ _ _=>rfl) ?_
  rintro d hd U u ⟨rfl,x,rfl⟩
  obtain⟨j,hj⟩:=fj hd;obtain⟨J,rfl⟩:=al5 hj;refine⟨[aT (.int (0+j)),aT (.int h)],_,?_,rfl,_,rfl⟩;unfold aK1;simp only[zg,zx,zK,qg,zd,zw,zy,ze,zh,R.bind_ok];rw[bK9 (by lia)];simp only[R.bind_ok];rw[jw (by decide)];simp only[R.bind_ok,zD];simp[bn6];split<;>rfl
 obtain⟨_,_,e,rfl,_⟩:=key;rw[e,bx4]
def bT6 {s:Sto}{o:O}(h:l.length<LIM):meth .append (.ref (s.length+1)) [v] (s.set r (qO b)++[o,.J l])=.ok .N (s.set r (qO b)++[o,.J (l++[v])]):=by
 rw[qH (l:=l) (by rw[ag (by simp)];simp) h,bD _ _ (by simp)];simp
def cB8 {k:Nat}(h:k<=5):(0:Int)<1*2^((k:Int)).toNat/\(1:Int)*2^((k:Int)).toNat<=32:=by
 have G:(2)^k<=2^5:=cz (by decide) h;have h3:((2^k):Int)<=32:=by exact_mod_cast G
 have J:0<(2)^k:=Nat.pow_pos (by decide);have y:(0)<((2^k):Int):=by exact_mod_cast J
 rw[cO,Int.one_mul]
 push_cast at h3 y
 exact⟨y,h3⟩
def McB (s:Sto)(r:Nat)(x:R D):Prop:=∃(m:Mc) (b:Int),m.Ok/\x=.ok m.d (s.set r (qO b))
set_option tactic.hygienic true in
def aO5 [Has P ah4][Has P ad9] n {s}{r}(hs:∃ b,s[r]?=aT (qO b)):McB s r ((aa0 P (n+2)).call "_law_machine" [.ref r] s):=by
 have e0:(aa0 P (n+2)).call "_law_machine" [.ref r] s=_:=zb ad9 rfl;have Y:=aU2 hs;obtain⟨a,b1,ha,e1⟩:=jq (P:=P) n hs 3 (by decide) (by decide);obtain⟨c,b2,hc,e2⟩:=jq (P:=P) n (at5 (b:=b1) Y) 5 (by decide) (by decide);rw[fD]at e2;obtain⟨m1,b3,e7,e3⟩:=jq (P:=P) n (at5 (b:=b2) Y) (3*(1+(c))+2) (by lia) (qJ (by lia));rw[fD]at e3;obtain⟨m2,b4,f0,e4⟩:=jq (P:=P) n (at5 (b:=b3) Y) 8 (by decide) (by decide);rw[fD]at e4;obtain⟨m3,b5,d2,e5⟩:=jq (P:=P) n (at5 Y) 76 (by decide) (by decide);rw[fD]at e5;rw[e0];have mo:∀ x:Int,mulOk 3 x=true:=λ x=>j7 (by decide);simp -implicitDefEqProofs [ad9,e1,e2,ah2 (mo _),e3,e4];obtain⟨G,bb,hmany,hif⟩:∃(G:Nat) (bb:Int),G<=75/\(if(m2:Int)=5 then
   ((aa0 P (n+1)).call "_law_draw" [D.ref r,D.int 76] (List.set s r (qO b4))).bind λ d s =>
    R.ok
     (Ct.next [aT (D.ref r),aT (D.int (1+↑a)),aT (D.int (1+↑c)),aT d,bY,bY,bY,bY,bY,bY,bY,bY,bY]) s
   else
    R.ok
     (Ct.next
      [aT (D.ref r),aT (D.int (1+↑a)),aT (D.int (1+↑c)),aT (D.int ↑m1),bY,bY,bY,bY,bY,bY,bY,bY,bY])
     (List.set s r (qO b4)))=.ok (.next [aT (.ref r),aT (.int (1+a)),aT (.int (1+c)),aT (.int G),bY,bY,bY,bY,bY,bY,bY,bY,bY]) (s.set r (qO bb)):=by
  by_cases h7:(m2:Int)=5
  .exact⟨m3,b5,by lia,by rw[gc h7,e5];rfl⟩
  .exact⟨m1,b4,by lia,by rw[gn h7]⟩
 rw[hif];simp -implicitDefEqProofs;obtain⟨h4,b6,a2,e6⟩:=jr (P:=P) n Y bb 4 (by decide) (by decide);rw[e6];have hx:∃ Z:Nat,1<=Z/\Z<=4/\ixM (.ref s.length) (.int h4) (s.set r (qO b6)++[.J [.int 2,.int 2,.int 4,.int 1]])=.ok (.int Z) (s.set r (qO b6)++[.J [.int 2,.int 2,.int 4,.int 1]]):=by
  have hg:(s.set r (qO b6)++[O.J [.int 2,.int 2,.int 4,.int 1]])[s.length]?=aT (.J [.int 2,.int 2,.int 4,.int 1]):=by rw[ag (by simp)];simp
  match h4,a2 with
  | 0,_=>exact⟨2,by decide,by decide,qz hg rfl⟩
  | 1,_=>exact⟨2,by decide,by decide,qz hg rfl⟩
  | 2,_=>exact⟨4,by decide,by decide,qz hg rfl⟩
  | 3,_=>exact⟨1,by decide,by decide,qz hg rfl⟩
  | k+4,h=>omega
 obtain⟨Z,e9,d0,hx⟩:=hx;simp -implicitDefEqProofs [hx];rw[z6 (by unfold Ww62;lia) (by unfold Ww62;lia)];simp -implicitDefEqProofs only[R.bind_ok];have a1:((1:Int)+(c:Int))=((c+1:Nat):Int):=by lia
 have b0:((1:Int)+(a:Int))=((a+1:Nat):Int):=by lia
 rw[a1,b0];generalize hH:O.J [D.int 2,D.int 2,D.int 4,D.int 1]=H;have c0:=λ b=>ax7 s [H] r (qO b) rfl;refine jl (λ j U u=>∃(b:Int) (l:List Dr) (x y z v:Option D),(∀ d∈l,d.Ok ⟨a+1,c+1,[],[],[]⟩)/\l.length=j/\U=[aT (.ref r),aT (.int (a+1:Nat)),aT (.int (c+1:Nat)),aT (.int G),aT (.int Z),aT (.ref (s.length+1)),x,y,z,v,bY,bY,bY]/\u=s.set r (qO b)++[H,.J (l.map Dr.d)]) ⟨b6,[],bY,bY,bY,bY,by simp,rfl,rfl,rfl⟩ (λ _ _ _ _ _=>rfl) ?_ ?_
 .rintro j d U u hj ⟨b,l,x,y,z,v,hl,J,rfl,rfl⟩
  obtain⟨e8,rfl⟩:=al5 hj;obtain⟨k1,c1,a6,f1⟩:=jr (P:=P) n (t:=[H,.J (l.map Dr.d)]) Y b (c+1:Nat) (by lia) (qJ (by lia));obtain⟨k3,c2,d1,f2⟩:=jr (P:=P) n (t:=[H,.J (l.map Dr.d)]) Y c1 (c+1:Nat) (by lia) (qJ (by lia));obtain⟨k2,c3,a4,f3⟩:=jr (P:=P) n (t:=[H,.J (l.map Dr.d)]) Y c2 (a+1:Nat) (by lia) (qJ (by lia));obtain⟨k4,c4,d3,f4⟩:=jr (P:=P) n (t:=[H,.J (l.map Dr.d)]) Y c3 Z (by lia) (qJ (by lia));refine az0 (U:=[aT (.ref r),aT (.int (a+1:Nat)),aT (.int (c+1:Nat)),aT (.int G),aT (.int Z),aT (.ref (s.length+1)),aT (.int j),aT (.int k1),aT (.int k3),aT (.str [97+k2]),bY,bY,bY]) (s:=s.set r (qO c4)++[H,.J ((l++[(⟨k1,97+k2,k3,k4⟩:Dr)]).map Dr.d)]) ?_ ⟨c4,l++[(⟨k1,97+k2,k3,k4⟩:Dr)],_,_,_,_,?_,?_,rfl,rfl⟩
  .simp -implicitDefEqProofs only[turn,hJ,zg,zC,zx,az,za,zl,zW,jD,zR,zd,qa,zw,qd,zB,jE,zo,zq,zE,zz,ze,zh,R.bind_ok,qk,f1,f2,f3,f4,bt5 (show k2<3 by lia),zt,zm];rw[bT6 (by unfold LIM;simp;lia)];simp -implicitDefEqProofs;rw[bt8 (l:=l.map Dr.d) (m:=l.map Dr.d) (by rw[ag (by simp)];simp) (by rw[ag (by simp)];simp)];rfl
  .intro d hd;rcases bN.mp hd with h|h
   .exact hl d h
   .rw[bv.mp h];constructor<;>simp only<;>lia
  .simp[J]
 .rintro U u ⟨b,l,x,y,z,v,hl,J,rfl,rfl⟩
  have p5:=cB8 (k:=c+1) (by lia);obtain⟨k1,c1,a6,f1⟩:=jr (P:=P) n (t:=[H,.J (l.map Dr.d)]) Y b _ p5.1 (qJ (by lia));obtain⟨k2,c2,a4,f2⟩:=jr (P:=P) n (t:=[H,.J (l.map Dr.d)]) Y c1 _ p5.1 (qJ (by lia));have a3:(s.set r (qO c2)++[H,O.J (l.map Dr.d)])[s.length+1]?=aT (.J (l.map Dr.d)):=by rw[ag (by simp)];simp
  have a5:l.length<=75:=by
   rw[J];simp[j4];omega
  have a0:(j4 0 ((c+1:Nat):Int)).length<=LIM:=by rw[zZ];unfold LIM;lia
  simp -implicitDefEqProofs only[zm,za,zl,zW,zR,zE,zz,zd,qg,zw,zy,ze,zh,R.bind_ok,bn4 ⟨show(0:Int)<=((c+1:Nat):Int)by lia,by lia⟩,f1,zg,zC,zx,az,zt,ev_mk,jU,qC];rw[z6 (by unfold Ww62;lia) (by unfold Ww62;lia)];simp -implicitDefEqProofs only[R.bind_ok,gc a0];rw[bp7 (by lia) rfl];simp -implicitDefEqProofs only[R.bind_ok,mk,f2,zt,zm,zg,zC,zx,az,za,zR,zE,zz,zd,qg,zw,zy,ze,zh,zW,bn4 ⟨show(0:Int)<=((c+1:Nat):Int)by omega,by omega⟩,ev_mk,jU,qC];rw[z6 (by unfold Ww62;omega) (by unfold Ww62;omega)];simp -implicitDefEqProofs only[R.bind_ok,gc a0];rw[bp7 (by omega) rfl];simp -implicitDefEqProofs only[R.bind_ok,mk,zt,zm,zI,zg,zC,zx,az,za,zl,zX,jE,zo,zq,zd,ze,zh,ev_mk,evL_seq,bf1,a3,zJ];refine⟨⟨a+1,c+1,am6 k1 (c+1),am6 k2 (c+1),l⟩,c2,⟨by simp,by simp;lia,by simp,by simp;lia,aG6 _ _,aG6 _ _,λ x hx=>?_,a5⟩,?_⟩
  .have:=hl x hx;exact⟨this.a,this.l,this.b,this.t⟩
  .exact av7 (cd1 ⟨a+1,c+1,am6 k1 (c+1),am6 k2 (c+1),l⟩) (by nofun) rfl
def al7 (m:Nat)(f:Nat->Nat->Int):Sto:=(ae m).map λ i=>.J (row m (f i))
@[simp] theorem bj0 :(al7 m f).length=m:=by unfold al7;simp
def al8 (h:i<m):(al7 m f)[i]?=aT (.J (row m (f i))):=by
 unfold al7;rw[ao,aY h];rfl
def bP6 :(row m f).set b (.int v)=row m λ j=>if j=b then v else f j:=by
 apply eW;intro j;by_cases hj:j<m
 .rw[an8 hj];by_cases e:j=b
  .simp_all
  .rw[bq (λ z=>e z.symm),an8 hj,gn e]
 simp_all
def bh0 :(al7 m f).set a (.J ((row m (f a)).set b (.int v)))=al7 m λ i j=>if i=a/\j=b then v else f i j:=by
 apply eW;intro i;by_cases hi:i<m
 .rw[al8 hi];by_cases e:i=a
  .subst e;rw[a7 (by simp_all),bP6];simp
  .rw[bq (λ z=>e z.symm),al8 hi];simp[e]
 simp_all
noncomputable def aQ4 (p m:Nat):List D:=(ae m).map λ i=>.ref (p+i)
def bB9 (h:i<m):(aQ4 p m)[i]?=aT (.ref (p+i)):=by
 unfold aQ4;rw[ao,aY h];rfl
def bf7 (P:Nat->Env->Sto->Prop) f  n 
  (o:∀ k U s,P k U s->ok s=cn) (st:∀ j,j<n->∀ U s,P j U s->∃ U' s',g (.int (j:Int)) U s=.ok (aT (f j),U') s'/\P (j+1) U' s') :
  ∀ k   U   s ,k<=n->P k U s->∃ U' s',qX ok g (j4 (k) (n)) U s=.ok ((List.range' k (n - k)).map f) s'/\P n U' s':=by
 intro k
 induction h:n - k generalizing k with
 | zero =>
  intro U s hk y;have e:k=n:=by lia
  subst e;refine⟨U,s,?_,y⟩;rw[show j4 (k) (k)=[]by simp[j4]];unfold qX
  grind
 | succ d ih =>
  intro U s hk y;refine wl λ _ kk=>?_;obtain⟨U1,s1,e1,G⟩:=st k (by omega) U s y;obtain⟨U2,s2,e2,J⟩:=ih (k+1) (by omega) U1 s1 (by lia) G;refine kk ⟨U2,s2,?_,J⟩;rw[bq6 (by omega),List.range'_succ,aJ];unfold qX;rw[gc (o _ _ _ y),e1]
  simp_all
noncomputable def sgF (ds:List Dr)(c i j:Nat):Nat->Int
 | 0=>3
 | k+1=>match ds[k]? with
  | some x=>if x.l=c/\i=x.a/\j=x.b then(if(if 0<x.t then(1:Int)else 0)<sgF ds c i j k then(if 0<x.t then(1:Int)else 0)else sgF ds c i j k)else sgF ds c i j k
  | none=>sgF ds c i j k
theorem bI3  h  c i j :∀ k,0<=sgF h c i j k/\sgF h c i j k<=3
 | 0=>by unfold sgF;decide
 | k+1=>by
  have:=bI3 h c i j k;unfold sgF;split
  .repeat' split
   all_goals omega
  .exact this
def sgM (m:Mc)(c i j:Nat):Int:=sgF m.ds c i j m.ds.length
def cj5 :bi .int [.T b] s=.ok (.int (if b then 1 else 0)) s:=rfl
def aw4 [Has P ab4] n {m}(hm:m.Ok) c  s  :
  (aa0 P (n+1)).call "_law_letter_signs" [m.d,.str [c]] s=.ok (gd m.R (sgM m c)) s:=by
 have e0:(aa0 P (n+1)).call "_law_letter_signs" [m.d,.str [c]] s=_:=zb ab4 rfl;have hR:=hm.R5;rw[e0];simp -implicitDefEqProofs [ab4,ixR];rw[z6 (by unfold Ww62;lia) (by unfold Ww62;lia)];simp only[R.bind_ok];rw[gc (by rw[zZ];unfold LIM;lia)];refine wl λ _ kk=>?_;obtain⟨U1,s1,e1,G⟩:=bf7 (ok:=λ s1=>chk s s1 []) (g:=ql (aa0 P n) (.Y 0) (.mk .list (.comp (.Y 0) (.rg (.X 1)) (.K (.int 3)) [bY]))) (λ k U u=>u=s++(ae k).map (λ _=>O.J (row m.R λ _=>3))/\∃ x,U=[x,aT (.int m.R)]) (λ i=>.ref (s.length+i)) m.R (λ _ _ _ _=>rfl) (by
  rintro j hj U u ⟨rfl,x,rfl⟩
  refine⟨[aT (.int j),aT (.int m.R)],_,?_,rfl,_,rfl⟩;simp -implicitDefEqProofs [ql];rw[z6 (by unfold Ww62;lia) (by unfold Ww62;lia)];simp only[R.bind_ok];rw[gc (by rw[zZ];unfold LIM;lia)];obtain⟨U1,s1,e1,G⟩:=jA (ok:=λ s1=>chk (s++(ae j).map (λ _=>O.J (row m.R λ _=>3))) s1 []) (g:=ql (aa0 P n) (.Y 0) (.K (.int 3))) (λ U u=>u=s++(ae j).map (λ _=>O.J (row m.R λ _=>3))/\∃ x,U=[x]) (λ _=>.int 3) m.R (qb [aT (.int (j)),aT (.int m.R)] [bY]) _ ⟨rfl,bY,rfl⟩ (λ _ _ _=>rfl) (by
   rintro i _ U u ⟨rfl,x,rfl⟩
   exact⟨_,_,rfl,rfl,_,rfl⟩)
  obtain⟨rfl,_⟩:=G;rw[e1];simp -implicitDefEqProofs [mk,cE];rfl) 0 (qb [aT m.d,aT (.str [c]),aT (.int m.R),bY,bY,bY,bY,bY] [bY,aT 2]) s (dW _) ⟨by simp,bY,rfl⟩
 obtain⟨rfl,_⟩:=G;rw[show((0:Nat):Int)=0 from rfl]at e1;refine kk ?_;rw[e1];have el:(ae m.R).map (λ _=>O.J (row m.R λ _=>3))=al7 m.R (λ i j=>sgF m.ds c i j 0):=rfl;rw[el,mw,<-List.range_eq_range'];simp -implicitDefEqProofs [mk,ixD,ao4];refine jC (λ k U t=>∃(x y z w:Option D),U=[aT m.d,aT (.str [c]),aT (.int m.R),aT (.ref (s.length+m.R)),x,y,z,w]/\t=s++(al7 m.R (λ i j=>sgF m.ds c i j k)++[.J (aQ4 s.length m.R)])) ⟨bY,bY,bY,bY,rfl,rfl⟩ (λ _ _ _ _ _=>rfl) ?_ ?_
 .rintro k d U t hk ⟨x,y,z,w,rfl,rfl⟩
  rw[ao]at hk;obtain⟨v,hv,rfl⟩:∃ v,m.ds[k]?=aT v/\Dr.d v=d:=by
   simp_all
  have J:=hm.ds.1 v (aC hv);have ha:=J.a;have hb:=J.b;refine az0 (U:=[aT m.d,aT (.str [c]),aT (.int m.R),aT (.ref (s.length+m.R)),aT (.int v.a),aT (.str [v.l]),aT (.int v.b),aT (.int v.t)]) (s:=s++(al7 m.R (λ i j=>sgF m.ds c i j (k+1))++[.J (aQ4 s.length m.R)])) ?_ ⟨_,_,_,_,rfl,rfl⟩;have e3:(s++(al7 m.R (λ i j=>sgF m.ds c i j k)++[.J (aQ4 s.length m.R)]))[s.length+m.R]?=aT (.J (aQ4 s.length m.R)):=by
   simp_all
  have Z:(s++(al7 m.R (λ i j=>sgF m.ds c i j k)++[.J (aQ4 s.length m.R)]))[s.length+v.a]?=aT (.J (row m.R λ j=>sgF m.ds c v.a j k)):=by
   rw[ag (by lia),bS,ax (by simp_all),al8 ha]
  have e5:=qz e3 (bB9 ha);have e6:=qz Z (an8 hb);by_cases hl:v.l=c
  .simp -implicitDefEqProofs only[turn,Dr.d,bindT_tup,setVs_cons,setVs_nil,zC,zx,az,gJ,za,zl,z5,zK,zd,ze,zh,R.bind_ok,bj2,hl,decide_true,zD,if_true,ex_setIx,ev_bi,zo,zq,qa,e5,e6,zw,zy,gt_int,cj5,jR];rw[bV0 Z (by simp_all)];simp -implicitDefEqProofs only[R.bind_ok,zm,zl]
   congr 1
   rw[bD _ _ (by lia),bS,List.set_append_left _ _ (by simp_all)]
   congr 2
   rw[bh0 (f:=λ i j=>sgF m.ds c i j k)]
   congr 1
   funext i j
   rw[sgF,hv];by_cases h2:i=v.a/\j=v.b
   .obtain⟨rfl,rfl⟩:=h2;simp[hl]
   .simp[hl,h2]
  .simp -implicitDefEqProofs only[turn,Dr.d,bindT_tup,setVs_cons,setVs_nil,zC,zx,az,gJ,za,zl,z5,zK,zd,ze,zh,R.bind_ok,bj2,hl,decide_false,zD,if_false,aG,zm]
   congr 3
   congr 1
   funext i j
   rw[sgF,hv];simp[hl]
 .rintro U t ⟨x,y,z,w,rfl,rfl⟩
  rw[ar];have e3:(s++(al7 m.R (sgM m c)++[.J (aQ4 s.length m.R)]))[s.length+m.R]?=aT (.J (aQ4 s.length m.R)):=by
   simp_all
  show(nxt _ _ _ (s++(al7 m.R (sgM m c)++[.J (aQ4 s.length m.R)]))).bind _=_;simp -implicitDefEqProofs [ay0,e3];rw[gc (by unfold aQ4 LIM;simp;omega)];generalize hS:s++(al7 m.R (sgM m c)++[.J (aQ4 s.length m.R)])=S;obtain⟨U1,s1,e1,G⟩:=ar8 (ok:=λ s1=>chk S s1 [s.length+m.R]) (g:=ql (aa0 P n) (.Y 0) (.mk .tuple (.seq (.X 0)))) (λ U u=>u=S/\∃ x,U=[x]) (λ d=>match d with|.ref p=>.tp (row m.R (sgM m c (p - s.length)))|d=>d) (aQ4 s.length m.R) (qb [aT m.d,aT (.str [c]),aT (.int m.R),aT (.ref (s.length+m.R)),x,y,z,w] [bY]) S ⟨rfl,bY,rfl⟩ (λ _ u h=>by obtain⟨rfl,_⟩:=h;simp[chk]) (by
   rintro d hd U u ⟨rfl,x,rfl⟩
   obtain⟨i,hi,rfl⟩:=au.mp hd;have Y:=aX.mp hi;have Z:u[s.length+i]?=aT (.J (row m.R (sgM m c i))):=by
    rw[<-hS,ag (by lia),bS,ax (by simp_all),al8 Y]
   refine⟨[aT (.ref (s.length+i))],u,?_,rfl,_,rfl⟩;simp -implicitDefEqProofs [ql,bf1,Z,mk])
  obtain⟨rfl,_⟩:=G;rw[e1];simp -implicitDefEqProofs [mk];rw[<-hS];have:(aQ4 s.length m.R).map (λ d=>match d with|.ref p=>D.tp (row m.R (sgM m c (p - s.length)))|d=>d)=(ae m.R).map λ i=>.tp (row m.R (sgM m c i)):=by
   unfold aQ4
   simp_all
  rw[this];exact zT (d:=gd m.R (sgM m c)) qV (by nofun)
def ix_str {j :Nat}(hj:l[j]?=aT c):ixM (.str l) (.int (j)) s=.ok (.str [c]) s:=by
 have hl:=(ab.mp hj).1;have e:=(ab.mp hj).2;simp[ixM,ixn,hl,e]
def bs5  s  n  a b :eqv s n (.int a) (.int b)=aT (a==b):=by cases n<;>rfl
noncomputable def shN (f:Nat->Nat->Int)(i j:Nat):Nat->Int
 | 0=>3
 | k+1=>let b:=max (max (f i k) (if f k k=1 then 2 else f k k)) (f k j);if b<shN f i j k then b else shN f i j k
def sh (m:Nat)(f:Nat->Nat->Int)(i j:Nat):Int:=shN f i j m
def aE5 :bi .max3 [.int a,.int b,.int c] s=.ok (.int (max (max a b) c)) s:=rfl
def aV5 :bi .len [gd m f] s=.ok (.int m) s:=by
 show R.ok (D.int ((ae m).map λ i=>D.tp (row m (f i))).length) s=_;simp
def qE {s:Sto}(h:l.length<LIM):meth .append (.ref s.length) [v] (s++[.J l])=.ok .N (s++[.J (l++[v])]):=aO4 h
def bC4 [Has P ag5] n {m}(hR:m<=5) f  s  :
  (aa0 P (n+1)).call "_law_sharp" [gd m f] s=.ok (gd m (sh m f)) s:=by
 have e0:(aa0 P (n+1)).call "_law_sharp" [gd m f] s=_:=zb ag5 rfl;rw[e0];simp -implicitDefEqProofs [ag5,aV5];rw[z6 (by unfold Ww62;lia) (by unfold Ww62;lia)];simp only[R.bind_ok];refine jC (λ i U t=>∃(T:Sto) (x y z u v w:Option D),U=[aT (gd m f),aT (.int m),aT (.ref s.length),x,y,z,u,v,w]/\t=s++.J ((ae i).map λ i=>.tp (row m (sh m f i)))::T) ⟨[],bY,bY,bY,bY,bY,bY,rfl,rfl⟩ (λ _ _ _ _ _=>rfl) ?_ ?_
 .rintro i d U t hi ⟨T,x,y,z,u,v,w,rfl,rfl⟩
  have qq:=qG hi;have J:=qq.1;have hd:=qq.2;rw[hd];simp -implicitDefEqProofs only[turn,zg,zC,zx,az,za,zW,ev_lst,zq,R.bind_ok,qD,zt,zm,ex_for,qC,zd,ze,zh,cb,aN];rw[z6 (by unfold Ww62;omega) (by unfold Ww62;omega)];simp only[R.bind_ok];generalize Z:(ae i).map (λ i=>D.tp (row m (sh m f i)))=X;have a0:X.length=i:=by rw[<-Z];simp
  refine jl (λ j U t=>∃ z u v w ,U=[aT (gd m f),aT (.int m),aT (.ref s.length),aT (.int i),aT (.ref (s.length+(T.length+1))),z,u,v,w]/\t=s++.J X::(T++[.J ((ae j).map λ j=>.int (sh m f i j))])) ⟨z,u,v,w,rfl,rfl⟩ (λ _ _ _ _ _=>rfl) ?_ ?_
  .rintro j d U t hj ⟨z,u,v,w,rfl,rfl⟩
   have G:=(qG hj).1;rw[(qG hj).2];simp -implicitDefEqProofs only[turn,zg,zC,zx,az,za,zW,zw,zy,R.bind_ok,zt,zm,ex_for,qC,zd,ze,zh];rw[z6 (by unfold Ww62;lia) (by unfold Ww62;lia)];simp only[R.bind_ok];refine jl (Ww:=Nx _) (λ k U t=>∃(v w:Option D),U=[aT (gd m f),aT (.int m),aT (.ref s.length),aT (.int i),aT (.ref (s.length+(T.length+1))),aT (.int j),aT (.int (shN f i j k)),v,w]/\t=s++.J X::(T++[.J ((ae j).map λ j=>.int (sh m f i j))])) ⟨v,w,rfl,rfl⟩ (λ _ _ _ _ _=>rfl) ?_ ?_
   .rintro k d U t hk ⟨v,w,rfl,rfl⟩
    have h:=(qG hk).1;rw[(qG hk).2];refine az0 (U:=[aT (gd m f),aT (.int m),aT (.ref s.length),aT (.int i),aT (.ref (s.length+(T.length+1))),aT (.int j),aT (.int (shN f i j (k+1))),aT (.int k),aT (.int (if f k k=1 then 2 else f k k))]) (s:=s++.J X::(T++[.J ((ae j).map λ j=>.int (sh m f i j))])) ?_ ⟨_,_,rfl,rfl⟩;by_cases h1:f k k=1
    .simp -implicitDefEqProofs [turn,ay3 h,ay3 J,jv h,jv G,h1,aE5,shN]
    .simp -implicitDefEqProofs [turn,ay3 h,ay3 J,jv h,jv G,h1,aE5,shN]
   .rintro U t ⟨v,w,rfl,rfl⟩
    rw[zZ];have Y:(s++.J X::(T++[O.J ((ae j).map λ j=>D.int (sh m f i j))]))[s.length+(T.length+1)]?=aT (.J ((ae j).map λ j=>.int (sh m f i j))):=aE2;simp -implicitDefEqProofs only[zm,za,zl,jD,qd,zB,zo,zq,zd,ze,zh,R.bind_ok];rw[qH Y (by unfold LIM;simp;lia)];simp -implicitDefEqProofs only[R.bind_ok,zm,zl,bp4];refine⟨_,_,_,_,rfl,?_⟩;rw[bD _ _ (by lia),bS,List.set_cons_succ,bD _ _ (ai _),dj,List.set_cons_zero,cE,bO];rfl
  .rintro U t ⟨z,u,v,w,rfl,rfl⟩
   rw[zZ];have Y:(s++.J X::(T++[O.J ((ae m).map λ j=>D.int (sh m f i j))]))[s.length+(T.length+1)]?=aT (.J ((ae m).map λ j=>.int (sh m f i j))):=aE2;simp -implicitDefEqProofs only[zm,za,zl,jD,qd,zB,zo,zq,zd,ze,zh,R.bind_ok,ev_mk,evL_seq,bf1,Y,mk];rw[aO4 (by unfold LIM;lia)];simp -implicitDefEqProofs only[R.bind_ok,zm,zl,bp4];refine⟨T++[O.J (aO (λ j=>D.int (sh m f i j)) (ae m))],_,_,_,_,_,_,rfl,?_⟩;rw[cE,bO,Z];rfl
 .rintro U t ⟨T,x,y,z,u,v,w,rfl,rfl⟩
  rw[zZ];have h0:(s++.J ((ae m).map λ i=>D.tp (row m (sh m f i)))::T:Sto)[s.length]?=aT (.J ((ae m).map λ i=>D.tp (row m (sh m f i)))):=by rw[ag (ai _)];simp
  simp -implicitDefEqProofs [bf1,h0,mk];exact zT (d:=gd m (sh m f)) qV (by nofun)
theorem bh1 { m:Nat}{f g:Nat->Int}:∀ l:List Nat,eqL (eqv s n) (l.map λ j=>.int (f j)) (l.map λ j=>.int (g j))=aT (l.all λ j=>f j==g j)
 | []=>rfl
 | a::l=>by
  rw[aJ,aJ];unfold eqL;rw[bs5,bh1 (m:=m) l];simp
theorem bH7 {f g:Nat->Nat->Int}:∀ l:List Nat,eqL (eqv s (n+1)) (l.map λ i=>.tp (row m (f i))) (l.map λ i=>.tp (row m (g i)))=aT (l.all λ i=>(ae m).all λ j=>f i j==g i j)
 | []=>rfl
 | a::l=>by
  rw[aJ,aJ];unfold eqL;rw[show eqv s (n+1) (.tp (row m (f a))) (.tp (row m (g a)))=eqL (eqv s n) (row m (f a)) (row m (g a))from rfl,row,row,bh1 (m:=m),bH7 l];simp
def EqG (m:Nat)(f g:Nat->Nat->Int):Prop:=∀ i j,i<m->j<m->f i j=g i j
def cc1 :∃ b,eqv s DEEP (gd m f) (gd m g)=aT b/\(b=cn↔EqG m f g):=by
 refine⟨_,bH7 (ae m),?_⟩;simp[aU];exact⟨λ h i j y hj=>h i y j hj,λ h i y j hj=>h i j y hj⟩
def cc4 :∃ b,qp .eq (gd m f) (gd m g) s=.ok (.T b) s/\(b=cn↔EqG m f g):=by
 obtain⟨b,e,h⟩:=cc1 ;exact⟨b,by show(match eqv s DEEP (gd m f) (gd m g)with|some r=>R.ok (D.T r) s|none=>.B)=_;rw[e],h⟩
inductive Stp where
 | let_ (c:Nat)|pair (i j:Nat)|sharp (i:Nat)
noncomputable abbrev Stp.ctorIdx (x:Stp):Nat:=Stp.casesOn x (λ _=>0) (λ _ _=>1) (λ _=>2)
noncomputable def bF6:List Nat:=[108,101,116,116,101,114]
noncomputable def at9:List Nat:=[112,97,105,114]
noncomputable def bq5:List Nat:=[115,104,97,114,112]
noncomputable def ap3:List Nat:=[116,105,109,101,115]
noncomputable def Stp.d:Stp->D
 | .let_ c=>.tp [.str [108,101,116,116,101,114],.str [c]]
 | .pair i j=>.tp [.str [112,97,105,114],.int i,.int j]
 | .sharp i=>.tp [.str [115,104,97,114,112],.int i]
theorem Stp.bnd (x:Stp) n :x.d.bnd n=true:=by cases x<;>rfl
def zN (h:∀ d∈l,d.ncl=cn):D.nclL l=true:=by
 induction l with
 | nil=>rfl
 | cons d l ih=>unfold D.nclL;rw[h d (aH ..),ih λ x hx=>h x (aB _ hx)];rfl
theorem Stp.ncl (x:Stp):x.d.ncl=true:=by cases x<;>rfl
def by5 {l:List Stp}:D.nclL (l.map Stp.d)=true:=zN λ d hd=>by obtain⟨x,_,rfl⟩:=au.mp hd;exact x.ncl
def aX3 :D.nclL (qF l)=true:=zN λ d hd=>by obtain⟨x,_,rfl⟩:=au.mp hd;rfl
def ar9 {l:List Int}:D.nclL (l.map D.int)=true:=zN λ d hd=>by obtain⟨x,_,rfl⟩:=au.mp hd;rfl
def bq1 :D.nclL (row m f)=true:=zN λ d hd=>by obtain⟨x,_,rfl⟩:=au.mp hd;rfl
def ap0 :(gd m f).ncl=true:=by
 unfold gd D.ncl;exact zN λ d hd=>by obtain⟨x,_,rfl⟩:=au.mp hd;unfold D.ncl;exact bq1
def bP0 {s:Sto}(h:s.all O.ncl=cn)(ho:o.ncl=cn):(s.set r o).all O.ncl=true:=by
 rw[aU]at h ⊢;intro x hx;rcases fY hx with h1|h1
 .exact h x h1
 .rw[h1];exact ho
inductive Mks (m:Mc):List Stp->List (Nat->Nat->Int)->Prop where
 | nil:Mks m [] []
 | let_ {l fs} (c:Nat):Mks m l fs->97<=c->c<97+m.L->Mks m (l++[.let_ c]) (fs++[sgM m c])
 | pair {l fs} (i j:Nat) (f g:Nat->Nat->Int):Mks m l fs->fs[i]?=aT f->fs[j]?=aT g->Mks m (l++[.pair i j]) (fs++[pr m.R f g])
 | sharp {l fs} (i:Nat) (f:Nat->Nat->Int):Mks m l fs->fs[i]?=aT f->EqG m.R (pr m.R f f) f->Mks m (l++[.sharp i]) (fs++[sh m.R f])
def Mks.len (h:Mks m l fs):l.length=fs.length:=by
 induction h<;>simp_all
def stM (s:Sto)(r:Nat)(b:Int)(A B Cc:List D)(T:Sto):Sto:=s.set r (qO b)++(.J A::.J B::.J Cc::T)
section
variable {s:Sto} {r:Nat} {b:Int} {A B Cc:List D} {T:Sto}
def cf6:(stM s r b A B Cc T)[s.length]?=aT (.J A):=by unfold stM;rw[ag (by simp)];simp
def be4:(stM s r b A B Cc T)[s.length+1]?=aT (.J B):=by unfold stM;rw[ag (by simp)];simp
def by1:(stM s r b A B Cc T)[s.length+2]?=aT (.J Cc):=by unfold stM;rw[ag (by simp)];simp
def bk9 (h:A.length<LIM):meth .append (.ref s.length) [v] (stM s r b A B Cc T)=.ok .N (stM s r b (A++[v]) B Cc T):=by
 rw[qH cf6 h];unfold stM;simp_all
def bn0 (h:B.length<LIM):meth .append (.ref (s.length+1)) [v] (stM s r b A B Cc T)=.ok .N (stM s r b A (B++[v]) Cc T):=by
 rw[qH be4 h];unfold stM;simp_all
def cj8 (h:Cc.length<LIM):meth .append (.ref (s.length+2)) [v] (stM s r b A B Cc T)=.ok .N (stM s r b A B (Cc++[v]) T):=by
 rw[qH by1 h];unfold stM;simp_all
def aF0 :stM s r b A B Cc T++[o]=stM s r b A B Cc (T++[o]):=by unfold stM;simp
def aG1:(stM s r b A B Cc T).length=s.length+(T.length+3):=by unfold stM;simp
def bw5 :(stM s r b A B Cc (T++[o]))[s.length+(T.length+3)]?=aT o:=by
 rw[<-aF0,ag (by rw[aG1];lia),aG1];simp
def ar4 [Has P ah4] n (G:r<s.length) y (h0:0<y)(h:y<=10^90) :
  ∃(k:Nat) (J:Int),(k:Int)<y/\(aa0 P (n+1)).call "_law_draw" [.ref r,.int y] (stM s r b A B Cc T)=.ok (.int k) (stM s r J A B Cc T):=jr n G b y h0 h
end
def aX6 :qp .ne (.ref (s.length+2)) (.ref (s.length+(T.length+3))) (stM s r b A B Cc (T++[O.J []]))=.ok (.T (!decide (Cc=[]))) (stM s r b A B Cc (T++[O.J []])):=by
 show(match eqv (stM s r b A B Cc (T++[O.J []])) DEEP (.ref (s.length+2)) (.ref (s.length+(T.length+3)))with|some r=>R.ok (D.T (!r)) _|none=>.B)=_;have:eqv (stM s r b A B Cc (T++[O.J []])) DEEP (.ref (s.length+2)) (.ref (s.length+(T.length+3)))=aT (decide (Cc=[])):=by
  show(match(stM s r b A B Cc (T++[O.J []]))[s.length+2]?,(stM s r b A B Cc (T++[O.J []]))[s.length+(T.length+3)]? with
   | some (O.J l),aT (O.J m)=>if l.length=m.length then eqL (eqv (stM s r b A B Cc (T++[O.J []])) 29) l m else aT dt
   | _,_=>bY)=_
  rw[by1,bw5];cases Cc<;>rfl
 rw[this]
def zG (m:Nat)(fs:List (Nat->Nat->Int)):List D:=fs.map (gd m)
def ar7 :D.nclL (zG m fs)=true:=zN λ d hd=>by obtain⟨x,_,rfl⟩:=au.mp hd;exact ap0
def jn { i:Nat}(h:fs[i]?=aT f):(zG m fs)[i]?=aT (gd m f):=by
 unfold zG;simp_all
noncomputable def mkC:E:=.and (.Z .lt (.X 8) (.K (.int 4))) (.and (.Z .gt (.X 3) (.K (.int 0))) (.and (.Z .ne (.X 6) (.J .nil)) (.Z .gt (.X 8) (.K (.int 0)))))
noncomputable def mkA:Ss:=(.cons (.A (.Y 9) (.ix (.X 6) (.G .mod (.X 10) (.bi .len (.cons (.X 6) .nil))))) (.cons (.ex (.me .append (.X 4) (.cons (.tp (.cons (.K (.str [115,104,97,114,112])) (.cons (.X 9) .nil))) .nil))) (.cons (.ex (.me .append (.X 5) (.cons (.call "_law_sharp" (.ex (.ix (.X 5) (.X 9)) .nil)) .nil))) (.cons (.A (.Y 3) (.G .sub (.X 3) (.K (.int 1)))) .nil))))
noncomputable def mkB:Ss:=(.cons (.A (.Y 9) (.bi .min2 (.cons (.X 9) (.cons (.G .sub (.X 7) (.K (.int 1))) .nil)))) (.cons (.A (.Y 10) (.ite (.Z .gt (.X 8) (.K (.int 1))) (.bi .min2 (.cons (.X 10) (.cons (.G .sub (.X 7) (.K (.int 1))) .nil))) (.X 9))) (.cons (.ex (.me .append (.X 4) (.cons (.tp (.cons (.K (.str [112,97,105,114])) (.cons (.X 9) (.cons (.X 10) .nil)))) .nil))) (.cons (.ex (.me .append (.X 5) (.cons (.call "_law_product" (.ex (.ix (.X 5) (.X 9)) (.ex (.ix (.X 5) (.X 10)) .nil))) .nil))) .nil))))
noncomputable def mkL:Ss:=(.cons (.A (.Y 11) (.ix (.K (.str [97,98,99])) (.G .mod (.X 9) (.ix (.X 1) (.K (.int 0)))))) (.cons (.ex (.me .append (.X 4) (.cons (.tp (.cons (.K (.str [108,101,116,116,101,114])) (.cons (.X 11) .nil))) .nil))) (.cons (.ex (.me .append (.X 5) (.cons (.call "_law_letter_signs" (.ex (.X 1) (.ex (.X 11) .nil))) .nil))) .nil)))
def mkI:S:=.ite mkC mkA (.cons (.ite (.and (.Z .gt (.X 7) (.K (.int 0))) (.Z .lt (.X 8) (.K (.int 5)))) mkB mkL) .nil)
noncomputable def mkE:S:=.ite (.Z .eq (.call "_law_product" (.ex (.ix (.X 5) (.X 7)) (.ex (.ix (.X 5) (.X 7)) .nil))) (.ix (.X 5) (.X 7))) (.cons (.ex (.me .append (.X 6) (.cons (.X 7) .nil))) .nil) .nil
def ax6 (m:Nat)(fs:List (Nat->Nat->Int))(Cc:List Nat):Prop:=∀ i∈Cc,∃ f,fs[i]?=aT f/\EqG m (pr m f f) f
def ax6.app (h:ax6 m fs Cc):ax6 m (fs++[g]) Cc:=λ i y=>by
 obtain⟨f,e,q⟩:=h i y;exact⟨f,by rw[ax (ab.mp e).1];exact e,q⟩
noncomputable def ax9 (s:Sto)(r:Nat)(m:Mc)(most z:Int)(k:Option D)(x8 x9 x10 x11:Option D):Env:=[aT (.ref r),aT m.d,aT (.int most),aT (.int z),aT (.ref s.length),aT (.ref (s.length+1)),aT (.ref (s.length+2)),k,x8,x9,x10,x11]
def bZ2 {k way one other:Nat} :
  ∃(c:Bool) (y:Sto),ev F mkC (ax9 s r m most z (aT (.int k)) (aT (.int way)) (aT (.int one)) (aT (.int other)) x11) (stM s r b A B Cc T)=.ok (.T c) (stM s r b A B Cc y)/\(c=cn->Cc≠[])/\(T.all O.ncl=cn->y.all O.ncl=cn):=by
 unfold mkC ax9;by_cases h1:(way:Int)<4
 .by_cases h2:0<z
  .by_cases h3:Cc=[]
   .refine⟨dt,T++[.J []],?_,nofun,λ h=>by rw[da,h];rfl⟩;simp -implicitDefEqProofs [h1,h2,aF0,aG1];rw[aX6]
    simp_all
   .refine⟨decide (0<(way)),T++[.J []],?_,λ _=>h3,λ h=>by rw[da,h];rfl⟩;simp -implicitDefEqProofs [h1,h2,aF0,aG1];rw[aX6]
    simp_all
  .exact⟨dt,T,by simp -implicitDefEqProofs [h1,h2],nofun,id⟩
 .exact⟨dt,T,by simp -implicitDefEqProofs [h1],nofun,id⟩
def ixm {j:Nat}(h:s[r]?=aT (.J l))(e:i=(j:Int))(hj:l[j]?=aT d):ixM (.ref r) (.int i) s=.ok d s:=by rw[e];exact qz h hj
set_option tactic.hygienic true in
def cd5 [Has P ab6][Has P ab4][Has P ag5]{n:Nat}{s:Sto}{r:Nat}{m:Mc}(hm:m.Ok){most z:Int}{k way one other:Nat}{x11:Option D}{b:Int}{l:List Stp}{fs:List (Nat->Nat->Int)}{Cc:List Nat}{T:Sto}
  (hM:Mks m l fs) (hk:l.length=k) (b3:k<1000) (a6:one<k+1) (b1:other<k+1) (hC:ax6 m.R fs Cc) :
  ∃(x:Stp) (f:Nat->Nat->Int) (z':Int) (x9 x10 a0:Option D) (y:Sto),Mks m (l++[x]) (fs++[f])/\(T.all O.ncl=cn->y.all O.ncl=cn) /\
   ex (aa0 P (n+1)) mkI (ax9 s r m most z (aT (.int k)) (aT (.int way)) (aT (.int one)) (aT (.int other)) x11) (stM s r b (l.map Stp.d) (zG m.R fs) (qF Cc) T)
    = .ok (.next (ax9 s r m most z' (aT (.int k)) (aT (.int way)) x9 x10 a0)) (stM s r b ((l++[x]).map Stp.d) (zG m.R (fs++[f])) (qF Cc) y):=by
 have b0:=hM.len;have J:(l.map Stp.d).length<LIM:=by unfold LIM;grind
 have Y:(zG m.R fs).length<LIM:=by unfold LIM zG;grind
 obtain⟨c,y,ec,hc,hT⟩:=bZ2 (F:=aa0 P (n+1)) (s:=s) (r:=r) (m:=m) (most:=most) (z:=z) (k:=k) (way:=way) (one:=one) (other:=other) (x11:=x11) (b:=b) (A:=l.map Stp.d) (B:=zG m.R fs) (Cc:=qF Cc) (T:=T);unfold mkI;rw[z5,ec,zD];cases c with
 | true =>
  have hne:=hc rfl;have a2:0<Cc.length:=by
   cases Cc with
   | nil=>exact iF rfl hne
   | cons _ _=>simp
  rw[gc rfl];have hq:other % Cc.length<Cc.length:=hU _ a2;obtain⟨i,hi⟩:∃ i,Cc[other % Cc.length]?=aT i:=⟨_,ac hq⟩
  obtain⟨f,hf,a3⟩:=hC i (aC hi);refine⟨.sharp i,sh m.R f,z - 1,aT (.int i),aT (.int other),x11,y,.sharp i f hM hf a3,hT,?_⟩;have i1:∀ T,ixM (.ref (s.length+2)) (.int ((other:Int) % (Cc.length:Int))) (stM s r b (l.map Stp.d) (zG m.R fs) (qF Cc) T)=.ok (.int i) (stM s r b (l.map Stp.d) (zG m.R fs) (qF Cc) T):=λ T=>ixm by1 (j:=other % Cc.length) (by simp) (by unfold qF;simp_all);have i2:∀ A T,ixM (.ref (s.length+1)) (.int (i:Int)) (stM s r b A (zG m.R fs) (qF Cc) T)=.ok (gd m.R f) (stM s r b A (zG m.R fs) (qF Cc) T):=λ A T=>qz be4 (jn hf);have l2:bi .len [.ref (s.length+2)] (stM s r b (l.map Stp.d) (zG m.R fs) (qF Cc) y)=.ok (.int Cc.length) (stM s r b (l.map Stp.d) (zG m.R fs) (qF Cc) y):=by rw[bo4 by1];simp[qF]
  unfold mkA ax9;simp -implicitDefEqProofs only[za,zl,zW,jD,qa,zd,qg,ev_bi,zo,zq,ze,zh,R.bind_ok,l2,jw (show(0:Int)<(Cc.length:Int)by lia),i1,zg,zC,zx,az,zt,zm,qd,zB,jE,zw,qk,zy,bk9 J,zR,zE,zz,i2,bC4 n hm.R5,bn0 Y,sub_int];unfold zG;simp[Stp.d]
 | false =>
  rw[gn aS];by_cases hk0:0<k/\way<5
  .obtain⟨h1,h2⟩:=hk0;have G:∀ a:Nat,(if(k:Int) - 1<(a:Int)then(k:Int) - 1 else(a:Int))=((min a (k - 1):Nat):Int):=λ a=>by lia
   obtain⟨j,hj,hoj⟩:∃ j:Nat,j<k/\(if(1:Int)<(way:Int)then((min other (k - 1):Nat):Int)else((min one (k - 1):Nat):Int))=(j:Int):=by
    grind
   have hi:min one (k - 1)<fs.length:=by lia
   have a1:j<fs.length:=by lia
   refine⟨.pair (min one (k - 1)) j,pr m.R fs[min one (k - 1)] fs[j],z,aT (.int (min one (k - 1):Nat)),aT (.int j),x11,y,.pair _ _ _ _ hM (ac hi) (ac a1),hT,?_⟩;have i1:∀ A T,ixM (.ref (s.length+1)) (.int ((min one (k - 1):Nat):Int)) (stM s r b A (zG m.R fs) (qF Cc) T)=.ok (gd m.R fs[min one (k - 1)]) (stM s r b A (zG m.R fs) (qF Cc) T):=λ A T=>qz be4 (jn (ac hi));have i2:∀ A T,ixM (.ref (s.length+1)) (.int (j:Int)) (stM s r b A (zG m.R fs) (qF Cc) T)=.ok (gd m.R fs[j]) (stM s r b A (zG m.R fs) (qF Cc) T):=λ A T=>qz be4 (jn (ac a1));have a5:(0:Int)<(k:Int):=by lia
   have a4:(way:Int)<5:=by lia
   have eo:ev (aa0 P (n+1)) (.ite (.Z .gt (.X 8) (.K (.int 1))) (.bi .min2 (.cons (.X 10) (.cons (.G .sub (.X 7) (.K (.int 1))) .nil))) (.X 9)) (ax9 s r m most z (aT (.int k)) (aT (.int way)) (aT (.int (min one (k - 1):Nat))) (aT (.int other)) x11) (stM s r b (l.map Stp.d) (zG m.R fs) (qF Cc) y)=.ok (.int j) (stM s r b (l.map Stp.d) (zG m.R fs) (qF Cc) y):=by
    rw[<-hoj];unfold ax9;by_cases h:(1:Int)<(way:Int)
    .simp_all
    .simp -implicitDefEqProofs only[jY,zK,zd,zw,zy,ze,zh,R.bind_ok,gt_int,zD,h,decide_false,if_false,aG]
   unfold mkB;unfold ax9 at eo ⊢;simp -implicitDefEqProofs only[za,zl,z5,ev_and,zK,zd,zw,zy,qk,ze,zh,R.bind_ok,gt_int,lt_int,a5,a4,decide_true,zD,if_true,zW,ev_bi,zo,zq,qg,sub_int,jR,G,zg,zC,zx,az,zt,zm,eo,jD,qd,zB,jE,bk9 J,zR,zE,zz,qa,i1,i2,aC1 n hm.R5,bn0 Y];unfold zG;simp[Stp.d]
  .have Z:ev (aa0 P (n+1)) (.and (.Z .gt (.X 7) (.K (.int 0))) (.Z .lt (.X 8) (.K (.int 5)))) (ax9 s r m most z (aT (.int k)) (aT (.int way)) (aT (.int one)) (aT (.int other)) x11) (stM s r b (l.map Stp.d) (zG m.R fs) (qF Cc) y)=.ok (.T dt) (stM s r b (l.map Stp.d) (zG m.R fs) (qF Cc) y):=by
    unfold ax9;by_cases h1:(0:Int)<(k:Int)
    .have h2:¬(way:Int)<5:=λ h=>hk0 ⟨by lia,by lia⟩
     simp_all
    simp_all
   have hL:=hm.L1;have b2:=hm.L3;have hq:one % m.L<m.L:=hU _ hL;refine⟨.let_ (97+one % m.L),sgM m (97+one % m.L),z,aT (.int one),aT (.int other),aT (.str [97+one % m.L]),y,.let_ _ hM (by lia) (by lia),hT,?_⟩;have em:((one:Int) % (m.L:Int))=((one % m.L:Nat):Int):=by simp
   rw[za,z5,Z];unfold mkL ax9;simp -implicitDefEqProofs only[zD,if_false,aG,za,zl,zW,qa,zw,qk,zy,qg,zd,ze,zh,R.bind_ok,ixL,jw (show(0:Int)<(m.L:Int)by lia),em,bt5 (show one % m.L<3 by lia),zg,zC,zx,az,zt,zm,jD,qd,zB,jE,zo,zq,bk9 J,zR,zE,zz,aw4 n hm,bn0 Y];unfold zG;simp[Stp.d]
set_option tactic.hygienic true in
def ci3 [Has P ab6]{n}{s}{r}{m}(Z:m.Ok){most z}{k}{x8 x9 x10 x11}{b}{A}{fs:List (Nat->Nat->Int)}{Cc}{T}
  (hk:fs.length=k+1) (a0:Cc.length<1000) (Y:ax6 m.R fs Cc) :
  ∃ y ,y.length<=Cc.length+1/\ax6 m.R fs y /\
   ex (aa0 P (n+1)) mkE (ax9 s r m most z (aT (.int k)) x8 x9 x10 x11) (stM s r b A (zG m.R fs) (qF Cc) T)
    = .ok (.next (ax9 s r m most z (aT (.int k)) x8 x9 x10 x11)) (stM s r b A (zG m.R fs) (qF y) T):=by
 obtain⟨f,J⟩:∃ f,fs[k]?=aT f:=⟨_,ac (by lia)⟩
 have i1:ixM (.ref (s.length+1)) (.int (k:Int)) (stM s r b A (zG m.R fs) (qF Cc) T)=.ok (gd m.R f) (stM s r b A (zG m.R fs) (qF Cc) T):=qz be4 (jn J);obtain⟨c,ec,hc⟩:=cc4 (s:=stM s r b A (zG m.R fs) (qF Cc) T) (m:=m.R) (f:=pr m.R f f) (g:=f);have G:ev (aa0 P (n+1)) (.Z .eq (.call "_law_product" (.ex (.ix (.X 5) (.X 7)) (.ex (.ix (.X 5) (.X 7)) .nil))) (.ix (.X 5) (.X 7))) (ax9 s r m most z (aT (.int k)) x8 x9 x10 x11) (stM s r b A (zG m.R fs) (qF Cc) T)=.ok (.T c) (stM s r b A (zG m.R fs) (qF Cc) T):=by
  unfold ax9;simp -implicitDefEqProofs only[zK,zR,zE,zz,qa,zd,ze,zh,R.bind_ok,i1,aC1 n Z.R5,ec]
 unfold mkE;rw[z5,G,zD];cases c with
 | false=>exact⟨Cc,by lia,Y,rfl⟩
 | true =>
  refine⟨Cc++[k],by simp,λ i hi=>?_,?_⟩
  .rcases bN.mp hi with h|h
   .exact Y i h
   .rw[bv.mp h];exact⟨f,J,hc.mp rfl⟩
  .rw[gc rfl];unfold ax9;simp -implicitDefEqProofs only[za,zl,jD,qd,zB,zd,zo,zq,ze,zh,R.bind_ok,cj8 (show(qF Cc).length<LIM by unfold qF LIM;simp;lia),zm];unfold qF;simp
def MkR (s:Sto)(r:Nat)(m:Mc)(most:Nat)(x:R D):Prop:=∃(l:List Stp) (fs:List (Nat->Nat->Int)) (b:Int) (T:Sto) (p:Nat),Mks m l fs/\1<=l.length/\l.length<=most/\(s.set r (qO b)++T)[p]?=aT (.J (zG m.R fs))/\T.all O.ncl=cn/\x=.ok (.tp [.tp (l.map Stp.d),.ref p]) (s.set r (qO b)++T)
def aY8 [Has P ah4][Has P ab6][Has P ab4][Has P ag5][Has P ah1] n {s}{r}(hs:∃ b,s[r]?=aT (qO b)){m}(hm:m.Ok) most (h0:1<=most)(h1:most<=500) z  :
  MkR s r m most ((aa0 P (n+2)).call "_law_makings" [.ref r,m.d,.int most,.int z] s):=by
 have e0:(aa0 P (n+2)).call "_law_makings" [.ref r,m.d,.int most,.int z] s=_:=zb ah1 rfl;have hr:=aU2 hs;obtain⟨b0,a3⟩:=hs;have es:s=s.set r (qO b0):=by
  rw[((ab.mp a3).2).symm,List.set_getElem_self]
 have eS:s++[O.J [],O.J [],O.J []]=stM s r b0 [] [] [] []:=by unfold stM;rw[<-es]
 obtain⟨d,b1,hd,ed⟩:=ar4 (P:=P) n (b:=b0) (A:=[]) (B:=[]) (Cc:=[]) (T:=[]) hr most (by lia) (qJ (by lia));rw[e0];have body:ah1.body=.cons (.A (.Y 4) (.J .nil)) (.cons (.A (.Y 5) (.J .nil)) (.cons (.A (.Y 6) (.J .nil)) (.cons (.fo (.Y 7) (.rg (.G .add (.K (.int 1)) (.call "_law_draw" (.ex (.X 0) (.ex (.X 2) .nil))))) (.cons (.A (.Y 8) (.call "_law_draw" (.ex (.X 0) (.ex (.K (.int 6)) .nil)))) (.cons (.A (.Y 9) (.call "_law_draw" (.ex (.X 0) (.ex (.G .add (.X 7) (.K (.int 1))) .nil)))) (.cons (.A (.Y 10) (.call "_law_draw" (.ex (.X 0) (.ex (.G .add (.X 7) (.K (.int 1))) .nil)))) (.cons mkI (.cons mkE .nil)))))) (.cons (.ret (.tp (.cons (.mk .tuple (.seq (.X 4))) (.cons (.X 5) .nil)))) .nil)))):=rfl;rw[body,show(aO aT [D.ref r,m.d,.int most,.int z]++ak ah1.vs bY)=[aT (D.ref r),aT m.d,aT (.int most),aT (.int z),bY,bY,bY,bY,bY,bY,bY,bY]from rfl];simp -implicitDefEqProofs only[za,zW,ev_lst,zq,R.bind_ok,qD,zg,zC,zx,az,zt,zm,cb,cU,dF,aN,aQ,c9,ex_for,qC,qg,zw,zy,zR,zE,zz,zd,ze,zh,eS,ed,add_int,bB];rw[z6 (by unfold Ww62;lia) (by unfold Ww62;lia),show((1:Int)+(d:Int))=((d+1:Nat):Int)by lia];simp only[R.bind_ok,R.bind_assoc];refine jl (Ww:=MkR s r m most) (λ k U t=>∃(l:List Stp) (fs:List (Nat->Nat->Int)) (Cc:List Nat) (b:Int) (T:Sto) (z:Int) (Y x8 x9 x10 x11:Option D),Mks m l fs/\l.length=k/\Cc.length<=k/\ax6 m.R fs Cc/\T.all O.ncl=cn/\U=ax9 s r m most z Y x8 x9 x10 x11/\t=stM s r b (l.map Stp.d) (zG m.R fs) (qF Cc) T) ⟨[],[],[],b1,[],z,bY,bY,bY,bY,bY,.nil,rfl,ai _,λ _ h=>(by cases h),rfl,rfl,rfl⟩ (λ _ _ _ _ _=>rfl) ?_ ?_
 .rintro k dd U t hk ⟨l,fs,Cc,b,T,z,Y,x8,x9,x10,x11,Z,hl,a1,hC,hT,rfl,rfl⟩
  have a5:=(qG hk).1;rw[(qG hk).2];refine wl λ _ kk=>?_;obtain⟨way,c1,_,f1⟩:=ar4 (P:=P) n (s:=s) (b:=b) (A:=l.map Stp.d) (B:=zG m.R fs) (Cc:=qF Cc) (T:=T) hr 6 (by decide) (by decide);obtain⟨one,c2,ho,f2⟩:=ar4 (P:=P) n (s:=s) (b:=c1) (A:=l.map Stp.d) (B:=zG m.R fs) (Cc:=qF Cc) (T:=T) hr ((k:Int)+1) (by lia) (qJ (by lia));obtain⟨other,y,a6,f3⟩:=ar4 (P:=P) n (s:=s) (b:=c2) (A:=l.map Stp.d) (B:=zG m.R fs) (Cc:=qF Cc) (T:=T) hr ((k:Int)+1) (by lia) (qJ (by lia));obtain⟨x,f,z',y9,G,J,T',a4,a0,eI⟩:=cd5 (P:=P) (n:=n) (s:=s) (r:=r) hm (most:=most) (z:=z) (k:=k) (way:=way) (one:=one) (other:=other) (x11:=x11) (b:=y) (T:=T) Z hl (by lia) (by lia) (by lia) hC;obtain⟨Cc',b2,a2,eE⟩:=ci3 (P:=P) (n:=n) (s:=s) (r:=r) hm (most:=most) (z:=z') (k:=k) (x8:=aT (.int way)) (x9:=y9) (x10:=G) (x11:=J) (b:=y) (A:=(l++[x]).map Stp.d) (T:=T') (Cc:=Cc) (fs:=fs++[f]) (by have:=Z.len;grind) (by lia) hC.app;refine kk ?_;refine az0 (U:=ax9 s r m most z' (aT (.int k)) (aT (.int way)) y9 G J) (s:=stM s r y ((l++[x]).map Stp.d) (zG m.R (fs++[f])) (qF Cc') T') ?_ ⟨l++[x],fs++[f],Cc',y,T',z',_,_,_,_,_,a4,by simp;omega,by lia,a2,a0 hT,rfl,rfl⟩;have st:turn (aa0 P (n+1)) (.Y 7) (.cons (.A (.Y 8) (.call "_law_draw" (.ex (.X 0) (.ex (.K (.int 6)) .nil)))) (.cons (.A (.Y 9) (.call "_law_draw" (.ex (.X 0) (.ex (.G .add (.X 7) (.K (.int 1))) .nil)))) (.cons (.A (.Y 10) (.call "_law_draw" (.ex (.X 0) (.ex (.G .add (.X 7) (.K (.int 1))) .nil)))) (.cons mkI (.cons mkE .nil))))) (.int k) (ax9 s r m most z Y x8 x9 x10 x11) (stM s r b (l.map Stp.d) (zG m.R fs) (qF Cc) T)
    = exs (aa0 P (n+1)) (.cons mkI (.cons mkE .nil)) (ax9 s r m most z (aT (.int k)) (aT (.int way)) (aT (.int one)) (aT (.int other)) x11) (stM s r y (l.map Stp.d) (zG m.R fs) (qF Cc) T):=by
   unfold turn ax9;simp -implicitDefEqProofs only[zg,zC,zx,az,za (.A _ _),zW,zR,zE,zz,zd,qg,zw,zy,add_int,ze,zh,R.bind_ok,f1,f2,f3,zt,zm]
  rw[st,za,eI,R.bind_ok,zm,za,eE,R.bind_ok,zm,zl]
 .rintro U t ⟨l,fs,Cc,b,T,z,Y,x8,x9,x10,x11,Z,hl,a1,hC,hT,rfl,rfl⟩
  rw[zZ]at hl;unfold ax9;simp -implicitDefEqProofs only[zm,za,zl,zX,jE,zo,zq,ev_mk,evL_seq,zd,ze,zh,R.bind_ok,bf1,cf6,mk,zI,zJ];refine⟨l,fs,b,.J (l.map Stp.d)::.J (zG m.R fs)::.J (qF Cc)::T,s.length+1,Z,by lia,by lia,be4,by simp only[cA,O.ncl,by5,ar7,aX3,hT,Bool.and_self],?_⟩;unfold zY;rw[show stM s r b (l.map Stp.d) (zG m.R fs) (qF Cc) T=s.set r (qO b)++(.J (l.map Stp.d)::.J (zG m.R fs)::.J (qF Cc)::T)from rfl,gc (ax7 s _ r (qO b) rfl)];have:(D.tp [.tp (l.map Stp.d),.ref (s.length+1)]).bnd s.length=false:=by
   unfold D.bnd D.bndL D.bndL D.bndL;simp[D.bnd]
  simp only[this,if_false,aG]
theorem bm7 :∀ k,prN f g i j k<=x↔3<=x\/∃ l,l<k/\f i l<3/\f i l<=x/\g l j<=x
 | 0=>by unfold prN;exact⟨.inl,λ h=>h.elim id λ⟨l,hl,_⟩=>iF hl (ic _)⟩
 | k+1=>by
  have y:=bm7 (f:=f) (g:=g) (i:=i) (j:=j) (x:=x) k;have key:prN f g i j (k+1)<=x↔prN f g i j k<=x\/(f i k<3/\f i k<=x/\g k j<=x):=by
   conv=>lhs;unfold prN
   simp only
   repeat' split
   all_goals omega
  rw[key,y];constructor
  .rintro((h|⟨l,h1,h2⟩)|h)
   .exact .inl h
   .exact .inr ⟨l,by lia,h2⟩
   .exact .inr ⟨k,by lia,h⟩
  .rintro(h|⟨l,h1,h2⟩)
   .exact .inl (.inl h)
   .by_cases e:l=k
    .subst e;exact .inr h2
    .exact .inl (.inr ⟨l,by lia,h2⟩)
def bR3 (hx:x<3):pr m f g i j<=x↔∃ l,l<m/\f i l<=x/\g l j<=x:=by
 unfold pr;rw[bm7];constructor
 .rintro(h|⟨l,G,_,y,h3⟩)
  .omega
  .exact⟨l,G,y,h3⟩
 .rintro⟨l,G,y,h3⟩
  exact .inr ⟨l,G,by lia,y,h3⟩
def cw0 :pr m f g i j<=3:=by
 unfold pr;exact(bm7 _).mpr (.inl (cx _))
def bT8 { b:Int}(ha:a<=3)(hb:b<=3)(h:∀ x,x<3->(a<=x↔b<=x)):a=b:=by
 by_cases h1:a<3
 .have:=(h a h1).mp (cx _);have:=(h b (by lia)).mpr (cx _);lia
 .by_cases h2:b<3
  .have:=(h b h2).mpr (cx _);lia
  .lia
def pw (m:Nat)(f:Nat->Nat->Int):Nat->Nat->Nat->Int
 | 0=>f
 | n+1=>pr m (pw m f n) f
def cB0 (h:∀ i j,f i j<=3):∀ n i j,pw m f n i j<=3
 | 0,i,j=>h i j
 | n+1,i,j=>cw0
def Wlk (m:Nat)(f:Nat->Nat->Int)(x:Int)(n i j:Nat):Prop:=∃ w:Nat->Nat,w 0=i/\w n=j/\(∀ k,k<=n->w k<m)/\∀ k,k<n->f (w k) (w (k+1))<=x
section
variable {m:Nat} {f:Nat->Nat->Int} {x:Int}
def Wlk.app :Wlk m f x a i k->Wlk m f x b k j->Wlk m f x (a+b) i j:=by
 rintro⟨w,G,Y,w2,J⟩ ⟨v,v0,Z,v2,v3⟩
 refine⟨λ t=>if t<a then w t else v (t - a),?_,?_,λ t ht=>?_,λ t ht=>?_⟩
 all_goals grind
def Wlk.split :Wlk m f x (a+b) i j->∃ k,k<m/\Wlk m f x a i k/\Wlk m f x b k j:=by
 rintro⟨w,y,G,w2,h⟩
 refine⟨w a,w2 a (by lia),⟨w,y,rfl,λ k hk=>w2 k (by lia),λ k hk=>h k (by lia)⟩,⟨λ t=>w (a+t),rfl,G,λ k hk=>w2 _ (by lia),λ k hk=>h (a+k) (by lia)⟩⟩
def Wlk.one (Y:i<m)(hj:j<m):Wlk m f x 1 i j↔f i j<=x:=by
 constructor
 .rintro⟨w,y,J,w2,G⟩
  have:=G 0 (by decide);rw[y,J]at this;exact this
 .intro h;refine⟨λ t=>if t=0 then i else j,rfl,rfl,λ k _=>?_,λ k hk=>?_⟩
  .show(if k=0 then i else j)<m;split<;>assumption
  .have:k=0:=by lia
   subst this;exact h
theorem ar1 (hx:x<3):∀ n i j,i<m->j<m->(pw m f n i j<=x↔Wlk m f x (n+1) i j)
 | 0,i,j,hi,hj=>(Wlk.one hi hj).symm
 | n+1,i,j,hi,hj=>by
  show pr m (pw m f n) f i j<=x↔_;rw[bR3 hx];constructor
  .rintro⟨l,hl,y,G⟩
   exact((ar1 hx n i l hi hl).mp y).app ((Wlk.one hl hj).mpr G)
  .intro h;obtain⟨k,hk,y,G⟩:=h.split;exact⟨k,hk,(ar1 hx n i k hi hk).mpr y,(Wlk.one hk hj).mp G⟩
theorem pig:∀ B  (f:Nat->Nat),(∀ i,i<=B->f i<B)->∃ i j,i<j/\j<=B/\f i=f j
 | 0,f,h=>iF (h 0 (ai _)) (ic _)
 | B+1,f,h=>by
  by_cases hx:∃ i,i<=B/\f i=f (B+1)
  .obtain⟨i,G,y⟩:=hx;exact⟨i,B+1,by lia,ai _,y⟩
  .obtain⟨i,j,G,y,h3⟩:=pig B (λ i=>if f i=B then f (B+1)else f i) λ i J=>by
    grind
   refine⟨i,j,G,by lia,?_⟩
   grind
def Wlk.pump (hm:m<=5)(hn:5<=n):Wlk m f x n i j->Wlk m f x (n+60) i j:=by
 rintro⟨w,G,w1,w2,y⟩
 obtain⟨p,q,h1,h2,h3⟩:=pig 5 w λ k hk=>av (w2 k (by lia)) hm;obtain⟨c,hc⟩:∃ c,q=p+c:=⟨q - p,by lia⟩
 have J:=by omega
 have Y:=by omega
 have a0:60 % c=0:=by
  have:c=1\/c=2\/c=3\/c=4\/c=5:=by lia
  rcases this with rfl|rfl|rfl|rfl|rfl<;>rfl
 have A:Wlk m f x p i (w p):=⟨w,G,rfl,λ k hk=>w2 k (by lia),λ k hk=>y k (by lia)⟩
 have Cc:Wlk m f x c (w p) (w p):=⟨λ t=>w (p+t),rfl,by show w (p+c)=_;rw[<-hc,h3],λ k hk=>w2 _ (by lia),λ k hk=>y (p+k) (by lia)⟩
 have B:Wlk m f x (n - p) (w p) j:=⟨λ t=>w (p+t),rfl,by show w (p+(n - p))=_;rw[show p+(n - p)=n by lia];exact w1,λ k hk=>w2 _ (by lia),λ k hk=>y (p+k) (by lia)⟩
 have Z:∀ t,Wlk m f x (c*t) (w p) (w p):=λ t=>by
  induction t with
  | zero=>exact⟨λ _=>w p,rfl,rfl,λ _ _=>w2 p (by lia),λ k hk=>by lia⟩
  | succ t ih=>exact ih.app Cc
 have h:c*(60 / c)=60:=by
  have:=lr 60 c;lia
 have:=(A.app (Z (60 / c))).app B;rw[h,show p+60+(n - p)=n+60 by lia]at this;exact this
end
noncomputable def bz1 (m:Nat)(f:Nat->Nat->Int):Nat:=((ae m).map λ i=>((ae m).map λ j=>(f i j).toNat).sum).sum
def bF5 {l:List Nat}{ g:Nat->Nat}(h:∀ i∈l,f i<=g i):(l.map f).sum<=(l.map g).sum/\((l.map f).sum=(l.map g).sum->∀ i∈l,f i=g i):=by
 induction l with
 | nil=>simp_all
 | cons a l ih =>
  grind
def bP2 (h0:∀ i j,i<m->j<m->0<=f i j)(h:∀ i j,i<m->j<m->f i j<=g i j):bz1 m f<=bz1 m g/\(bz1 m f=bz1 m g->EqG m f g):=by
 have row:∀ i,i<m->((ae m).map λ j=>(f i j).toNat).sum<=((ae m).map λ j=>(g i j).toNat).sum/\(((ae m).map λ j=>(f i j).toNat).sum=((ae m).map λ j=>(g i j).toNat).sum->∀ j∈ae m,(f i j).toNat=(g i j).toNat):=λ i y=>bF5 λ j hj=>by
  have:=h i j y (aX.mp hj);lia
 obtain⟨J,G⟩:=bF5 λ i y=>(row i (aX.mp y)).1;refine⟨J,λ e i j y hj=>?_⟩;have e1:=G e i (aX.mpr y);have e2:=(row i y).2 e1 j (aX.mpr hj);have:=h0 i j y hj;have:=h i j y hj;lia
def aK3 {l:List Nat}(h:∀ i∈l,f i<=c):(l.map f).sum<=l.length*c:=by
 induction l with
 | nil=>simp
 | cons a l ih =>
  have J:=ih λ i y=>h i (aB _ y);have G:=h a (aH ..);simp only[aJ,lX,aQ,l8];lia
def bS7 (G:m<=5)(h:∀ i j,f i j<=3):bz1 m f<=75:=by
 have y:bz1 m f<=(ae m).length*15:=aK3 λ i _=>by
  have:((ae m).map λ j=>(f i j).toNat).sum<=(ae m).length*3:=aK3 λ j _=>by simp_all
  grind
 grind
def bg0 (hm:m<=5)(h0:∀ i j,0<=f i j)(h3:∀ i j,f i j<=3):∃ M,M<=5000/\EqG m (pr m (pw m f M) (pw m f M)) (pw m f M):=by
 have p3:=cB0 (m:=m) h3;have p0:=λ n i j y hj=>by
  by_cases h:0<=pw m f n i j
  .exact h
  .obtain⟨w,w0,w1,w2,w3⟩:=(ar1 (m:=m) (f:=f) (x:=-1) (by decide) n i j y hj).mp (by lia);have:=w3 0 (by lia);have:=h0 (w 0) (w (0+1));lia
 have a0:=λ t i j y hj=>by
  by_cases hx:pw m f (60*t+59) i j<3
  .have:=(ar1 hx _ i j y hj).mp (cx _);exact(ar1 hx _ i j y hj).mpr (by
    have:=this.pump hm (by lia)
    rwa [show 60*t+59+1+60=60*(t+1)+59+1 by lia]at this)
  .have:=p3 (60*(t+1)+59) i j;omega
 have ex:∃ t,t<=75/\EqG m (pw m f (60*(t+1)+59)) (pw m f (60*t+59)):=by
  by_cases hne:∃ t,t<=75/\EqG m (pw m f (60*(t+1)+59)) (pw m f (60*t+59))
  .exact hne
  .have Y:∀ t,t<=76->bz1 m (pw m f (60*t+59))+t<=75:=by
    intro t
    induction t with
    | zero=>intro _;exact bS7 hm (p3 _)
    | succ t ih =>
     intro ht;have G:=ih (by lia);obtain⟨J,h4⟩:=bP2 (p0 (60*(t+1)+59)) (a0 t);have:bz1 m (pw m f (60*(t+1)+59))≠bz1 m (pw m f (60*t+59)):=λ e=>hne ⟨t,by lia,h4 e⟩;lia
   have:=Y 76 (by lia);lia
 obtain⟨t,ht,he⟩:=ex;refine⟨60*t+59,by lia,λ i j y hj=>?_⟩;have same:∀ x,x<3->∀ i j,i<m->j<m->(Wlk m f x (60*(t+1)+60) i j↔Wlk m f x (60*(t+1)) i j):=λ x hx i j y hj=>by
  have G:=ar1 (f:=f) hx (60*(t+1)+59) i j y hj;have J:=ar1 (f:=f) hx (60*t+59) i j y hj;rw[he i j y hj]at G;exact G.symm.trans J
 have Z:∀ x,x<3->∀ s i j,i<m->j<m->(Wlk m f x (60*(t+1)+60*s) i j↔Wlk m f x (60*(t+1)) i j):=λ x hx s=>by
  induction s with
  | zero=>intro i j _ _;exact Iff.rfl
  | succ s ih =>
   intro i j y hj;rw[<-ih i j y hj];constructor
   .intro h;rw[show 60*(t+1)+60*(s+1)=(60*(t+1)+60)+60*s by lia]at h;obtain⟨k,hk,G,J⟩:=h.split;exact((same x hx i k y hk).mp G).app J
   .intro h;obtain⟨k,hk,G,J⟩:=h.split;have:=((same x hx i k y hk).mpr G).app J
    rwa [show(60*(t+1)+60)+60*s=60*(t+1)+60*(s+1)by lia]at this
 refine bT8 cw0 (p3 _ i j) λ x hx=>?_;rw[bR3 hx,ar1 hx _ i j y hj];have key:=Z x hx (t+1) i j y hj;constructor
 .rintro⟨l,hl,G,J⟩
  have:=((ar1 hx _ i l y hl).mp G).app ((ar1 hx _ l j hl hj).mp J);rw[show 60*t+59+1+(60*t+59+1)=60*(t+1)+60*(t+1)by lia]at this;exact key.mp this
 .intro h;obtain⟨k,hk,G,J⟩:=(key.mpr h).split;exact⟨k,hk,(ar1 hx _ i k y hk).mpr G,(ar1 hx _ k j hk hj).mpr J⟩
noncomputable def cx8 (k:Nat):Stp->Prop
 | .let_ _=>True
 | .pair i j=>i<k/\j<k/\(k<100\/(i=k - 1/\j=0))
 | .sharp i=>i<k/\k<100
def ak6 (l:List Stp):Prop:=∀ k x,l[k]?=aT x->cx8 k x
def ak6.nil:ak6 []:=λ k x h=>by cases h
def ak6.snoc (h:ak6 l)(hx:cx8 l.length x):ak6 (l++[x]):=λ k y e=>by
 by_cases hk:k<l.length
 .rw[ax hk]at e;exact h k y e
 .have G:=(ab.mp e).1;simp at G;have:k=l.length:=by lia
  subst this;rw[ag (ai _),dj]at e;cases e;exact hx
def Mks.ok (h:Mks m l fs):l.length<=100->ak6 l:=by
 induction h with
 | nil=>intro _;exact .nil
 | let_ c h _ _ ih=>intro hl;simp at hl;exact(ih (by lia)).snoc trivial
 | pair i j f g h e1 e2 ih =>
  intro hl;simp at hl;have:=h.len;have:=(ab.mp e1).1;have:=(ab.mp e2).1;exact(ih (by lia)).snoc ⟨by lia,by lia,.inl (by lia)⟩
 | sharp i f h e1 _ ih =>
  intro hl;simp at hl;have:=h.len;have:=(ab.mp e1).1;exact(ih (by lia)).snoc ⟨by lia,by lia⟩
noncomputable def aq8 (a c:Int)(vs:List Int):Stp->Int
 | .let_ _=>a
 | .pair i j=>vs.getD i 0+vs.getD j 0
 | .sharp i=>vs.getD i 0*c
def vl (a c:Int)(l:List Stp):List Int:=l.foldl (λ vs x=>vs++[aq8 a c vs x]) []
def bV4 :vl a c (l++[x])=vl a c l++[aq8 a c (vl a c l) x]:=by unfold vl;simp_all
def ju {α:Type}{l:List α}{x}(h:l[k]?=aT x):l.take (k+1)=l.take k++[x]:=by
 rw[List.take_succ,h];rfl
def aQ2 {l:List Stp}(h:l[k]?=aT x):vl a c (l.take (k+1))=vl a c (l.take k)++[aq8 a c (vl a c (l.take k)) x]:=by
 rw[ju h,bV4]
theorem aq1 {l:List Stp}:∀ k,k<=l.length->(vl a c (l.take k)).length=k
 | 0,_=>by simp[vl]
 | k+1,h=>by
  rw[aQ2 (ac (show k<l.length by lia)),aN,aq1 k (by lia)];rfl
noncomputable def TB:Int:=2^(2+104*99)
def aX5  k :(2:Int)^(2+104*(k+1))=2^(2+104*k)*2^104:=by lia
def qu (h:a<=b):(2:Int)^a<=2^b:=by
 have y:(2)^a<=2^b:=cz (by decide) h;have:((2^a))<=((2^b):Int):=by exact_mod_cast y
 simpa using this
def aU8  a :(0:Int)<2^a:=Int.pow_pos (by decide)
theorem cm2 (ha:0<=a)(a0:a<=3)(hc:0<=c)(J:c<=2^103)(hl:ak6 l):∀ k:Nat,k<=l.length->∀(i:Nat)  v ,(vl a c (l.take k))[i]?=aT v->0<=v/\(i<100->v<=2^(2+104*i))/\v<=TB+3*i/\(i=0->v=a)
 | 0,_,i,v,h=>by simp[vl]at h
 | k+1,hk,i,v,h=>by
  have ih:=cm2 ha a0 hc J hl k (by lia);have hx:=ac (show k<l.length by lia);have G:=aq1 (a:=a) (c:=c) (l:=l) k (by omega);rw[aQ2 hx]at h;by_cases hi:i<k
  .rw[ax (by lia)]at h;exact ih i v h
  .have Z:=(ab.mp h).1;simp[]at Z;have:i=k:=by lia
   subst this;rw[ag (by lia),G,dj]at h;have hw:=aq h;clear h;have hok:=hl i _ hx;have g:∀ j,j<i->0<=(vl a c (l.take i)).getD j 0/\(j<100->(vl a c (l.take i)).getD j 0<=2^(2+104*j))/\(vl a c (l.take i)).getD j 0<=TB+3*j/\(j=0->(vl a c (l.take i)).getD j 0=a):=λ j hj=>by
    have e:(vl a c (l.take i))[j]?=aT ((vl a c (l.take i)).getD j 0):=by
     rw[ay,ac (by lia)];rfl
    exact ih j _ e
   have hT:∀ j,j<100->(2:Int)^(2+104*j)<=TB:=λ j hj=>by unfold TB;exact qu (by lia)
   have hp:(3:Int)<=2^(2+104*i):=bp (show(3:Int)<=2^2 by decide) (qu (by lia));have a1:(4:Int)<=TB:=by unfold TB;lia
   generalize vl a c (l.take i)=vs at hw g;generalize l[i]=x at hw hok;cases x with
   | let_ ch =>
    have hz:a=v:=hw;exact⟨by lia,λ _=>by omega,by lia,λ _=>hz.symm⟩
   | pair p q =>
    have hz:vs.getD p 0+vs.getD q 0=v:=hw;obtain⟨Y,h2,h3⟩:=hok;obtain⟨p1,p2,p3,_⟩:=g p Y;obtain⟨q1,q2,q3,q4⟩:=g q h2;obtain⟨y,rfl⟩:∃ y,i=y+1:=⟨i - 1,by lia⟩
    by_cases hi100:y+1<100
    .have p5:vs.getD p 0<=2^(2+104*y):=bp (p2 (by lia)) (qu (by lia));have q5:vs.getD q 0<=2^(2+104*y):=bp (q2 (by lia)) (qu (by lia));have e:=aX5 y;have b:v<=2^(2+104*(y+1)):=by
      lia
     have:=hT (y+1) hi100;lia
    lia
   | sharp p =>
    have hz:vs.getD p 0*c=v:=hw;obtain⟨Y,h2⟩:=hok;obtain⟨p1,p2,p3,_⟩:=g p Y;obtain⟨y,rfl⟩:∃ y,i=y+1:=⟨i - 1,by lia⟩
    have p5:vs.getD p 0<=2^(2+104*y):=bp (p2 (by lia)) (qu (by lia));have b:v<=2^(2+104*(y+1)):=by
     rw[aX5 y,<-hz];exact iL p5 (bp J (by decide)) hc (my (aU8 _))
    have:=hT (y+1) h2;have:0<=v:=by rw[<-hz];exact iM p1 hc
    lia
def bs9 (h0:0<=v)(h:v<=TB+100000):v.natAbs<BIG:=by
 have G:TB+100000<2^11000:=by unfold TB;lia
 have y:(2)^11000<=BIG:=by unfold BIG;lia
 lia
def cg7 {c:Int}(h0:0<=c)(h:c<=2^103):c.natAbs<BIG:=bs9 h0 (bp h (by
 have:(2)^103<=TB:=by unfold TB;exact qu (by lia)
 lia))
def aR5 (y:a.natAbs<BIG)(h:b.natAbs<BIG):mulOk a b=true:=by
 unfold mulOk;simp[y,h]
def dl0 :ixM (Stp.let_ c).d (.int 0) s=.ok (.str bF6) s:=rfl
def dl1 :ixM (Stp.let_ c).d (.int 1) s=.ok (.str [c]) s:=rfl
def dp0 :ixM (Stp.pair i j).d (.int 0) s=.ok (.str at9) s:=rfl
def dp1 :ixM (Stp.pair i j).d (.int 1) s=.ok (.int i) s:=rfl
def dp2 :ixM (Stp.pair i j).d (.int 2) s=.ok (.int j) s:=rfl
def ds0 :ixM (Stp.sharp i).d (.int 0) s=.ok (.str bq5) s:=rfl
def ds1 :ixM (Stp.sharp i).d (.int 1) s=.ok (.int i) s:=rfl
section
variable {F:Fns} {U:Env} {s:Sto}
noncomputable def apV (F:Fns)(d:D)(l:List D)(s:Sto):R D:=match d with
 | .fn f=>F.call f l s
 | .clo id cs=>F.lam id cs l s
 | _=>.B
def qf  es (h:U[i]?=aT (aT d)):ev F (.callV i es) U s=(evs F es U s).bind λ l s=>apV F d l s:=by
 show(evs F es U s).bind (λ l s=>match U[i]? with
  | some (aT (.fn f))=>F.call f l s
  | some (aT (.clo id cs))=>F.lam id cs l s
  | _=>.B)=_
 rw[h];cases d<;>rfl
def zU {id} G (h:al4 U y=aT cs):ay2 F (.lam id y G) U s=(ay2 F G U s).bind λ l s=>.ok (.clo id cs::l) s:=by
 show(match al4 U y with
  | some cs=>(ay2 F G U s).bind λ l s=>R.ok (D.clo id cs::l) s
  | none=>.B)=_
 rw[h]
end
def z0 {s:Sto}(h:s.all O.ncl=cn)(ho:o.ncl=cn):(s++[o]).all O.ncl=true:=by rw[da,h];simp[ho]
noncomputable def Stp.t (c:Int):Stp->D
 | .sharp i=>.tp [.str [116,105,109,101,115],.int i,.int c]
 | x=>x.d
def Stp.t_bnd  c (x:Stp) n :(x.t c).bnd n=true:=by cases x<;>rfl
def Stp.t_ncl  c (x:Stp):(x.t c).ncl=true:=by cases x<;>rfl
def bs2 {l:List Stp}:(O.J (l.map (Stp.t c))).bnd n=true:=by
 unfold O.bnd;exact zP (λ d hd n=>by obtain⟨x,_,rfl⟩:=au.mp hd;exact x.t_bnd c n) n
def aS4 {l:List Stp}:(O.J (l.map (Stp.t c))).ncl=true:=by
 unfold O.ncl;exact zN λ d hd=>by obtain⟨x,_,rfl⟩:=au.mp hd;exact x.t_ncl c
def qA (ho:o.bnd s.length=cn):zY s (.ref s.length) (s++[o])=.ok (.ref s.length) (s++[o]):=by
 have:=au0 (t:=[]) (u:=[]) ho;simpa using this
def aI6 (ho:o.bnd s.length=cn):zY s (.ref (s.length+1)) (s++[p,o])=.ok (.ref s.length) (s++[o]):=au0 (t:=[p]) ho
def xa [Has P af4] n {l:List Stp}(hl:l.length<=5100) c  s  :
  (aa0 P (n+1)).call "as_times" [.tp (l.map Stp.d),.int c] s=.ok (.ref s.length) (s++[.J (l.map (Stp.t c))]):=by
 have G:(aa0 P (n+1)).call "as_times" [.tp (l.map Stp.d),.int c] s=_:=zb af4 rfl;rw[G,show(aO aT [D.tp (l.map Stp.d),.int c]++ak af4.vs bY)=[aT (D.tp (l.map Stp.d)),aT (.int c)]from rfl];simp -implicitDefEqProofs only[af4,za,zl,zX,ev_mk,jm,evI_seq,zd,ze,zh,R.bind_ok,ao4];rw[gc (by unfold LIM;grind)];obtain⟨U1,s1,e1,h1⟩:∃ U' s',qX (λ s1=>chk s s1 []) (ql (aa0 P n) (.Y 0) (.ite (.Z .eq (.ix (.X 0) (.K (.int 0))) (.K (.str [115,104,97,114,112]))) (.tp (.cons (.K (.str [116,105,109,101,115])) (.cons (.ix (.X 0) (.K (.int 1))) (.cons (.X 1) .nil)))) (.X 0))) (l.map Stp.d) (qb [aT (D.tp (l.map Stp.d)),aT (.int c)] [bY,aT 1]) s=R.ok (l.map (Stp.t c)) s'/\s'=s/\∃ x:Option D,U'=[x,aT (D.int c)]:=by
  have key:∀(l:List Stp) (U:Env),(∃ x:Option D,U=[x,aT (D.int c)])->∃ U' s',qX (λ s1=>chk s s1 []) (ql (aa0 P n) (.Y 0) (.ite (.Z .eq (.ix (.X 0) (.K (.int 0))) (.K (.str [115,104,97,114,112]))) (.tp (.cons (.K (.str [116,105,109,101,115])) (.cons (.ix (.X 0) (.K (.int 1))) (.cons (.X 1) .nil)))) (.X 0))) (l.map Stp.d) U s=.ok (l.map (Stp.t c)) s'/\s'=s/\∃ x:Option D,U'=[x,aT (D.int c)]:=by
   intro l
   induction l with
   | nil=>rintro U ⟨x,rfl⟩;exact⟨[x,aT (D.int c)],s,rfl,rfl,x,rfl⟩
   | cons y l ih =>
    rintro U ⟨x,rfl⟩
    obtain⟨U2,s2,e2,rfl,h⟩:=ih [aT y.d,aT (.int c)] ⟨_,rfl⟩;refine⟨U2,_,?_,rfl,h⟩;have st:ql (aa0 P n) (.Y 0) (.ite (.Z .eq (.ix (.X 0) (.K (.int 0))) (.K (.str [115,104,97,114,112]))) (.tp (.cons (.K (.str [116,105,109,101,115])) (.cons (.ix (.X 0) (.K (.int 1))) (.cons (.X 1) .nil)))) (.X 0)) y.d [x,aT (.int c)] s2=.ok (aT (y.t c),[aT y.d,aT (.int c)]) s2:=by
     unfold ql;cases y with
     | let_ ch=>simp -implicitDefEqProofs only[zg,zx,jY,zK,qa,zd,zw,zy,qk,ze,zh,R.bind_ok,dl0,qS,show(bF6=[115,104,97,114,112])=False by decide,decide_false,zD,if_false,aG];rfl
     | pair i j=>simp -implicitDefEqProofs only[zg,zx,jY,zK,qa,zd,zw,zy,qk,ze,zh,R.bind_ok,dp0,qS,show(at9=[115,104,97,114,112])=False by decide,decide_false,zD,if_false,aG];rfl
     | sharp i=>simp -implicitDefEqProofs only[zg,zx,jY,zK,qa,zd,zw,zy,qk,ze,zh,R.bind_ok,ds0,ds1,qS,show(bq5=[115,104,97,114,112])=True from eq_self _,decide_true,zD,if_true,jE,zo,zq];rfl
    rw[aJ,aJ];unfold qX;simp only[aD5,if_true];rw[st,R.bind_ok];simp only[aD5]at e2
    simp_all
  exact key l _ ⟨bY,rfl⟩
 obtain⟨rfl,_⟩:=h1;rw[e1];simp -implicitDefEqProofs only[R.bind_ok,mk,qD,zI,zJ];exact qA bs2
def tl0 :ixM ((Stp.let_ ch).t c) (.int 0) s=.ok (.str bF6) s:=rfl
def tl1 :ixM ((Stp.let_ ch).t c) (.int 1) s=.ok (.str [ch]) s:=rfl
def tp0 :ixM ((Stp.pair i j).t c) (.int 0) s=.ok (.str at9) s:=rfl
def tp1 :ixM ((Stp.pair i j).t c) (.int 1) s=.ok (.int i) s:=rfl
def tp2 :ixM ((Stp.pair i j).t c) (.int 2) s=.ok (.int j) s:=rfl
def th0 :ixM ((Stp.sharp i).t c) (.int 0) s=.ok (.str ap3) s:=rfl
def th1 :ixM ((Stp.sharp i).t c) (.int 1) s=.ok (.int i) s:=rfl
def th2 :ixM ((Stp.sharp i).t c) (.int 2) s=.ok (.int c) s:=rfl
def bt1 [Has P ac0] n {l:List Stp}{c:Int}(hl:l.length<=5100)(hk:ak6 l){s:Sto}{p:Nat}(hp:s[p]?=aT (.J (l.map (Stp.t c))))(d1 G J:D)(Ww:Nat->D)(hW:∀ k n,(Ww k).bnd n=cn)
  (h1:∀ k ch,l[k]?=aT (.let_ ch)->apV (aa0 P n) d1 [.str [ch]] (s++[.J ((ae k).map Ww)])=.ok (Ww k) (s++[.J ((ae k).map Ww)]))
  (h2:∀ k i j,l[k]?=aT (.pair i j)->apV (aa0 P n) G [Ww i,Ww j] (s++[.J ((ae k).map Ww)])=.ok (Ww k) (s++[.J ((ae k).map Ww)]))
  (h3:∀ k i,l[k]?=aT (.sharp i)->apV (aa0 P n) J [Ww i,.int c] (s++[.J ((ae k).map Ww)])=.ok (Ww k) (s++[.J ((ae k).map Ww)])) :
  (aa0 P (n+1)).call "folded" [.ref p,d1,G,J] s=.ok (.ref s.length) (s++[.J ((ae l.length).map Ww)]):=by
 have e0:(aa0 P (n+1)).call "folded" [.ref p,d1,G,J] s=_:=zb ac0 (n:=n) rfl;have a0:p<s.length:=(ab.mp hp).1;rw[e0,show(aO aT [D.ref p,d1,G,J]++ak ac0.vs bY)=[aT (D.ref p),aT d1,aT G,aT J,bY,bY]from rfl];simp -implicitDefEqProofs only[ac0];simp -implicitDefEqProofs only[za,zl,zW,ev_lst,zq,R.bind_ok,qD,zg,zC,zx,az,zt,zm,ex_for,evI_seq,zd,ze,zh];rw[show ay0 (.ref p) (s++[O.J []])=.ok ⟨l.map (Stp.t c),[p]⟩ (s++[O.J []])by simp only[ay0,jJ hp]];simp only[R.bind_ok];rw[R.bind_assoc];refine jC (λ k U t=>∃(x:Option D),U=[aT (D.ref p),aT d1,aT G,aT J,aT (.ref s.length),x]/\t=s++[.J ((ae k).map Ww)]) ⟨bY,rfl,rfl⟩ (λ _ _ _ _ h=>?_) ?_ ?_
 .obtain⟨_,_,rfl⟩:=h;simp[chk,ax a0]
 .rintro k d U t hkk ⟨x,rfl,rfl⟩
  rw[ao]at hkk;obtain⟨v,hv,hd⟩:∃ v,l[k]?=aT v/\Stp.t c v=d:=by
   simp_all
  subst hd;have a1:=(ab.mp hv).1;have hok:=hk k v hv;have L1:((ae k).map Ww).length<LIM:=by unfold LIM;grind
  have g0:(s++[O.J ((ae k).map Ww)])[s.length]?=aT (.J ((ae k).map Ww)):=by simp_all
  have Z:∀ i,i<k->ixM (.ref s.length) (.int (i:Int)) (s++[O.J ((ae k).map Ww)])=.ok (Ww i) (s++[O.J ((ae k).map Ww)]):=λ i Y=>qz g0 (by simp_all);refine az0 (U:=[aT (D.ref p),aT d1,aT G,aT J,aT (.ref s.length),aT (v.t c)]) (s:=s++[.J ((ae (k+1)).map Ww)]) ?_ ⟨_,rfl,rfl⟩;rw[cE,bO];unfold turn;cases v with
  | let_ ch =>
   have y:=h1 k ch hv;simp -implicitDefEqProofs only[zg,zC,zx,az,za,zl,z5,zK,qa,zd,zw,zy,qk,ze,zh,R.bind_ok,tl0,qS,show(bF6=[108,101,116,116,101,114])=True from eq_self _,decide_true,zD,if_true,jD,qd,zB,zo,zq];rw[qf (d:=d1) _ rfl];simp -implicitDefEqProofs only[zo,zq,qa,zd,zw,zy,ze,zh,R.bind_ok,tl1,y];rw[qE L1,zB];rfl
  | pair i j =>
   obtain⟨Y,hj,_⟩:=hok;have y:=h2 k i j hv;simp -implicitDefEqProofs only[zg,zC,zx,az,za,zl,z5,zK,qa,zd,zw,zy,qk,ze,zh,R.bind_ok,tp0,qS,show(at9=[108,101,116,116,101,114])=False by decide,show(at9=[112,97,105,114])=True from eq_self _,decide_true,decide_false,aG,zD,if_true,if_false,jD,qd,zB,zo,zq];rw[qf (d:=G) _ rfl];simp -implicitDefEqProofs only[zo,zq,qa,zd,zw,zy,ze,zh,R.bind_ok,tp1,tp2,Z i Y,Z j hj,y];rw[qE L1,zB];rfl
  | sharp i =>
   obtain⟨Y,_⟩:=hok;have y:=h3 k i hv;simp -implicitDefEqProofs only[zg,zC,zx,az,za,zl,z5,zK,qa,zd,zw,zy,qk,ze,zh,R.bind_ok,th0,qS,show(ap3=[108,101,116,116,101,114])=False by decide,show(ap3=[112,97,105,114])=False by decide,decide_false,aG,zD,if_false,jD,qd,zB,zo,zq];rw[qf (d:=J) _ rfl];simp -implicitDefEqProofs only[zo,zq,qa,zd,zw,zy,ze,zh,R.bind_ok,th1,th2,Z i Y,y];rw[qE L1,zB];rfl
 .rintro U t ⟨x,rfl,rfl⟩
  rw[ar];simp -implicitDefEqProofs only[zm,za,zl,zX,zd,ze,zh,R.bind_ok,zI,zJ];exact qA (by unfold O.bnd;exact zP (λ d hd n=>by grind) _)
noncomputable def gdD (m:Nat)(Ww:Nat->Nat->D):D:=.tp ((ae m).map λ i=>.tp ((ae m).map λ j=>Ww i j))
def bi6 (h:∀ i j n,(Ww i j).bnd n=cn) n :(gdD m Ww).bnd n=true:=by
 unfold gdD D.bnd;refine zP (λ d hd n=>?_) n;obtain⟨i,_,rfl⟩:=au.mp hd;unfold D.bnd;refine zP (λ d hd n=>?_) n;obtain⟨j,_,rfl⟩:=au.mp hd;exact h i j n
set_option tactic.hygienic true in
def j6 [Has P af3] n {m:Nat}(hm:m<=1000){d}{s}{Ww}(Y:∀ i j n,(Ww i j).bnd n=cn)
  (h:∀ i j,i<m->j<m->apV (aa0 P n) d [.int i,.int j] (s++[.J ((ae i).map λ i=>.tp ((ae m).map λ j=>Ww i j))])=.ok (Ww i j) (s++[.J ((ae i).map λ i=>.tp ((ae m).map λ j=>Ww i j))])) :
  (aa0 P (n+1)).call "grid" [.int m,d] s=.ok (gdD m Ww) s:=by
 have Z:(aa0 P (n+1)).call "grid" [.int m,d] s=_:=zb af3 rfl;rw[Z,show(aO aT [D.int m,d]++ak af3.vs bY)=[aT (D.int m),aT d,bY,bY]from rfl];simp -implicitDefEqProofs only[af3];simp -implicitDefEqProofs only[za,zl,zW,ev_lst,zq,R.bind_ok,qD,zg,zC,zx,az,zt,zm,ex_for,qC,zd,ze,zh];rw[z6 (by unfold Ww62;lia) (by unfold Ww62;lia)];simp only[R.bind_ok];rw[R.bind_assoc];refine jC (λ i U t=>∃(x:Option D),U=[aT (D.int m),aT d,aT (.ref s.length),x]/\t=s++[.J ((ae i).map λ i=>.tp ((ae m).map λ j=>Ww i j))]) ⟨bY,rfl,rfl⟩ (λ _ _ _ _ _=>rfl) ?_ ?_
 .rintro i dd U t hi ⟨x,rfl,rfl⟩
  have y:=(qG hi).1;rw[(qG hi).2];generalize G:s++[O.J ((ae i).map λ i=>D.tp ((ae m).map λ j=>Ww i j))]=S;have e1:qX (λ s1=>chk S s1 []) (ql (aa0 P n) (.Y 0) (.callV 1 (.cons (.X 2) (.cons (.X 0) .nil)))) (j4 0 (m:Int)) (qb [aT (D.int m),aT d,aT (.ref s.length),aT (.int (i:Int))] [bY,aT 1,aT 3]) S=.ok ((ae m).map λ j=>Ww i j) S:=by
   obtain⟨U1,s1,e1,J⟩:=jA (ok:=λ s1=>chk S s1 []) (g:=ql (aa0 P n) (.Y 0) (.callV 1 (.cons (.X 2) (.cons (.X 0) .nil)))) (λ U u=>u=S/\∃ x,U=[x,aT d,aT (.int i)]) (λ j=>Ww i j) m (qb [aT (D.int m),aT d,aT (.ref s.length),aT (.int (i:Int))] [bY,aT 1,aT 3]) S ⟨rfl,bY,rfl⟩ (λ _ _ _=>rfl) (by
    rintro j hj U u ⟨rfl,x,rfl⟩
    refine⟨[aT (.int j),aT d,aT (.int i)],u,?_,rfl,_,rfl⟩;have hc:=h i j y hj;rw[G]at hc;unfold ql;simp -implicitDefEqProofs only[zg,zx];rw[qf (d:=d) _ rfl]
    simp_all)
   obtain⟨rfl,_⟩:=J;exact e1
  have e2:turn (aa0 P n) (.Y 3) (.cons (.ex (.me .append (.X 2) (.cons (.mk .tuple (.comp (.Y 0) (.rg (.X 0)) (.callV 1 (.cons (.X 2) (.cons (.X 0) .nil))) [bY,aT 1,aT 3])) .nil))) .nil) (.int i) [aT (D.int m),aT d,aT (.ref s.length),x] S=.ok (.next [aT (D.int m),aT d,aT (.ref s.length),aT (.int i)]) (s++[.J ((ae (i+1)).map λ i=>.tp ((ae m).map λ j=>Ww i j))]):=by
   unfold turn;simp -implicitDefEqProofs only[zg,zC,zx,az,za,zl,jD,qd,zB,zo,zq,ev_mk,jm,qC,zd,ze,zh,R.bind_ok];rw[z6 (by unfold Ww62;lia) (by unfold Ww62;lia)];simp only[R.bind_ok];rw[gc (by rw[zZ];unfold LIM;lia),e1,<-G];simp -implicitDefEqProofs only[R.bind_ok,mk];rw[qE (by unfold LIM;simp;lia),cE,bO,zB];rfl
  rw[e2];show ∃ x,_;exact⟨aT (.int i),rfl,rfl⟩
 .rintro U t ⟨x,rfl,rfl⟩
  rw[zZ];have h0:(s++[O.J ((ae m).map λ i=>D.tp ((ae m).map λ j=>Ww i j))])[s.length]?=aT (.J ((ae m).map λ i=>D.tp ((ae m).map λ j=>Ww i j))):=by rw[ag (ai _)];simp
  simp -implicitDefEqProofs only[zm,za,zl,zX,ev_mk,evL_seq,zd,ze,zh,R.bind_ok,bf1,h0,mk,zI,zJ];exact zT (d:=gdD m Ww) (bi6 Y) (by nofun)
def InG (m:Nat)(f:Nat->Nat->Int):Prop:=∀ i j,i<m->j<m->0<=f i j/\f i j<=3
def j0 (J:1<=m)(y:InG m f)(h:InG m g)(G:i<m)(hj:j<m):pr m f g i j<=x↔∃ l,l<m/\f i l<=x/\g l j<=x:=by
 by_cases hx:x<3
 .exact bR3 hx
 .refine⟨λ _=>⟨0,by lia,?_,?_⟩,λ _=>bp cw0 (by lia)⟩
  .have:=y i 0 G (by omega);lia
  .have:=h 0 j (by omega) hj;lia
def bC0 (h:1<=m)(G:InG m f)(y:InG m g):EqG m (pr m f g) (L2.bb7 m f g):=λ i j J hj=>L2.ai9 λ x=>by
 rw[j0 h G y J hj,L2.aC7 h]
theorem bG0 :∀ k,shN f i j k<=x↔3<=x\/∃ l,l<k/\f i l<=x/\(if f l l=1 then 2 else f l l)<=x/\f l j<=x
 | 0=>by unfold shN;lia
 | k+1=>by
  have y:=bG0 (f:=f) (i:=i) (j:=j) (x:=x) k;have key:shN f i j (k+1)<=x↔shN f i j k<=x\/(f i k<=x/\(if f k k=1 then 2 else f k k)<=x/\f k j<=x):=by
   conv=>lhs;unfold shN
   simp only;generalize (if f k k=1 then(2)else f k k)=z;split<;>omega
  rw[key,y];constructor
  .rintro((h|⟨l,h1,h2⟩)|h)
   .exact .inl h
   .exact .inr ⟨l,by lia,h2⟩
   .exact .inr ⟨k,by lia,h⟩
  .rintro(h|⟨l,h1,h2⟩)
   .exact .inl (.inl h)
   .by_cases e:l=k
    .subst e;exact .inr h2
    .exact .inl (.inr ⟨l,by lia,h2⟩)
def bE6 (h:0<=y)(h3:y<=3):(if y=1 then 2 else y)=L2.rnd y:=by
 unfold L2.rnd;lia
def at0 (Z:1<=m)(y:InG m f):EqG m (sh m f) (L2.sharp m f):=λ i j Y hj=>L2.ai9 λ x=>by
 unfold sh;rw[bG0,L2.ak5 Z];constructor
 .rintro(h|⟨l,hl,J,G,h3⟩)
  .refine⟨0,by lia,?_,?_,?_⟩
   .have:=y i 0 Y (by omega);lia
   .have:=y 0 0 (by omega) (by omega);have:=(L2.bG1 this.1 this.2).2;lia
   .have:=y 0 j (by omega) hj;lia
  .exact⟨l,hl,J,by rw[<-bE6 (y l l hl hl).1 (y l l hl hl).2];exact G,h3⟩
 .rintro⟨l,hl,J,G,h3⟩
  exact .inr ⟨l,hl,J,by rw[bE6 (y l l hl hl).1 (y l l hl hl).2];exact G,h3⟩
def aR8 (J:1<=m)(y:InG m f)(h:InG m g):InG m (pr m f g):=λ i j G hj=>by
 rw[bC0 J y h i j G hj];exact L2.aT5 J y h G hj
def bx5 (G:1<=m)(h:InG m f):InG m (sh m f):=λ i j y hj=>by
 rw[at0 G h i j y hj];exact L2.bz8 G h i j y hj
theorem ao8 :∀ l  (a:Int),l.foldl min a<=x↔∃ y∈a::l,y<=x
 | [],a=>by simp
 | b::l,a=>by
  rw[cq,ao8 l];constructor
  .grind
  .rintro⟨y,hy,hx⟩
   simp only[aL]at hy;rcases hy with rfl|rfl|hy
   .exact⟨min y b,by simp,by lia⟩
   .exact⟨min a y,by simp,by lia⟩
   grind
def bJ0 (h:minI l=aT m):m<=x↔∃ y∈l,y<=x:=by
 cases l with
 | nil=>cases h
 | cons a l=>rw[<-aq (h)];exact ao8 l a
def aZ5 {l:List Nat}:qW (l.map λ k=>D.int (f k))=aT (l.map f):=by
 induction l with
 | nil=>rfl
 | cons a l ih=>rw[aJ];unfold qW;rw[ih];rfl
def bG6 (h:1<=m){f:Nat->Int}(hv:∀ x,v<=x↔∃ k,k<m/\f k<=x) s :mk .min ((ae m).map λ k=>D.int (f k)) s=.ok (.int v) s:=by
 obtain⟨w,hw⟩:∃ w,minI ((ae m).map f)=aT w:=by
  obtain⟨m',rfl⟩:∃ m',m=m'+1:=⟨m - 1,by lia⟩
  rw[eV];exact⟨_,rfl⟩
 show(match(qW ((ae m).map λ k=>D.int (f k))).bind minI with|some m=>R.ok (D.int m) s|none=>.B)=_;rw[aZ5];show(match minI ((ae m).map f)with|some m=>R.ok (D.int m) s|none=>.B)=_;rw[hw];have:w=v:=L2.ai9 λ x=>by
  rw[bJ0 hw,hv];constructor
  .rintro⟨y,hy,hx⟩
   obtain⟨k,hk,rfl⟩:=au.mp hy;exact⟨k,aX.mp hk,hx⟩
  .rintro⟨k,hk,hx⟩
   exact⟨_,au.mpr ⟨k,aX.mpr hk,rfl⟩,hx⟩
 rw[this]
section
variable {P:Pr} [Has P af3] [Has P aa5] [HasL P aa3]
def z4  n (G:1<=m)(Z:m<=5)(Y:InG m f)(hg:InG m g)(hs:s.all O.ncl=cn) :
  (aa0 P (n+3)).call "sign_product" [gd m f,gd m g] s=.ok (gd m (pr m f g)) s:=by
 have e0:(aa0 P (n+3)).call "sign_product" [gd m f,gd m g] s=_:=zb aa5 rfl;have y:=j6 (P:=P) (n+1) (m:=m) (by lia) (d:=.clo "sign_product.0" [.int m,gd m f,gd m g]) (λ _ _ _=>rfl) (λ i j J hj=>by
  generalize hS:s++[O.J ((ae i).map λ i=>D.tp ((ae m).map λ j=>D.int (pr m f g i j)))]=S;have nS:S.all O.ncl=true:=by
   rw[<-hS];refine z0 hs (zN λ d hd=>?_);obtain⟨x,_,rfl⟩:=au.mp hd;unfold D.ncl;exact zN λ d hd=>by obtain⟨x,_,rfl⟩:=au.mp hd;rfl
  refine(qe aa3 rfl rfl (by rw[nS];simp[D.nclL,D.ncl,ap0])).trans ?_;show(ev (aa0 P n) aa3.body [aT (.int i),aT (.int j),aT (.int m),aT (gd m f),aT (gd m g)] S).bind (zY S)=_;simp -implicitDefEqProofs only[aa3,ev_mk,jm,qC,zd,ze,zh,R.bind_ok];rw[z6 (by unfold Ww62;lia) (by unfold Ww62;lia)];simp only[R.bind_ok];rw[gc (by rw[zZ];unfold LIM;lia)];obtain⟨U1,s1,e1,h⟩:=jA (ok:=λ s1=>chk S s1 []) (g:=ql (aa0 P n) (.Y 0) (.bi .max2 (.cons (.ix (.ix (.X 1) (.X 2)) (.X 0)) (.cons (.ix (.ix (.X 3) (.X 0)) (.X 4)) .nil)))) (λ U u=>u=S/\∃ x,U=[x,aT (gd m f),aT (.int i),aT (gd m g),aT (.int j)]) (λ k=>.int (if g k j > f i k then g k j else f i k)) m (qb [aT (.int i),aT (.int j),aT (.int m),aT (gd m f),aT (gd m g)] [bY,aT 3,aT 0,aT 4,aT 1]) S ⟨rfl,bY,rfl⟩ (λ _ _ _=>rfl) (by
   rintro k hk U u ⟨rfl,x,rfl⟩
   refine⟨[aT (.int k),aT (gd m f),aT (.int i),aT (gd m g),aT (.int j)],u,?_,rfl,_,rfl⟩;unfold ql;simp -implicitDefEqProofs only[zg,zx,ev_bi,zo,zq,qa,zd,ze,zh,R.bind_ok,ay3 J,ay3 hk,jv hk,jv hj,bB1])
  obtain⟨rfl,_⟩:=h;rw[e1];simp only[R.bind_ok];rw[bG6 (v:=pr m f g i j) G (λ x=>by
   rw[j0 G Y hg J hj];constructor
   .rintro⟨l,hl,h,h2⟩;exact⟨l,hl,by split<;>omega⟩
   .rintro⟨l,hl,h⟩;exact⟨l,hl,by split at h<;>omega,by split at h<;>omega⟩)]
  exact zM)
 rw[e0,show(aO aT [gd m f,gd m g]++ak aa5.vs bY)=[aT (gd m f),aT (gd m g),bY]from rfl];simp -implicitDefEqProofs only[aa5,za,zl,zW,ev_bi,zo,zq,zd,ze,zh,R.bind_ok,aV5,zg,zC,zx,az,zt,zm,zX,qt,zE];rw[zU (cs:=[.int m,gd m f,gd m g]) _ rfl];simp -implicitDefEqProofs only[zz,R.bind_ok,y];have e:gdD m (λ i j=>.int (pr m f g i j))=gd m (pr m f g):=rfl;rw[e,gc (by rw[ap0,hs];rfl)];simp -implicitDefEqProofs only[R.bind_ok,zI,zJ];exact zn qV (by nofun)
end
def bf2 (m:Nat)(f:Nat->Nat->Int):Prop:=EqG m (pr m f f) f
section
variable {P:Pr} [Has P af3] [Has P aa5] [HasL P aa3] [Has P ac2]
def jM  n (J:1<=m)(y:m<=5)(G:InG m f)(hs:s.all O.ncl=cn) :
  ∃ b,(aa0 P (n+4)).call "is_steady" [gd m f] s=.ok (.T b) s/\(b=cn↔bf2 m f):=by
 have Y:(aa0 P (n+4)).call "is_steady" [gd m f] s=_:=zb ac2 rfl;obtain⟨b,e,h⟩:=cc4 (s:=s) ;refine⟨b,?_,h⟩;rw[Y,show(aO aT [gd m f]++ak ac2.vs bY)=[aT (gd m f)]from rfl];simp -implicitDefEqProofs only[ac2,za,zX,zK,zR,zE,zz,zd,ze,R.bind_ok,z4 n J y G G hs,e,zJ];exact zS
variable [Has P ad5] [Has P ad0] [HasL P ab1] [HasC P "FREE" (.int 0)] [HasC P "UNBOUND" (.int 2)] [HasC P "NONE" (.int 3)]
def aP0 {x}{d}[HasC P x d] U  s :ev (aa0 P n) (.gl x) U s=.ok d s:=by
 show(match(aa0 P n).con x with|some d=>R.ok d s|none=>.B)=_;rw[aD8 (v:=d)]
def aN4  n  x  s :(aa0 P (n+1)).call "round_of" [.int x] s=.ok (.int (L2.rnd x)) s:=by
 have y:(aa0 P (n+1)).call "round_of" [.int x] s=_:=zb ad5 rfl;rw[y,show(aO aT [D.int x]++ak ad5.vs bY)=[aT (D.int x)]from rfl];have g1:=λ U s=>aP0 (P:=P) (n:=n) (x := "FREE") (d:=.int 0) U s;have h:=λ U s=>aP0 (P:=P) (n:=n) (x := "NONE") (d:=.int 3) U s;have g3:=λ U s=>aP0 (P:=P) (n:=n) (x := "UNBOUND") (d:=.int 2) U s;by_cases h0:x=0
 .have e:L2.rnd x=x:=by unfold L2.rnd;lia
  simp -implicitDefEqProofs only[ad5,za,z5,ev_or,zK,zd,ze,R.bind_ok,g1,jZ,h0,zJ]
  simp_all
 .by_cases h3:x=3
  .have e:L2.rnd x=x:=by unfold L2.rnd;lia
   simp -implicitDefEqProofs only[ad5,za,z5,ev_or,zK,g1,h,zJ]
   simp_all
  .have e:L2.rnd x=2:=by unfold L2.rnd;lia
   simp -implicitDefEqProofs only[ad5,za,zl,z5,ev_or,zK,zd,ze,R.bind_ok,g1,h,g3,jZ,h0,h3,decide_false,aG,if_false,zD,zm,zX,zI,zJ]
   simp_all
def ap8  n (G:1<=m)(a0:m<=5)(hf:InG m f)(J:bf2 m f)(hs:s.all O.ncl=cn) :
  (aa0 P (n+5)).call "sharpened" [gd m f] s=.ok (gd m (sh m f)) s:=by
 have e0:(aa0 P (n+5)).call "sharpened" [gd m f] s=_:=zb ad0 rfl;obtain⟨b,eb,hb⟩:=jM (P:=P) n G a0 hf hs;have Z:=hb.mpr J;subst Z;have nL:(O.J (row m λ k=>L2.rnd (f k k))).ncl=true:=bq1;have y:=z0 hs nL;have gL:∀ t:Sto,(s++[O.J (row m λ k=>L2.rnd (f k k))]++t)[s.length]?=aT (.J (row m λ k=>L2.rnd (f k k))):=λ t=>by rw[cb,ag (ai _)];simp
 have Y:=j6 (P:=P) (n+3) (m:=m) (by omega) (d:=.clo "sharpened.0" [.int m,gd m f,.ref s.length]) (s:=s++[O.J (row m λ k=>L2.rnd (f k k))]) (Ww:=λ i j=>.int (sh m f i j)) (λ _ _ _=>rfl) (λ i j hi hj=>by
  have g0:=gL [O.J ((ae i).map λ i=>D.tp ((ae m).map λ j=>D.int (sh m f i j)))];generalize hS:s++[O.J (row m λ k=>L2.rnd (f k k))]++[O.J ((ae i).map λ i=>D.tp ((ae m).map λ j=>D.int (sh m f i j)))]=S at g0;have nS:S.all O.ncl=true:=by
   rw[<-hS];refine z0 y (zN λ d hd=>?_);obtain⟨x,_,rfl⟩:=au.mp hd;unfold D.ncl;exact zN λ d hd=>by obtain⟨x,_,rfl⟩:=au.mp hd;rfl
  refine(qe ab1 (n:=n+2) rfl rfl (by rw[nS];simp[D.nclL,D.ncl,ap0])).trans ?_;show(ev (aa0 P (n+2)) ab1.body [aT (.int i),aT (.int j),aT (.int m),aT (gd m f),aT (.ref s.length)] S).bind (zY S)=_;simp -implicitDefEqProofs only[ab1,ev_mk,jm,qC,zd,ze,zh,R.bind_ok];rw[z6 (by unfold Ww62;omega) (by unfold Ww62;omega)];simp only[R.bind_ok];rw[gc (by rw[zZ];unfold LIM;omega)];have e1:qX (λ s1=>chk S s1 []) (ql (aa0 P (n+2)) (.Y 0) (.bi .max3 (.cons (.ix (.ix (.X 1) (.X 2)) (.X 0)) (.cons (.ix (.X 3) (.X 0)) (.cons (.ix (.ix (.X 1) (.X 0)) (.X 4)) .nil))))) (j4 0 (m:Int)) (qb [aT (.int i),aT (.int j),aT (.int m),aT (gd m f),aT (.ref s.length)] [bY,aT 3,aT 0,aT 4,aT 1]) S=.ok ((ae m).map λ k=>.int (max (max (f i k) (L2.rnd (f k k))) (f k j))) S:=by
   obtain⟨U1,s1,e1,h⟩:=jA (ok:=λ s1=>chk S s1 []) (g:=ql (aa0 P (n+2)) (.Y 0) (.bi .max3 (.cons (.ix (.ix (.X 1) (.X 2)) (.X 0)) (.cons (.ix (.X 3) (.X 0)) (.cons (.ix (.ix (.X 1) (.X 0)) (.X 4)) .nil))))) (λ U u=>u=S/\∃ x,U=[x,aT (gd m f),aT (.int i),aT (.ref s.length),aT (.int j)]) (λ k=>.int (max (max (f i k) (L2.rnd (f k k))) (f k j))) m (qb [aT (.int i),aT (.int j),aT (.int m),aT (gd m f),aT (.ref s.length)] [bY,aT 3,aT 0,aT 4,aT 1]) S ⟨rfl,bY,rfl⟩ (λ _ _ _=>rfl) (by
    rintro k hk U u ⟨rfl,x,rfl⟩
    refine⟨[aT (.int k),aT (gd m f),aT (.int i),aT (.ref s.length),aT (.int j)],u,?_,rfl,_,rfl⟩;unfold ql;simp -implicitDefEqProofs only[zg,zx,ev_bi,zo,zq,qa,zd,ze,zh,R.bind_ok,ay3 hi,ay3 hk,jv hk,jv hj,qz g0 (an8 hk),aE5])
   obtain⟨rfl,_⟩:=h;exact e1
  rw[e1];simp only[R.bind_ok];rw[bG6 (v:=sh m f i j) G (λ x=>by
   rw[at0 G hf i j hi hj,L2.ak5 G];constructor
   .rintro⟨l,hl,h,h2,h3⟩;exact⟨l,hl,by lia⟩
   .rintro⟨l,hl,h⟩;exact⟨l,hl,by omega,by omega,by lia⟩)]
  exact zM)
 have er:qX (λ s1=>chk s s1 []) (ql (aa0 P (n+4)) (.Y 0) (.call "round_of" (.ex (.ix (.ix (.X 1) (.X 0)) (.X 0)) .nil))) (j4 0 (m:Int)) (qb [aT (gd m f),aT (.int m),bY] [bY,aT 0]) s=.ok (row m λ k=>L2.rnd (f k k)) s:=by
  obtain⟨U1,s1,e1,h⟩:=jA (ok:=λ s1=>chk s s1 []) (g:=ql (aa0 P (n+4)) (.Y 0) (.call "round_of" (.ex (.ix (.ix (.X 1) (.X 0)) (.X 0)) .nil))) (λ U u=>u=s/\∃ x,U=[x,aT (gd m f)]) (λ k=>.int (L2.rnd (f k k))) m (qb [aT (gd m f),aT (.int m),bY] [bY,aT 0]) s ⟨rfl,bY,rfl⟩ (λ _ _ _=>rfl) (by
   rintro k hk U u ⟨rfl,x,rfl⟩
   refine⟨[aT (.int k),aT (gd m f)],u,?_,rfl,_,rfl⟩;unfold ql;simp -implicitDefEqProofs only[zg,zx,zR,zE,zz,qa,zd,ze,zh,R.bind_ok,ay3 hk,jv hk,aN4 (n+3)])
  obtain⟨rfl,_⟩:=h;exact e1
 rw[e0,show(aO aT [gd m f]++ak ad0.vs bY)=[aT (gd m f),bY,bY]from rfl];simp -implicitDefEqProofs only[ad0,za,zl,z5,ev_not,zR,zE,zz,zd,ze,zh,R.bind_ok,eb,zD,ki,if_false,aG,zm,zW,ev_bi,zo,zq,aV5,zg,zC,zx,az,zt,ev_mk,jm,qC];rw[z6 (by unfold Ww62;lia) (by unfold Ww62;lia)];simp only[R.bind_ok];rw[gc (by rw[zZ];unfold LIM;lia),er];simp -implicitDefEqProofs only[R.bind_ok,mk,qD,zt,zm,zg,zC,zx,az,za,zl,zX,qt,zE,zd,ze,zh];rw[zU (cs:=[.int m,gd m f,.ref s.length]) _ rfl];simp -implicitDefEqProofs only[zz,R.bind_ok,Y];have e:gdD m (λ i j=>.int (sh m f i j))=gd m (sh m f):=rfl;rw[e,gc (by rw[ap0,y];rfl)];simp -implicitDefEqProofs only[R.bind_ok,zI,zJ];exact zT qV (by nofun)
end
theorem pw_in (y:1<=m)(h:InG m f):∀ n,InG m (pw m f n)
 | 0=>h
 | n+1=>aR8 y (pw_in y h n) h
theorem EqG.pr (G:EqG m f h)(y:EqG m g g'):EqG m (DV.pr m f g) (DV.pr m h g'):=λ i j J hj=>by
 have key:∀ k,k<=m->prN f g i j k=prN h g' i j k:=λ k=>by
  induction k with
  | zero=>intro _;rfl
  | succ k ih=>intro hk;unfold prN;rw[G i k J (by lia),y k j (by omega) hj,ih (by lia)]
 exact key m (ai _)
section
variable {P:Pr} [Has P af3] [Has P aa5] [HasL P aa3] [Has P ac2] [Has P ac1]
set_option tactic.hygienic true in
def bb5 (h:bb2 U i s=.ok (.int a) s)(G:ev F e U s=.ok (.int b) s)(h3:aA5 U i (.int (a+b))=aT U'):ex F (.aug i e) U s=.ok (.next U') s:=by
 show(bb2 U i s).bind (λ x s=>(ev F e U s).bind λ y s=>match x,y with
  | .int a,.int b=>match aA5 U i (.int (a+b))with|some U=>R.ok (Ct.next U) s|none=>.B
  | _,_=>.B)=_
 simp_all
end
section
variable {P:Pr} [Has P ah4]
end
def aO0 (Y:1<=m)(h:EqG m f g):EqG m (L2.sharp m f) (L2.sharp m g):=λ i j J hj=>L2.ai9 λ x=>by
 rw[L2.ak5 Y,L2.ak5 Y];constructor
 .rintro⟨k,hk,y,G,h3⟩
  exact⟨k,hk,by rw[<-h i k J hk];exact y,by rw[<-h k k hk hk];exact G,by rw[<-h k j hk hj];exact h3⟩
 .rintro⟨k,hk,y,G,h3⟩
  exact⟨k,hk,by rw[h i k J hk];exact y,by rw[h k k hk hk];exact G,by rw[h k j hk hj];exact h3⟩
section
variable {m:Nat} (hm:1<=m) {g:Nat->Nat->Int} (hg:InG m g) (hst:bf2 m g)
include hm hg hst
end
def bM9 (h:ev F a U s=.ok (.T c) t):ev F (.notB a b) U s=.ok (.T (!(c==b))) t:=by
 show(ev F a U s).bind (λ x s=>match x with|.T c=>R.ok (D.T (!(c==b))) s|_=>.B)=_;rw[h];rfl
section
variable {P:Pr} [Has P ah4] [Has P af3] [Has P aa5] [HasL P aa3] [Has P ac2] [Has P ad5] [Has P ad0] [HasL P ab1] [HasC P "FREE" (.int 0)] [HasC P "UNBOUND" (.int 2)] [HasC P "NONE" (.int 3)] [Has P ac1]
variable [Has P ak3]
end
def qT {x}{d}[HasC P x d] U  s :ev (aa0 P n) (.gl x) U s=.ok d s:=by
 show(match(aa0 P n).con x with|some d=>R.ok d s|none=>.B)=_;rw[aD8 (v:=d)]
noncomputable def un (i j:Nat):Int:=if i=j then 0 else 3
def qw (m:Nat)(f:Nat->Nat->Int):Nat->Nat->Nat->Int
 | 0=>un
 | n+1=>pr m (qw m f n) f
section
variable {m:Nat} (hm:1<=m)
def bT5:InG m un:=λ i j _ _=>by unfold un;split<;>decide
include hm
theorem aF3 (h:InG m f):∀ n,InG m (qw m f n)
 | 0=>bT5
 | n+1=>aR8 hm (aF3 h n) h
def bD3 (J:InG m f)(y:InG m g)(G:InG m h):EqG m (pr m (pr m f g) h) (pr m f (pr m g h)):=λ i j Y hj=>L2.ai9 λ x=>by
 rw[j0 hm (aR8 hm J y) G Y hj,j0 hm J (aR8 hm y G) Y hj];constructor
 .rintro⟨l,hl,Z,h2⟩
  obtain⟨k,hk,h3,h4⟩:=(j0 hm J y Y hl).mp Z;exact⟨k,hk,h3,(j0 hm y G hk hj).mpr ⟨l,hl,h4,h2⟩⟩
 .rintro⟨k,hk,h3,h4⟩
  obtain⟨l,hl,Z,h2⟩:=(j0 hm y G hk hj).mp h4;exact⟨l,hl,(j0 hm J y Y hl).mpr ⟨k,hk,h3,Z⟩,h2⟩
set_option tactic.hygienic true in
def ce6 (y:InG m f):EqG m (pr m f un) f:=λ i j G hj=>L2.ai9 λ x=>by
 rw[j0 hm y bT5 G hj];constructor
 .rintro⟨l,hl,Y,J⟩
  unfold un at J;split at J
  .rename_i e;subst e;exact Y
  .have:=(y i j G hj).2;lia
 .intro h;exact⟨j,hj,h,by unfold un;rw[gc rfl];have:=(y i j G hj).1;lia⟩
set_option tactic.hygienic true in
def cp7 (G:InG m f):EqG m (pr m un f) f:=λ i j y hj=>L2.ai9 λ x=>by
 rw[j0 hm bT5 G y hj];constructor
 .rintro⟨l,hl,J,Y⟩
  unfold un at J;split at J
  .rename_i e;subst e;exact Y
  .have:=(G i j y hj).2;omega
 .intro h;exact⟨i,y,by unfold un;rw[gc rfl];have:=(G i j y hj).1;omega,h⟩
theorem EqG.trans' (a:EqG m f g)(b:EqG m g h):EqG m f h:=λ i j y hj=>(a i j y hj).trans (b i j y hj)
theorem bI4 (h:InG m f) a :∀ b,EqG m (pr m (qw m f a) (qw m f b)) (qw m f (a+b))
 | 0=>ce6 hm (aF3 hm h a)
 | b+1=>λ i j y hj=>by
  show pr m (qw m f a) (pr m (qw m f b) f) i j=pr m (qw m f (a+b)) f i j;rw[<-bD3 hm (aF3 hm h a) (aF3 hm h b) h i j y hj];exact EqG.pr (bI4 h a b) (λ _ _ _ _=>rfl) i j y hj
end
set_option tactic.hygienic true in
def bO1 (Y:1<=m)(Z:m<=5)(J:InG m f):∃ M,M<=5000/\bf2 m (pw m f M):=by
 obtain⟨M,hM,h⟩:=bg0 Z (λ i j=>by
  show 0<=(if i<m/\j<m then f i j else 0);split
  .rename_i h;exact(J i j h.1 h.2).1
  .decide) (λ i j=>by
  skip
  split
  .rename_i h;exact(J i j h.1 h.2).2
  .decide)
 have e:EqG m (λ i j=>if i<m/\j<m then f i j else 0) f:=λ i j y hj=>gc ⟨y,hj⟩;have G:∀ n,EqG m (pw m (λ i j=>if i<m/\j<m then f i j else 0) n) (pw m f n):=λ n=>by
  induction n with
  | zero=>exact e
  | succ n ih=>exact EqG.pr ih e
 refine⟨M,hM,λ i j y hj=>?_⟩;rw[<-G M i j y hj,<-h i j y hj];exact(EqG.pr (G M) (G M) i j y hj).symm
section
variable {P:Pr} [Has P af3] [Has P ad6] [HasL P ab3] [HasC P "FREE" (.int 0)] [HasC P "NONE" (.int 3)]
def az8  n {m:Nat}(Y:m<=5)(hs:s.all O.ncl=cn) :
  (aa0 P (n+3)).call "plain_signs" [.int m] s=.ok (gd m un) s:=by
 have e0:(aa0 P (n+3)).call "plain_signs" [.int m] s=_:=zb ad6 rfl;have g1:=λ U s=>qT (P:=P) (n:=n) (x := "FREE") (d:=.int 0) U s;have Z:=λ U s=>qT (P:=P) (n:=n) (x := "NONE") (d:=.int 3) U s;have y:=j6 (P:=P) (n+1) (m:=m) (by lia) (d:=.clo "plain_signs.0" []) (λ _ _ _=>rfl) (λ i j hi hj=>by
  generalize J:s++[O.J ((ae i).map λ i=>D.tp ((ae m).map λ j=>D.int (un i j)))]=S;have G:S.all O.ncl=true:=by
   rw[<-J];refine z0 hs (zN λ d hd=>?_);obtain⟨x,_,rfl⟩:=au.mp hd;unfold D.ncl;exact zN λ d hd=>by obtain⟨x,_,rfl⟩:=au.mp hd;rfl
  refine(qe ab3 rfl rfl (by rw[G];rfl)).trans ?_;show(ev (aa0 P n) ab3.body [aT (.int i),aT (.int j)] S).bind (zY S)=_;by_cases h:(i)=(j:Int)
  .have e:un i j=0:=by unfold un;lia
   simp -implicitDefEqProofs only[ab3,jY,zK,zd,ze,zh,R.bind_ok,jZ,h,g1]
   simp_all
  .have e:un i j=3:=by unfold un;lia
   simp -implicitDefEqProofs only[ab3,jY,zK,zd,ze,zh,R.bind_ok,jZ,h,decide_false,zD,if_false,aG,Z]
   simp_all)
 rw[e0,show(aO aT [D.int m]++ak ad6.vs bY)=[aT (.int m)]from rfl];simp -implicitDefEqProofs only[ad6,za,zl,zd,ze,R.bind_ok,zX,qt,zE];rw[zU (cs:=[]) _ rfl];simp -implicitDefEqProofs only[zz,R.bind_ok,y];have e:gdD m (λ i j=>.int (un i j))=gd m un:=rfl;rw[e,gc (by rw[ap0,hs];rfl)];simp -implicitDefEqProofs only[R.bind_ok,zI,zJ];exact zn qV (by nofun)
variable [Has P ae0] [Has P aa5] [HasL P aa3]
set_option tactic.hygienic true in
def bt0  n (Z:1<=m)(a1:m<=5)(hf:InG m f)(hs:s.all O.ncl=cn)(h:Nat) :
  (aa0 P (n+4)).call "raised" [gd m f,.int h,gd m un,.fn "sign_product"] s=.ok (gd m (qw m f h)) s:=by
 have e0:(aa0 P (n+4)).call "raised" [gd m f,.int h,gd m un,.fn "sign_product"] s=_:=zb ae0 rfl;have key:∀ a b,apV (aa0 P (n+3)) (.fn "sign_product") [gd m (qw m f a),gd m (qw m f b)] s=.ok (gd m (qw m f (a+b))) s:=λ a b=>by
  show(aa0 P (n+3)).call "sign_product" _ _=_;rw[z4 n Z a1 (aF3 Z hf a) (aF3 Z hf b) hs,al6 (bI4 Z hf a b)]
 have h1:gd m f=gd m (qw m f 1):=al6 λ i j hi hj=>(cp7 Z hf i j hi hj).symm;rw[e0,h1,show(aO aT [gd m (qw m f 1),.int h,gd m un,.fn "sign_product"]++ak ae0.vs bY)=[aT (gd m (qw m f 1)),aT (.int h),aT (gd m un),aT (.fn "sign_product"),bY,bY,bY]from rfl];simp -implicitDefEqProofs only[ae0];simp -implicitDefEqProofs only[za,zW,zd,ze,zh,R.bind_ok,zg,zC,zx,az,zt,zm];rw[R.bind_assoc];refine aE4 (λ k U t=>∃(a b left:Nat),left=k/\a+b*left=h/\U=[aT (gd m (qw m f 1)),aT (.int h),aT (gd m un),aT (.fn "sign_product"),aT (gd m (qw m f a)),aT (gd m (qw m f b)),aT (.int left)]/\t=s) (λ U t=>∃(b:Nat) (x:Option D),U=[aT (gd m (qw m f 1)),aT (.int h),aT (gd m un),aT (.fn "sign_product"),aT (gd m (qw m f h)),aT (gd m (qw m f b)),x]/\t=s) h ⟨0,1,h,rfl,by lia,rfl,rfl⟩ ?_ ?_
 .rintro k U t ⟨a,b,left,rfl,hab,rfl,rfl⟩
  simp -implicitDefEqProofs only[zK,zd,zw,zy,ze,zh,R.bind_ok,gt_int,bh2];by_cases hl:(0:Int)<(left:Int)
  .simp only[hl,decide_true,if_true];have G:qZ .fdiv (.int left) (.int 2) t=.ok (.int ((left / 2:Nat):Int)) t:=by rw[jW (by decide) (by decide)];simp
   have J:qZ .mod (.int left) (.int 2) t=.ok (.int ((left % 2:Nat):Int)) t:=by rw[jw (by decide)];simp
   obtain⟨y,ha',e1⟩:∃ y:Nat,y+b*(2*(left / 2))=h/\ex (aa0 P (n+3)) (.ite (.Z .eq (.G .mod (.X 6) (.K (.int 2))) (.K (.int 1))) (.cons (.A (.Y 4) (.callV 3 (.cons (.X 4) (.cons (.X 5) .nil)))) .nil) .nil) [aT (gd m (qw m f 1)),aT (.int h),aT (gd m un),aT (.fn "sign_product"),aT (gd m (qw m f a)),aT (gd m (qw m f b)),aT (.int left)] t=.ok (.next [aT (gd m (qw m f 1)),aT (.int h),aT (gd m un),aT (.fn "sign_product"),aT (gd m (qw m f y)),aT (gd m (qw m f b)),aT (.int left)]) t:=by
    by_cases ho:((left % 2:Nat):Int)=1
    .refine⟨a+b,?_,?_⟩
     .have:left=2*(left / 2)+1:=by lia
      grind
     .simp -implicitDefEqProofs only[z5,zK,qg,zd,zw,zy,ze,zh,R.bind_ok,J,jZ,ho,decide_true,zD,if_true,za,zl,zW];rw[qf (d:=.fn "sign_product") _ rfl]
      simp_all
    .refine⟨a,?_,?_⟩
     .grind
     simp_all
   have e2:∃ Y:Nat,y+Y*(left / 2)=h/\exs (aa0 P (n+3)) (.cons (.A (.Y 6) (.G .fdiv (.X 6) (.K (.int 2)))) (.cons (.ite (.Z .gt (.X 6) (.K (.int 0))) (.cons (.A (.Y 5) (.callV 3 (.cons (.X 5) (.cons (.X 5) .nil)))) .nil) .nil) .nil)) [aT (gd m (qw m f 1)),aT (.int h),aT (gd m un),aT (.fn "sign_product"),aT (gd m (qw m f y)),aT (gd m (qw m f b)),aT (.int left)] t=.ok (.next [aT (gd m (qw m f 1)),aT (.int h),aT (gd m un),aT (.fn "sign_product"),aT (gd m (qw m f y)),aT (gd m (qw m f Y)),aT (.int ((left / 2:Nat):Int))]) t:=by
    by_cases hl2:(0:Int)<((left / 2:Nat):Int)
    .refine⟨b+b,?_,?_⟩
     .lia
     .simp -implicitDefEqProofs only[za,zW,qg,zd,zw,zy,ze,zh,R.bind_ok,G,zg,zC,zx,az,zt,zm,z5,zK,gt_int,hl2,decide_true,zD,if_true,zl];rw[qf (d:=.fn "sign_product") _ rfl]
      simp_all
    .refine⟨b,?_,?_⟩
     .lia
     .simp -implicitDefEqProofs only[za,zW,qg,zd,zw,zy,ze,zh,R.bind_ok,G,zg,zC,zx,az,zt,zm,z5,zK,gt_int,hl2,decide_false,zD,if_false,aG,zl]
   obtain⟨Y,a0,e2⟩:=e2;have e3:exs (aa0 P (n+3)) (.cons (.ite (.Z .eq (.G .mod (.X 6) (.K (.int 2))) (.K (.int 1))) (.cons (.A (.Y 4) (.callV 3 (.cons (.X 4) (.cons (.X 5) .nil)))) .nil) .nil) (.cons (.A (.Y 6) (.G .fdiv (.X 6) (.K (.int 2)))) (.cons (.ite (.Z .gt (.X 6) (.K (.int 0))) (.cons (.A (.Y 5) (.callV 3 (.cons (.X 5) (.cons (.X 5) .nil)))) .nil) .nil) .nil))) [aT (gd m (qw m f 1)),aT (.int h),aT (gd m un),aT (.fn "sign_product"),aT (gd m (qw m f a)),aT (gd m (qw m f b)),aT (.int left)] t=.ok (.next [aT (gd m (qw m f 1)),aT (.int h),aT (gd m un),aT (.fn "sign_product"),aT (gd m (qw m f y)),aT (gd m (qw m f Y)),aT (.int ((left / 2:Nat):Int))]) t:=by
    simp_all
   rw[e3];exact⟨left / 2,by lia,y,Y,left / 2,rfl,a0,rfl,rfl⟩
  .simp only[hl,decide_false,if_false,aG];have h0:left=0:=by lia
   subst h0;have:a=h:=by omega
   subst this
   grind
 .rintro U t ⟨b,x,rfl,rfl⟩
  simp -implicitDefEqProofs only[zm,za,zl,zX,zd,ze,zh,R.bind_ok,zI,zJ];exact zn qV (by nofun)
variable [Has P ae5] [HasC P "sign_product" (.fn "sign_product")]
def al9  n (J:1<=m)(y:m<=5)(G:InG m f)(hs:s.all O.ncl=cn)(h:Nat) :
  (aa0 P (n+5)).call "sign_power" [gd m f,.int h] s=.ok (gd m (qw m f h)) s:=by
 have Y:(aa0 P (n+5)).call "sign_power" [gd m f,.int h] s=_:=zb ae5 rfl;have e1:=az8 (P:=P) (n+1) y hs;have g1:=λ U s=>qT (P:=P) (n:=n+4) (x := "sign_product") (d:=.fn "sign_product") U s;rw[Y,show(aO aT [gd m f,D.int h]++ak ae5.vs bY)=[aT (gd m f),aT (.int h)]from rfl];simp -implicitDefEqProofs only[ae5,za,zX,zR,zE,zz,zd,ev_bi,zo,zq,ze,zh,R.bind_ok,aV5,e1,g1,bt0 n J y G hs,zJ];exact zn qV (by nofun)
end
section
variable {P:Pr} [Has P ab6]
end
section
variable {P:Pr} [Has P ak3] [Has P ah4] [Has P ab6] [Has P af3] [Has P ae0] [Has P ad6] [HasL P ab3] [Has P aa5] [HasL P aa3] [Has P ae5] [HasC P "FREE" (.int 0)] [HasC P "NONE" (.int 3)] [HasC P "sign_product" (.fn "sign_product")]
end
noncomputable def aj7 (S:Int->Prop):Option Int->Prop
 | none=>∀ c,¬ S c
 | some c=>S c/\∀ c',S c'->c<=c'
def aj7.eq {S }(h:aj7 S o)(h':aj7 G y)(e:∀ c,S c↔G c):o=y:=by
 cases o with
 | none =>
  cases y with
  | none=>rfl
  | some c=>exact iF ((e c).mpr h'.1) (h c)
 | some c =>
  cases y with
  | none=>exact iF ((e c).mp h.1) (h' c)
  | some c' =>
   have Y:=h.2 c' ((e c').mpr h'.1);have J:=h'.2 c ((e c).mp h.1)
   grind
def aj7.congr {S }(h:aj7 S o)(e:∀ c,S c↔y c):aj7 y o:=by
 cases o with
 | none=>exact λ c hc=>h c ((e c).mpr hc)
 | some c=>exact⟨(e c).mp h.1,λ G hc=>h.2 G ((e G).mpr hc)⟩
noncomputable def minO:Option Int->Option Int->Option Int
 | none,x=>x
 | some a,bY=>aT a
 | some a,aT b=>if b<a then aT b else aT a
noncomputable def Wk (ds:List Dr):List Nat->Nat->Nat->Int->Prop
 | [],p,q,c=>p=q/\c=0
 | x::w,p,q,c=>∃ d∈ds,d.a=p/\d.l=x/\∃ c',Wk ds w d.b q c'/\c=(d.t)+c'
noncomputable def Dr.turn (x:Dr):Dr:=⟨x.b,x.l,x.a,x.t⟩
def Mc.Wk (m:Mc)(w:List Nat)(c:Int):Prop:=∃ p∈m.bg,∃ q∈m.en,DV.Wk m.ds w p q c
def Mc.turn (m:Mc):Mc:=⟨m.L,m.R,m.en,m.bg,m.ds.map Dr.turn⟩
def bc9 (row:List (Option Int)):List D:=row.map jk
def bz0  row :(bc9 row).length=row.length:=ar ..
theorem aA8:∀ l:List Int,qW (l.map D.int)=aT l
 | []=>rfl
 | a::l=>by rw[aJ];unfold qW;rw[aA8 l];rfl
theorem aH7:∀(l:List Int)  a ,(l.foldl min a=a\/l.foldl min a∈l)/\l.foldl min a<=a/\∀ y∈l,l.foldl min a<=y
 | [],a=>⟨.inl rfl,cx _,λ y hy=>by cases hy⟩
 | b::l,a=>by
  obtain⟨G,J,h3⟩:=aH7 l (min a b);rw[cq];refine⟨?_,by omega,λ y hy=>?_⟩
  .rcases G with h|h
   .rw[h];rcases mq a b with z|z
    .left;omega
    .right;rw[show min a b=b by omega];exact aH ..
   .exact .inr (aB _ h)
  .rcases aL.mp hy with z|z
   .rw[z];omega
   .exact h3 y z
def bb4  l :aj7 (λ c=>c∈l) (minI l):=by
 cases l with
 | nil=>exact λ c hc=>by cases hc
 | cons a l =>
  obtain⟨J,G,h3⟩:=aH7 l a;refine⟨?_,λ y hy=>?_⟩
  .rcases J with h|h
   .rw[h];exact aH ..
   .exact aB _ h
  .rcases aL.mp hy with z|z
   .rw[z];exact G
   .exact h3 y z
def bX0  l  s :mkD .min (l.map D.int) .N s=.ok (jk (minI l)) s:=by
 unfold mkD;simp only[aA8];cases minI l<;>rfl
theorem ap5 {α β:Type}{f g:α->Option β}:∀ {l:List α},(∀ x∈l,f x=g x)->l.filterMap f=l.filterMap g
 | [],_=>rfl
 | a::l,h=>by rw[bA,bA,h a (aH ..),ap5 λ x hx=>h x (aB _ hx)]
end DV
end
noncomputable section
namespace DV
def gdO (m:Nat)(f:Nat->Nat->Option Int):D:=gdD m λ i j=>jk (f i j)
def as7  o :(jk o).ncl=true:=by cases o<;>rfl
def au3  n :(gdO m f).bnd n=true:=bi6 (λ i j n=>jx _ n) n
def j2 :(gdO m f).ncl=true:=by
 unfold gdO gdD D.ncl;refine zN λ d hd=>?_;obtain⟨i,_,rfl⟩:=au.mp hd;unfold D.ncl;refine zN λ d hd=>?_;obtain⟨j,_,rfl⟩:=au.mp hd;exact as7 _
def rowO (m:Nat)(f:Nat->Option Int):List D:=(ae m).map λ j=>jk (f j)
def bA8 (h:j<m):(rowO m f)[j]?=aT (jk (f j)):=by unfold rowO;rw[ao,aY h];rfl
def bq2 (h:i<m) s :ixM (gdO m f) (.int (i)) s=.ok (.tp (rowO m (f i))) s:=ix_tup (by rw[ao,aY h];rfl)
def aN9 (h:j<m) s :ixM (.tp (rowO m f)) (.int (j)) s=.ok (jk (f j)) s:=ix_tup (bA8 h)
def aQ6 :bi .len [gdO m f] s=.ok (.int m) s:=by unfold gdO gdD;simp_all
def bq4 (h:∀ i j,i<m->j<m->f i j=g i j):gdO m f=gdO m g:=by
 unfold gdO gdD
 simp_all
noncomputable def addO:Option Int->Option Int->Option Int
 | some a,aT b=>aT (a+b)
 | _,_=>bY
theorem at8:∀ l:List (Option Int),(bc9 l).filterMap (λ d=>if d=D.N then bY else aT d)=(l.filterMap id).map D.int
 | []=>rfl
 | o::l=>by
  have h:=at8 l;unfold bc9 at h ⊢;cases o with
  | none=>simp_all
  | some i=>simp_all
def aV1 [Has P ae7] n {s}{q}{l}(hq:s[q]?=aT (.J (bc9 l)))(hl:l.length<=1000):(aa0 P (n+1)).call "least" [.ref q] s=.ok (jk (minI (l.filterMap id))) s:=by
 have G:(aa0 P (n+1)).call "least" [.ref q] s=_:=zb ae7 rfl;rw[G,show(aO aT [D.ref q]++ak ae7.vs bY)=[aT (D.ref q)]from rfl];have y:ay0 (.ref q) s=.ok ⟨bc9 l,[q]⟩ s:=by simp only[ay0,hq]
 obtain⟨U1,s1,e1,rfl,_⟩:=am5 (ok:=λ s1=>chk s s1 [q]) (g:=aK1 (aa0 P n) (.Y 0) (.notN (.X 0)) (.X 0)) (λ U u=>u=s/\∃ x,U=[x]) (λ d=>if d=D.N then bY else aT d) (bc9 l) [bY] s ⟨rfl,bY,rfl⟩ (λ _ u h=>by obtain⟨rfl,_⟩:=h;simp[chk]) (by
  rintro d hd U u ⟨rfl,x,rfl⟩
  refine⟨[aT d],u,?_,rfl,_,rfl⟩;unfold aK1;by_cases hn:d=.N
  all_goals simp_all)
 rw[at8]at e1;simp -implicitDefEqProofs only[ae7]
 simp -implicitDefEqProofs only[za,zX,zd,zw,ev_mkD,evI_seq,Cn_non,R.bind_ok,ze,zI,zJ,jU,y,gc (show(bc9 l).length<=LIM by rw[bz0];unfold LIM;lia),show qb [aT (D.ref q)] [bY]=[bY]from rfl,e1,bX0]
 exact bd5
def bB4 [Has P af0] n  a b  s :(aa0 P (n+1)).call "added" [jk a,jk b] s=.ok (jk (addO a b)) s:=by
 have h:(aa0 P (n+1)).call "added" [jk a,jk b] s=_:=zb af0 rfl;rw[h,show(aO aT [jk a,jk b]++ak af0.vs bY)=[aT (jk a),aT (jk b)]from rfl];simp -implicitDefEqProofs only[af0];cases a with
 | none=>simp -implicitDefEqProofs only[za,zl,z5,zX,zd,zw,ev_or,ev_isN,Cn_non,R.bind_ok,ze,zh,zI,zJ,zD,if_true,decide_true,am3,eq_self _];exact aw8
 | some a=>cases b with
  | none=>simp -implicitDefEqProofs only[za,zl,z5,zX,zd,zw,ev_or,ev_isN,Cn_non,R.bind_ok,ze,zh,zI,zJ,zD,if_true,if_false,Bool.false_eq_true,decide_true,decide_false,am3,jN,eq_self _,show(D.int a=D.N)=False from eq_false (by nofun)];exact aw8
  | some b=>simp -implicitDefEqProofs only[za,zl,z5,zX,zd,zw,qg,ev_or,ev_isN,Cn_non,R.bind_ok,ze,zh,zm,zI,zJ,add_int,zD,if_false,Bool.false_eq_true,decide_false,jN,show(D.int a=D.N)=False from eq_false (by nofun),show(D.int b=D.N)=False from eq_false (by nofun)];exact zM
def prO (m:Nat)(f g:Nat->Nat->Option Int)(i j:Nat):Option Int:=minI (((ae m).map λ k=>addO (f i k) (g k j)).filterMap id)
def as5 {s:Sto}(hs:s.all O.ncl=cn){Ww:Nat->Nat->D}(h:∀ i j,(Ww i j).ncl=cn):(s++[O.J ((ae i).map λ i=>D.tp ((ae m).map λ j=>Ww i j))]).all O.ncl=true:=by
 refine z0 hs (zN λ d hd=>?_);obtain⟨x,_,rfl⟩:=au.mp hd;unfold D.ncl;exact zN λ d hd=>by obtain⟨x,_,rfl⟩:=au.mp hd;exact h _ _
section
variable {P:Pr} [Has P af3]
def aW5 [Has P af5][HasL P ab2] n {m:Nat}(hm:m<=5){s}(hs:s.all O.ncl=cn) :
  (aa0 P (n+3)).call "plain" [.int m] s=.ok (gdO m λ i j=>if i=j then aT 0 else bY) s:=by
 have Y:(aa0 P (n+3)).call "plain" [.int m] s=_:=zb af5 rfl;have y:=j6 (P:=P) (n+1) (m:=m) (by omega) (d:=.clo "plain.0" []) (λ _ _ n=>jx _ n) (λ i j Z hj=>by
  generalize J:s++[O.J ((ae i).map λ i=>D.tp ((ae m).map λ j=>jk (if i=j then aT 0 else bY)))]=S;have G:S.all O.ncl=true:=by rw[<-J];exact as5 hs (λ _ _=>as7 _)
  refine(qe ab2 rfl rfl (by rw[G];rfl)).trans ?_;show(ev (aa0 P n) ab2.body [aT (.int i),aT (.int j)] S).bind (zY S)=_;simp -implicitDefEqProofs only[ab2];by_cases h:i=j
  .simp_all
  .simp -implicitDefEqProofs only[zd,zw,zK,jY,zy,Cn_non,R.bind_ok,ze,zh,jZ,zD,if_false,Bool.false_eq_true,decide_false,show((i)=(j:Int))=False from eq_false (by lia),gn h,am3];exact aw8)
 rw[Y,show(aO aT [D.int m]++ak af5.vs bY)=[aT (D.int m)]from rfl];simp -implicitDefEqProofs only[af5]
 simp -implicitDefEqProofs only[za,zX,zd,zE,R.bind_ok,ze,qt]
 rw[zU _ rfl];have e:gdD m (λ i j=>jk (if i=j then aT 0 else bY))=gdO m (λ i j=>if i=j then aT 0 else bY):=rfl
 simp -implicitDefEqProofs only[zz,R.bind_ok,zI,zJ,y,e,gc (show((gdO m λ i j=>if i=j then aT 0 else bY).ncl&&s.all O.ncl)=cn by rw[j2,hs];rfl)]
 exact zn au3 (by nofun)
def jB [Has P ae7][Has P af0][Has P ab8][HasL P aa6] n {m}(hm:m<=5) f g {s}(hs:s.all O.ncl=cn) :
  (aa0 P (n+4)).call "product" [gdO m f,gdO m g] s=.ok (gdO m (prO m f g)) s:=by
 have e0:(aa0 P (n+4)).call "product" [gdO m f,gdO m g] s=_:=zb ab8 rfl;have G:=j6 (P:=P) (n+2) (m:=m) (by omega) (d:=.clo "product.0" [.int m,gdO m f,gdO m g]) (λ _ _ n=>jx _ n) (λ i j hi hj=>by
  generalize J:s++[O.J ((ae i).map λ i=>D.tp ((ae m).map λ j=>jk (prO m f g i j)))]=S;have Z:S.all O.ncl=true:=by rw[<-J];exact as5 hs (λ _ _=>as7 _)
  refine(qe aa6 rfl rfl (by rw[Z];simp[D.nclL,D.ncl,j2])).trans ?_;show(ev (aa0 P (n+1)) aa6.body [aT (.int i),aT (.int j),aT (.int m),aT (gdO m f),aT (gdO m g)] S).bind (zY S)=_;obtain⟨U1,s1,e1,rfl,_⟩:=jA (ok:=λ s1=>chk S s1 []) (g:=ql (aa0 P (n+1)) (.Y 0) (.call "added" (.ex (.ix (.ix (.X 1) (.X 2)) (.X 0)) (.ex (.ix (.ix (.X 3) (.X 0)) (.X 4)) .nil)))) (λ U u=>u=S/\∃ x,U=[x,aT (gdO m f),aT (.int i),aT (gdO m g),aT (.int j)]) (λ k=>jk (addO (f i k) (g k j))) m [bY,aT (gdO m f),aT (.int i),aT (gdO m g),aT (.int j)] S ⟨rfl,bY,rfl⟩ (λ _ _ _=>rfl) (by
   rintro k hk U u ⟨rfl,x,rfl⟩
   refine⟨[aT (.int k),aT (gdO m f),aT (.int i),aT (gdO m g),aT (.int j)],u,?_,rfl,_,rfl⟩;unfold ql
   simp -implicitDefEqProofs only[zd,qa,zR,zz,zE,R.bind_ok,zg,zx,ze,zh,bq2 hi,bq2 hk,aN9 hk,aN9 hj,bB4 n])
  have Y:((ae m).map λ k=>jk (addO (f i k) (g k j)))=bc9 ((ae m).map λ k=>addO (f i k) (g k j)):=by unfold bc9;rw[dC];rfl
  rw[Y]at e1;have h:∀ q (s:Sto),mk .list q s=.ok (.ref s.length) (s++[.J q]):=λ _ _=>rfl;have y:=aV1 (P:=P) n (s:=s1++[O.J (bc9 ((ae m).map λ k=>addO (f i k) (g k j)))]) (q:=s1.length) (l:=(ae m).map λ k=>addO (f i k) (g k j)) (by rw[ag (ai _)];simp) (by simp;lia);simp -implicitDefEqProofs only[aa6]
  simp -implicitDefEqProofs only[zd,zR,ev_mk,zz,zE,qC,R.bind_ok,ze,zh,jm,z6 (s:=s1) (i:=(m:Int)) (by unfold Ww62;lia) (by unfold Ww62;lia),gc (show(j4 0 (m:Int)).length<=LIM by rw[zZ];unfold LIM;lia),show qb [aT (D.int (i:Int)),aT (D.int (j:Int)),aT (D.int (m:Int)),aT (gdO m f),aT (gdO m g)] [bY,aT 3,aT 0,aT 4,aT 1]=[bY,aT (gdO m f),aT (.int i),aT (gdO m g),aT (.int j)]from rfl,e1,h,y]
  exact zT (jx _) (aE3 _))
 rw[e0,show(aO aT [gdO m f,gdO m g]++ak ab8.vs bY)=[aT (gdO m f),aT (gdO m g),bY]from rfl];simp -implicitDefEqProofs only[ab8]
 simp -implicitDefEqProofs only[za,zW,zX,zd,ev_bi,zq,zo,zE,R.bind_ok,zg,zC,zx,ze,zh,Option.map_some,zt,zm,aQ6,qt]
 rw[zU (cs:=[.int m,gdO m f,gdO m g]) _ rfl];have e:gdD m (λ i j=>jk (prO m f g i j))=gdO m (prO m f g):=rfl
 simp -implicitDefEqProofs only[zz,R.bind_ok,zI,zJ,G,e,gc (show((gdO m (prO m f g)).ncl&&s.all O.ncl)=cn by rw[j2,hs];rfl)]
 exact zn au3 (by nofun)
end
def aj7.low {S}(J:∀ x∈l,S x)(G:∀ c,S c->∃ x∈l,x<=c):aj7 S (minI l):=by
 have h:=bb4 l;cases e:minI l with
 | none =>
  rw[e]at h;exact λ c hc=>by obtain⟨x,hx,_⟩:=G c hc;exact h x hx
 | some i =>
  rw[e]at h;refine⟨J i h.1,λ c hc=>?_⟩;obtain⟨x,hx,y⟩:=G c hc;exact bp (h.2 x hx) y
def bk3 {A B:Nat->Nat->Int->Prop}(J:∀ i j,i<m->j<m->aj7 (A i j) (f i j))(G:∀ i j,i<m->j<m->aj7 (B i j) (g i j))(Y:i<m)(hj:j<m) :
  aj7 (λ c=>∃ k,k<m/\∃ a b,A i k a/\B k j b/\c=a+b) (prO m f g i j):=by
 unfold prO;refine aj7.low (λ x hx=>?_) λ c hc=>?_
 .obtain⟨o,ho,e⟩:=cI.mp hx;obtain⟨k,hk,rfl⟩:=au.mp ho;have hk:=aX.mp hk;have h:=J i k Y hk;have y:=G k j hk hj;cases e1:f i k with
  | none=>rw[e1]at e;cases e
  | some a =>
   cases e2:g k j with
   | none=>rw[e1,e2]at e;cases e
   | some b =>
    rw[e1]at h;rw[e2]at y;rw[e1,e2]at e;cases e;exact⟨k,hk,a,b,h.1,y.1,rfl⟩
 .obtain⟨k,hk,a,b,ha,hb,rfl⟩:=hc;have h:=J i k Y hk;have y:=G k j hk hj;cases e1:f i k with
  | none=>rw[e1]at h;exact iF ha (h a)
  | some a' =>
   cases e2:g k j with
   | none=>rw[e2]at y;exact iF hb (y b)
   | some b' =>
    rw[e1]at h;rw[e2]at y;refine⟨a'+b',cI.mpr ⟨aT (a'+b'),au.mpr ⟨k,aX.mpr hk,by rw[e1,e2];rfl⟩,rfl⟩,?_⟩;have:=h.2 a ha;have:=y.2 b hb;lia
def ar0 (m:Mc)(w:List Nat)(f:Nat->Nat->Option Int):Prop:=∀ i j,i<m.R->j<m.R->aj7 (Wk m.ds w i j) (f i j)
theorem ar0.eq (h:ar0 m w f)(h':ar0 m w g):gdO m.R f=gdO m.R g:=bq4 λ i j y hj=>(h i j y hj).eq (h' i j y hj) λ _=>Iff.rfl
theorem bq8 :∀ {v w} {p q} {c},Wk y (v++w) p q c↔∃ k a b,Wk y v p k a/\Wk y w k q b/\c=a+b
 | [],w,p,q,c=>by
  constructor
  .intro h;exact⟨p,0,c,⟨rfl,rfl⟩,h,by lia⟩
  .rintro⟨k,a,b,⟨rfl,rfl⟩,h,e⟩
   simp_all
 | x::v,w,p,q,c=>by
  skip
  constructor
  .rintro⟨d,hd,G,J,c',h3,e⟩
   obtain⟨k,a,b,Y,Z,e2⟩:=bq8.mp h3;exact⟨k,a+d.t,b,⟨d,hd,G,J,a,Y,by lia⟩,Z,by lia⟩
  .rintro⟨k,a,b,⟨d,hd,G,J,a',Y,e⟩,Z,e2⟩
   exact⟨d,hd,G,J,a'+b,bq8.mpr ⟨k,a',b,Y,Z,rfl⟩,by lia⟩
theorem bY4 {m:Mc}(y:m.Ok):∀ {w} {p q} {c},p<m.R->Wk m.ds w p q c->q<m.R
 | [],p,q,c,hp,h=>by obtain⟨rfl,_⟩:=h;exact hp
 | x::w,p,q,c,hp,h=>by
  obtain⟨d,hd,_,_,G,h3,_⟩:=h;exact bY4 y (y.ds.1 d hd).b h3
def ar0.nil :ar0 m [] λ i j=>if i=j then aT 0 else none:=λ i j y hj=>by
 show aj7 (Wk m.ds [] i j) (if i=j then aT 0 else bY);by_cases h:i=j
 .rw[gc h];exact⟨⟨h,rfl⟩,λ c hc=>by have:=hc.2;lia⟩
 .rw[gn h];exact λ c hc=>h hc.1
def ar0.mul (Y:m.Ok)(h:ar0 m v f)(h':ar0 m w g):ar0 m (v++w) (prO m.R f g):=λ i j J hj=>(bk3 h h' J hj).congr λ c=>by
 rw[bq8];constructor
 .rintro⟨k,_,a,b,y,G,e⟩;exact⟨k,a,b,y,G,e⟩
 .rintro⟨k,a,b,y,G,e⟩;exact⟨k,bY4 Y J y,a,b,y,G,e⟩
def ltF (ds:List Dr)(c i j:Nat):Option Int:=minI (ds.filterMap λ d=>if d.a=i/\d.l=c/\d.b=j then aT (d.t)else bY)
def ap9 :Wk G [x] p q c↔∃ d∈G,d.l=x/\d.a=p/\d.b=q/\c=d.t:=by
 constructor
 .rintro⟨d,hd,h,y,J,⟨h3,Y⟩,e⟩;exact⟨d,hd,y,h,h3,by lia⟩
 .rintro⟨d,hd,h,y,h3,e⟩;exact⟨d,hd,y,h,0,⟨h3,rfl⟩,by lia⟩
set_option tactic.hygienic true in
def ar0.letter  c :ar0 m [c] (ltF m.ds c):=λ i j J hj=>by
 unfold ltF;refine aj7.low (λ x hx=>?_) λ x hx=>?_
 .obtain⟨d,hd,e⟩:=cI.mp hx;split at e
  .rename_i h;cases e;exact ap9.mpr ⟨d,hd,h.2.1,h.1,h.2.2,rfl⟩
  .cases e
 .obtain⟨d,hd,G,y,h3,e⟩:=ap9.mp hx;exact⟨x,cI.mpr ⟨d,hd,by rw[gc ⟨y,G,h3⟩,e]⟩,cx _⟩
def bl3 {a b i j  :Nat}:qp .eq (.tp [.int (a),.str [l],.int (b)]) (.tp [.int (i),.str [c],.int (j)]) s=.ok (.T (decide (a=i/\l=c/\b=j))) s:=by
 have:eqv s DEEP (.tp [.int (a),.str [l],.int (b)]) (.tp [.int (i),.str [c],.int (j)])=aT (((a)==(i:Int))&&(([l]==[c])&&(((b)==(j:Int))&&cn))):=rfl;show(match eqv s DEEP (.tp [.int (a),.str [l],.int (b)]) (.tp [.int (i),.str [c],.int (j)])with|some r=>R.ok (D.T r) s|none=>.B)=_;rw[this];show R.ok (D.T _) s=_
 congr 2
 lia
section
variable {P:Pr} [Has P af3] [Has P ae7] [Has P aa9] [Has P ab5] [Has P aa4] [HasL P aa2]
def bp0 {m:Mc}:m.d.ncl=true:=by
 unfold Mc.d Mc.ps D.ncl;simp only[D.nclL,D.ncl,aX3,du];exact zN λ d hd=>by obtain⟨x,_,rfl⟩:=au.mp hd;rfl
def jG  n {m:Mc}(Z:m.Ok) c (hs:s.all O.ncl=cn) :
  (aa0 P (n+4)).call "letter_table" [m.d,.str [c]] s=.ok (gdO m.R (ltF m.ds c)) s:=by
 have e0:(aa0 P (n+4)).call "letter_table" [m.d,.str [c]] s=_:=zb aa4 rfl;have hR:=Z.R5;have hD:=Z.ds.2;have hg:=j6 (P:=P) (n+2) (m:=m.R) (by lia) (d:=.clo "letter_table.least_fee" [m.d,.str [c]]) (λ _ _ n=>jx _ n) (λ i j hi hj=>by
  generalize hS:s++[O.J ((ae i).map λ i=>D.tp ((ae m.R).map λ j=>jk (ltF m.ds c i j)))]=S;have nS:S.all O.ncl=true:=by rw[<-hS];exact as5 hs (λ _ _=>as7 _)
  refine(qe aa2 rfl rfl (by rw[nS];simp[D.nclL,D.ncl,bp0])).trans ?_;show(ev (aa0 P (n+1)) aa2.body [aT (.int i),aT (.int j),aT m.d,aT (.str [c])] S).bind (zY S)=_;obtain⟨U1,s1,e1,rfl,_⟩:=am5 (ok:=λ s1=>chk S s1 []) (g:=aK1 (aa0 P (n+1)) (.tp [0,1,2,3]) (.Z .eq (.tp (.cons (.X 0) (.cons (.X 1) (.cons (.X 2) .nil)))) (.tp (.cons (.X 4) (.cons (.X 5) (.cons (.X 6) .nil))))) (.X 3)) (λ U u=>u=S/\∃ x0 x1 G x3,U=[x0,x1,G,x3,aT (.int (i:Int)),aT (.str [c]),aT (.int (j:Int))]) (λ d=>match d with|.tp [.int a,.str [l],.int b,.int t]=>if a=i/\l=c/\b=j then aT (.int t)else bY|_=>bY) (m.ds.map Dr.d) [bY,bY,bY,bY,aT (.int (i:Int)),aT (.str [c]),aT (.int (j:Int))] S ⟨rfl,bY,bY,bY,bY,rfl⟩ (λ _ _ _=>rfl) (by
   rintro d hd U u ⟨rfl,x0,x1,G,x3,rfl⟩
   obtain⟨x,_,rfl⟩:=au.mp hd;refine⟨[aT (.int x.a),aT (.str [x.l]),aT (.int x.b),aT (.int x.t),aT (.int i),aT (.str [c]),aT (.int j)],u,?_,rfl,_,_,_,_,rfl⟩;unfold aK1 Dr.d;by_cases h:x.a=i/\x.l=c/\x.b=j
   .simp -implicitDefEqProofs only[zd,zK,jE,zq,zo,R.bind_ok,bindT_tup,setVs_nil,setVs_cons,zC,zx,ze,zh,Option.map_some,Option.bind_some,zD,bl3,h]
    simp
   .have h2:¬((x.a:Int)=(i:Int)/\x.l=c/\(x.b:Int)=(j:Int)):=by lia
    simp -implicitDefEqProofs only[zd,zK,jE,zq,zo,R.bind_ok,bindT_tup,setVs_nil,setVs_cons,zC,zx,ze,zh,Option.map_some,Option.bind_some,zD,if_false,Bool.false_eq_true,decide_false,bl3,h,gn h2])
  have er:(m.ds.map Dr.d).filterMap (λ d=>match d with|.tp [.int a,.str [l],.int b,.int t]=>if a=i/\l=c/\b=j then aT (D.int t)else bY|_=>bY)=bc9 ((m.ds.filterMap λ d=>if d.a=i/\d.l=c/\d.b=j then aT (d.t:Int)else bY).map aT):=by
   unfold bc9;rw[dC,eD,List.map_filterMap];refine ap5 λ x _=>?_;unfold Dr.d;simp only[km];by_cases h:x.a=i/\x.l=c/\x.b=j
   .simp_all
   .rw[gn h,gn (by omega)];rfl
  rw[er]at e1;generalize Y:(m.ds.filterMap λ d=>if d.a=i/\d.l=c/\d.b=j then aT (d.t:Int)else bY)=L at e1;have a0:L.length<=75:=by rw[<-Y];exact am (gu _ _) hD
  have y:∀ q (s:Sto),mk .list q s=.ok (.ref s.length) (s++[.J q]):=λ _ _=>rfl;have J:=aV1 (P:=P) n (s:=s1++[O.J (bc9 (L.map aT))]) (q:=s1.length) (l:=L.map aT) (by rw[ag (ai _)];simp) (by simp;lia);have eL:(L.map aT).filterMap id=L:=by simp_all
  rw[eL]at J;simp -implicitDefEqProofs only[aa2]
  simp -implicitDefEqProofs only[zd,zR,ev_mk,zz,zE,evI_seq,R.bind_ok,ze,zh,aR2 n,ao4,jU,gc (show(m.ds.map Dr.d).length<=LIM by rw[ar];unfold LIM;lia),show qb [aT (D.int (i:Int)),aT (D.int (j:Int)),aT m.d,aT (D.str [c])] [bY,bY,bY,bY,aT 0,aT 3,aT 1]=[bY,bY,bY,bY,aT (.int (i:Int)),aT (.str [c]),aT (.int (j:Int))]from rfl,e1,y,J]
  rw[<-Y];exact zT (jx _) (aE3 _))
 rw[e0,show(aO aT [m.d,D.str [c]]++ak aa4.vs bY)=[aT m.d,aT (D.str [c]),bY]from rfl];simp -implicitDefEqProofs only[aa4]
 simp -implicitDefEqProofs only[za,zX,ex_und,zd,zR,zz,zE,R.bind_ok,unsetV_s,unsetV_0,ze,Option.map_some,zt,zm,qt,jd (n+2)]
 rw[zU (cs:=[m.d,.str [c]]) _ rfl];have e:gdD m.R (λ i j=>jk (ltF m.ds c i j))=gdO m.R (ltF m.ds c):=rfl
 simp -implicitDefEqProofs only[zz,R.bind_ok,zI,zJ,hg,e,gc (show((gdO m.R (ltF m.ds c)).ncl&&s.all O.ncl)=cn by rw[j2,hs];rfl)]
 exact zn au3 (by nofun)
end
def bv3 {s:Sto}:(s++[o])[s.length]?=aT o:=by rw[ag (ai _)];simp
def cg8  a :(sg a).length=a.length:=by unfold sg;exact ar _
theorem aC2  k a v :∀ l:List (D×D),look k (l++[(a,v)])=match look k l with|some x=>aT x|none=>if a=k then aT v else bY
 | []=>by unfold look;rfl
 | (b,u)::l=>by
  rw[cU];unfold look;by_cases h:b=k
  .rw[gc h,gc h]
  .rw[gn h,gn h];exact aC2 k a v l
def aI2 (h:s[r]?=aT (.dc l))(hk:k.key=cn):qp .notin k (.ref r) s=.ok (.T (!(look k l).isSome)) s:=by
 show(inM k (.ref r) s).bind (λ r s=>R.ok (D.T (!r)) s)=_;simp only[inM,h,hk,if_true,R.bind_ok]
def bG5 (h:s[r]?=aT (.dc l))(hk:k.key=cn)(hv:look k l=aT v):ixM (.ref r) k s=.ok v s:=by
 simp only[ixM,h,hk,if_true,hv]
def bU8 (h:s[r]?=aT (.dc l))(hk:k.key=cn)(hl:l.length<LIM):setIx (.ref r) k v s=.ok () (s.set r (.dc (bc3 k v l))):=by
 simp[setIx,h,hk,hl]
def bM4 :ev F (.dc .nil .nil) U s=.ok (.ref s.length) (s++[.dc []]):=rfl
def bS6 (h:look k l=bY):bc3 k v l=l++[(k,v)]:=by unfold bc3;rw[h];rfl
def bw8 {s:Sto}{o :O}:(s++[o]).set s.length p=s++[p]:=by simp_all
section
variable {P:Pr} [Has P af3] [Has P ae7] [Has P af0] [Has P aa9] [Has P ab5] [Has P aa4] [HasL P aa2] [Has P af5] [HasL P ab2] [Has P ab8] [HasL P aa6] [Has P aa8]
def bM1 (m:Mc)(l:List (D×D)):Prop:=(∀ c v,look (.str [c]) l=aT v->v=gdO m.R (ltF m.ds c))/\∀ p∈l,p.2.ncl=cn
def bM1.nil :bM1 m []:=⟨λ c v h=>(by cases h),λ p y=>(by cases y)⟩
def aG2  n (Z:m.Ok) w (hw:w.length<=5000)(hs:s.all O.ncl=cn) :
  ∃ f,ar0 m w f/\(aa0 P (n+5)).call "word_table" [m.d,.str w] s=.ok (gdO m.R f) s:=by
 have e0:(aa0 P (n+5)).call "word_table" [m.d,.str w] s=_:=zb aa8 rfl;have hR:=Z.R5;have nd:∀ l:List (D×D),bM1 m l->(s++[O.dc l]).all O.ncl=true:=λ l h=>z0 hs (zN λ d hd=>by
  obtain⟨p,Y,rfl⟩:=au.mp hd;exact h.2 p Y)
 have key:=an9 (ok:=λ s1=>chk (s++[O.dc []]) s1 []) (g:=turn (aa0 P (n+4)) (.Y 4) (.cons (.ite (.Z .notin (.X 4) (.X 2)) (.cons (.setIx (.X 2) (.X 4) (.call "letter_table" (.ex (.X 0) (.ex (.X 4) .nil)))) .nil) .nil) (.cons (.A (.Y 3) (.call "product" (.ex (.X 3) (.ex (.ix (.X 2) (.X 4)) .nil)))) .nil)))
  (λ k U t=>∃ f l x,ar0 m (w.take k) f/\bM1 m l/\l.length<=k/\U=[aT m.d,aT (.str w),aT (.ref s.length),aT (gdO m.R f),x]/\t=s++[.dc l]) (sg w) 0 [aT m.d,aT (.str w),aT (.ref s.length),aT (gdO m.R λ i j=>if i=j then aT 0 else bY),bY] (s++[O.dc []])
  ⟨_,[],bY,by rw[lN];exact ar0.nil,bM1.nil,ai _,rfl,rfl⟩ (λ _ _ _ _ _=>rfl) (by
  rintro k d U t hk ⟨f,l,x,y,hl,a0,rfl,rfl⟩
  rw[bB]at y a0 ⊢;unfold sg at hk;rw[ao]at hk;obtain⟨c,hc,rfl⟩:=bL.mp hk;have a1:=(ab.mp hc).1;have G:∀ l:List (D×D),(s++[O.dc l])[s.length]?=aT (.dc l):=λ l=>by simp_all
  have e1:=jG (P:=P) n Z c (nd l hl);have hT:ar0 m (w.take (k+1)) (prO m.R f (ltF m.ds c)):=by
   rw[ju hc];exact ar0.mul Z y (ar0.letter c)
  cases hlk:look (.str [c]) l with
  | none =>
   have hl2:bM1 m (l++[(.str [c],gdO m.R (ltF m.ds c))]):=by
    refine⟨λ c' v hv=>?_,λ p Y=>?_⟩
    .rw[aC2]at hv;cases q:look (.str [c']) l with
     | none =>
      lia
     | some v'=>rw[q]at hv;cases hv;exact hl.1 c' v q
    .rcases bN.mp Y with h|h
     .exact hl.2 p h
     .rw[bv.mp h];exact j2
   have e2:=jB (P:=P) n hR f (ltF m.ds c) (nd _ hl2);have J:=bG5 (G (l++[(.str [c],gdO m.R (ltF m.ds c))])) rfl (v:=gdO m.R (ltF m.ds c)) (by rw[aC2,hlk];simp);have e4:=bU8 (v:=gdO m.R (ltF m.ds c)) (G l) (k:=.str [c]) rfl (by unfold LIM;lia);rw[bS6 hlk,bw8]at e4;refine⟨_,_,.inl ?_,_,_,aT (.str [c]),hT,hl2,by simp_all,rfl,rfl⟩;unfold turn
   simp -implicitDefEqProofs only[za,zl,zW,z5,ex_setIx,zd,zK,qa,zR,zz,zE,R.bind_ok,zg,zC,zx,ze,zh,Option.map_some,zt,zm,zD,if_true,Bool.not_false,aI2 (G l) (k:=.str [c]) rfl,hlk,kB,e1,e4,J,e2]
  | some v =>
   have hv:=hl.1 c v hlk;have e2:=jB (P:=P) n hR f (ltF m.ds c) (nd _ hl);have J:=bG5 (G l) (k:=.str [c]) rfl hlk;rw[hv]at J;refine⟨_,_,.inl ?_,_,_,aT (.str [c]),hT,hl,by lia,rfl,rfl⟩;unfold turn
   simp -implicitDefEqProofs only[za,zl,zW,z5,ex_setIx,zd,zK,qa,zR,zz,zE,R.bind_ok,zg,zC,zx,ze,zh,Option.map_some,zt,zm,zD,if_false,Bool.false_eq_true,Bool.not_true,aI2 (G l) (k:=.str [c]) rfl,hlk,fR,J,e2])
 refine wl λ _ kk=>?_;obtain⟨U',s',ek,f,l,x,y,hl,_,rfl,rfl⟩:=key;rw[bB,cg8,bP]at y;refine kk ⟨f,y,?_⟩;have e1:=aW5 (P:=P) (n+1) hR (nd [] bM1.nil);have h2:∀ t,ay0 (.str w) t=.ok ⟨sg w,[]⟩ t:=λ _=>rfl;rw[e0,show(aO aT [m.d,D.str w]++ak aa8.vs bY)=[aT m.d,aT (D.str w),bY,bY,bY]from rfl];simp -implicitDefEqProofs only[aa8]
 simp -implicitDefEqProofs only[za,zW,ex_for,zd,zR,zz,zE,evI_seq,R.bind_ok,zg,zC,zx,ze,zh,Option.map_some,zt,zm,bM4,jd (n+3),e1,h2]
 rw[ek]
 simp -implicitDefEqProofs only[za,zX,zd,R.bind_ok,ze,zh,zm,zI,zJ]
 exact zT au3 (by nofun)
end
theorem jX :∀ {l},(∀ d∈l,f d d=aT cn)->eqL f l l=aT cn
 | [],_=>rfl
 | d::l,h=>by
  show(match f d d,eqL f l l with|some x,aT y=>aT (x&&y)|_,_=>bY)=_;rw[h d (aH ..),jX λ x hx=>h x (aB _ hx)];rfl
def by3  o :eqv s n (jk o) (jk o)=aT true:=by
 cases o<;>cases n<;>simp[eqv,ai3,bc7]
def bQ9 :eqv s DEEP (gdO m f) (gdO m f)=aT true:=by
 skip
 refine jX λ d hd=>?_;obtain⟨i,_,rfl⟩:=au.mp hd
 skip
 refine jX λ d hd=>?_;obtain⟨j,_,rfl⟩:=au.mp hd;exact by3 _
def cl2 :qp .ne (gdO m f) (gdO m f) s=.ok (.T dt) s:=by
 show(match eqv s DEEP (gdO m f) (gdO m f)with|some r=>R.ok (D.T (!r)) s|none=>.B)=_;rw[bQ9];rfl
section
variable {P:Pr} [Has P af3] [Has P ae7] [Has P af0] [Has P aa9] [Has P ab5] [Has P aa4] [HasL P aa2] [Has P af5] [HasL P ab2] [Has P ab8] [HasL P aa6] [Has P aa8]

end
section
variable {P:Pr} [Has P jg] [Has P jK] [Has P zQ]
variable [Has P af3] [Has P ae7] [Has P af0] [Has P aa9] [Has P ab5] [Has P aa4] [HasL P aa2] [Has P af5] [HasL P ab2] [Has P ab8] [HasL P aa6] [Has P aa8]
end
noncomputable def sgn:Option Int->Int
 | none=>3
 | some i=>if i=0 then 0 else 1
def ci7  o :0<=sgn o/\sgn o<=3/\sgn o≠2:=by
 cases o with
 | none=>exact⟨by decide,by decide,by decide⟩
 | some i=>unfold sgn;simp only;split<;>exact⟨by decide,by decide,by decide⟩
theorem ce5 :∀ {w} {p q} {c},Wk y w p q c->0<=c
 | [],p,q,c,h=>by have:=h.2;lia
 | x::w,p,q,c,h=>by
  obtain⟨d,hd,_,_,G,h3,e⟩:=h;have:=ce5 h3;lia
structure SgW1 (S:Int->Prop)(x:Int):Prop where
 lo:0<=x
 hi:x<=3
 n2:x≠2
 z:x=0↔S 0
 t:x=3↔∀ c,¬ S c
def SgW1.eq {S}(h:SgW1 S x)(g:SgW1 S y):x=y:=by
 have J:=h.z.trans g.z.symm;have G:=h.t.trans g.t.symm;have:=h.lo;have:=h.hi;have:=h.n2;have:=g.lo;have:=g.hi;have:=g.n2;lia
set_option tactic.hygienic true in
def bp1 {S}(h:aj7 S o)(G:∀ c,S c->0<=c):SgW1 S (sgn o):=by
 obtain⟨h0,h3,y⟩:=ci7 o;refine⟨h0,h3,y,?_,?_⟩
 .cases o with
  | none=>exact⟨λ z=>(by cases z),λ z=>iF z (h 0)⟩
  | some i =>
   show(if i=0 then(0)else 1)=0↔_;constructor
   .intro z;split at z
    .rename_i e;rw[<-e];exact h.1
    grind
   .intro z;have J:=h.2 0 z;have y:=G i h.1;lia
 .cases o with
  | none=>exact⟨λ _=>h,λ _=>rfl⟩
  | some i =>
   show(if i=0 then(0)else 1)=3↔_;constructor
   .grind
   .intro z;exact iF h.1 (z i)
def SgW (m:Mc)(w:List Nat)(g:Nat->Nat->Int):Prop:=∀ i j,i<m.R->j<m.R->SgW1 (Wk m.ds w i j) (g i j)
def ar0.sg (h:ar0 m w f):SgW m w λ i j=>sgn (f i j):=λ i j y hj=>bp1 (h i j y hj) λ c hc=>ce5 hc
def SgW.eqG (h:SgW m w f)(h':SgW m w g):EqG m.R f g:=λ i j y hj=>(h i j y hj).eq (h' i j y hj)
def SgW.inG (h:SgW m w f):InG m.R f:=λ i j hi hj=>⟨(h i j hi hj).lo,(h i j hi hj).hi⟩
theorem aW2  G  c i j :∀ k,k<=G.length->(sgF G c i j k=3/\∀ d∈G.take k,¬(d.l=c/\d.a=i/\d.b=j))\/(sgF G c i j k=1/\(∃ d∈G.take k,d.l=c/\d.a=i/\d.b=j)/\∀ d∈G.take k,d.l=c/\d.a=i/\d.b=j->d.t≠0)\/(sgF G c i j k=0/\∃ d∈G.take k,(d.l=c/\d.a=i/\d.b=j)/\d.t=0)
 | 0,_=>.inl ⟨rfl,λ d hd=>by simp_all⟩
 | k+1,hk=>by
  have Z:=aW2 G c i j k (by lia);have hx:=ac (show k<G.length by lia);have y:∀ d,d∈G.take (k+1)↔d∈G.take k\/d=G[k]:=λ d=>by rw[ju hx,bN,bv]
  have key:sgF G c i j (k+1)=if G[k].l=c/\i=G[k].a/\j=G[k].b then(if(if 0<G[k].t then(1)else 0)<sgF G c i j k then(if 0<G[k].t then(1)else 0)else sgF G c i j k)else sgF G c i j k:=by
   conv=>lhs;unfold sgF
   rw[hx]
  rw[key];generalize a0:G[k]=x at *;by_cases hc:x.l=c/\i=x.a/\j=x.b
  .rw[gc hc];have J:x.l=c/\x.a=i/\x.b=j:=⟨hc.1,hc.2.1.symm,hc.2.2.symm⟩
   by_cases ht:0<x.t
   .rw[gc ht];rcases Z with⟨e,h⟩|⟨e,h1,h2⟩|⟨e,d,hd,h1⟩
    .rw[e,gc (by decide)];refine .inr (.inl ⟨rfl,⟨x,(y x).mpr (.inr rfl),J⟩,λ d hd Y=>?_⟩);rcases(y d).mp hd with z|z
     .exact iF Y (h d z)
     .rw[z];lia
    .rw[e,gn (by decide)];refine .inr (.inl ⟨rfl,⟨x,(y x).mpr (.inr rfl),J⟩,λ d hd Y=>?_⟩);rcases(y d).mp hd with z|z
     .exact h2 d z Y
     .rw[z];lia
    .rw[e,gn (by decide)];exact .inr (.inr ⟨rfl,d,(y d).mpr (.inl hd),h1⟩)
   .rw[gn ht];have hz:x.t=0:=by lia
    rcases Z with⟨e,h⟩|⟨e,h1,h2⟩|⟨e,d,hd,h1⟩
    .rw[e,gc (by decide)];exact .inr (.inr ⟨rfl,x,(y x).mpr (.inr rfl),J,hz⟩)
    .rw[e,gc (by decide)];exact .inr (.inr ⟨rfl,x,(y x).mpr (.inr rfl),J,hz⟩)
    .rw[e,gn (by decide)];exact .inr (.inr ⟨rfl,x,(y x).mpr (.inr rfl),J,hz⟩)
  .rw[gn hc];have J:¬(x.l=c/\x.a=i/\x.b=j):=λ z=>hc ⟨z.1,z.2.1.symm,z.2.2.symm⟩;rcases Z with⟨e,h⟩|⟨e,⟨d,hd,h1⟩,h2⟩|⟨e,d,hd,h1⟩
   .refine .inl ⟨e,λ d hd Y=>?_⟩;rcases(y d).mp hd with z|z
    .exact h d z Y
    .rw[z]at Y;exact J Y
   .refine .inr (.inl ⟨e,⟨d,(y d).mpr (.inl hd),h1⟩,λ d hd Y=>?_⟩);rcases(y d).mp hd with z|z
    .exact h2 d z Y
    .rw[z]at Y;exact iF Y J
   .exact .inr (.inr ⟨e,d,(y d).mpr (.inl hd),h1⟩)
def SgW.letter  m  c :SgW m [c] (sgM m c):=λ i j G hj=>by
 have h:=aW2 m.ds c i j m.ds.length (ai _);rw[bP]at h;unfold sgM;rcases h with⟨e,h⟩|⟨e,⟨d,hd,h1⟩,h2⟩|⟨e,d,hd,h1,h3⟩
 .rw[e];refine⟨by decide,by decide,by decide,⟨λ z=>(by cases z),λ z=>?_⟩,⟨λ _ x hx=>?_,λ _=>rfl⟩⟩
  .obtain⟨d,hd,a,b,y,_⟩:=ap9.mp z;simp_all
  .obtain⟨d,hd,a,b,y,_⟩:=ap9.mp hx;simp_all
 .rw[e];refine⟨by decide,by decide,by decide,⟨λ z=>(by cases z),λ z=>?_⟩,⟨λ z=>(by cases z),λ z=>?_⟩⟩
  .obtain⟨d,hd,a,b,y,e2⟩:=ap9.mp z;grind
  .exact iF (ap9.mpr ⟨d,hd,h1.1,h1.2.1,h1.2.2,rfl⟩) (z _)
 .rw[e];refine⟨by decide,by decide,by decide,⟨λ _=>ap9.mpr ⟨d,hd,h1.1,h1.2.1,h1.2.2,by lia⟩,λ _=>rfl⟩,⟨λ z=>(by cases z),λ z=>?_⟩⟩;exact iF (ap9.mpr ⟨d,hd,h1.1,h1.2.1,h1.2.2,rfl⟩) (z _)
section
variable {P:Pr} [HasC P "FREE" (.int 0)] [HasC P "SOME" (.int 1)] [HasC P "NONE" (.int 3)] [Has P ag4]
def bb3  n  o  s :(aa0 P (n+1)).call "sign_of" [jk o] s=.ok (.int (sgn o)) s:=by
 have y:(aa0 P (n+1)).call "sign_of" [jk o] s=_:=zb ag4 rfl;have g3:=λ U s=>(js (P:=P) (n:=n) (x := "NONE") (v:=.int 3) (U:=U) (s:=s))
 have g0:=λ U s=>(js (P:=P) (n:=n) (x := "FREE") (v:=.int 0) (U:=U) (s:=s))
 have g1:=λ U s=>(js (P:=P) (n:=n) (x := "SOME") (v:=.int 1) (U:=U) (s:=s))
 rw[y,show(aO aT [jk o]++ak ag4.vs bY)=[aT (jk o)]from rfl];simp -implicitDefEqProofs only[ag4];cases o with
 | none=>simp -implicitDefEqProofs only[za,zl,z5,zX,zd,ev_isN,R.bind_ok,ze,zI,zJ,zD,if_true,decide_true,am3,g3];exact zM
 | some i =>
  by_cases h:i=0
  .subst h;simp -implicitDefEqProofs only[za,zl,z5,zX,zd,zw,zK,jY,ev_isN,zy,R.bind_ok,ze,zm,zI,zJ,jZ,zD,if_true,if_false,Bool.false_eq_true,decide_true,decide_false,jN,show(D.int 0=D.N)=False from eq_false (by nofun),g0,sgn];exact zM
  .simp -implicitDefEqProofs only[za,zl,z5,zX,zd,zw,zK,jY,ev_isN,zy,R.bind_ok,ze,zm,zI,zJ,jZ,zD,if_false,Bool.false_eq_true,decide_false,jN,show(D.int i=D.N)=False from eq_false (by nofun),h,g1,sgn];exact zM
variable [Has P af3] [Has P ag3] [HasL P ac6]
def aZ1  n (Z:m<=5) f (hs:s.all O.ncl=cn) :
  (aa0 P (n+4)).call "reading" [gdO m f] s=.ok (gd m λ i j=>sgn (f i j)) s:=by
 have Y:(aa0 P (n+4)).call "reading" [gdO m f] s=_:=zb ag3 rfl;have h:=j6 (P:=P) (n+2) (m:=m) (by omega) (d:=.clo "reading.0" [gdO m f]) (λ _ _ n=>rfl) (λ i j J hj=>by
  generalize G:s++[O.J ((ae i).map λ i=>D.tp ((ae m).map λ j=>.int (sgn (f i j))))]=S;have y:S.all O.ncl=true:=by rw[<-G];exact as5 hs (λ _ _=>rfl)
  refine(qe ac6 rfl rfl (by rw[y];simp[D.nclL,D.ncl,j2])).trans ?_;show(ev (aa0 P (n+1)) ac6.body [aT (.int i),aT (.int j),aT (gdO m f)] S).bind (zY S)=_;simp -implicitDefEqProofs only[ac6]
  simp -implicitDefEqProofs only[zd,qa,zR,zz,zE,R.bind_ok,ze,zh,bq2 J,aN9 hj,bb3 n]
  exact zM)
 rw[Y,show(aO aT [gdO m f]++ak ag3.vs bY)=[aT (gdO m f)]from rfl];simp -implicitDefEqProofs only[ag3]
 simp -implicitDefEqProofs only[za,zX,zd,ev_bi,zq,zo,zE,R.bind_ok,ze,qt,aQ6]
 rw[zU _ rfl];have e:gdD m (λ i j=>.int (sgn (f i j)))=gd m (λ i j=>sgn (f i j)):=rfl
 simp -implicitDefEqProofs only[zz,R.bind_ok,zI,zJ,h,e,gc (show((gd m λ i j=>sgn (f i j)).ncl&&s.all O.ncl)=cn by rw[ap0,hs];rfl)]
 exact zn qV (by nofun)
variable [Has P ae7] [Has P af0] [Has P aa9] [Has P ab5] [Has P aa4] [HasL P aa2] [Has P af5] [HasL P ab2] [Has P ab8] [HasL P aa6] [Has P aa8] [Has P ac5]
def an5  n (h:m.Ok) w (hw:w.length<=5000)(hs:s.all O.ncl=cn) :
  ∃ g,SgW m w g/\(aa0 P (n+6)).call "word_signs" [m.d,.str w] s=.ok (gd m.R g) s:=by
 have G:(aa0 P (n+6)).call "word_signs" [m.d,.str w] s=_:=zb ac5 rfl;obtain⟨f,y,e1⟩:=aG2 (P:=P) n h w hw hs;refine⟨_,y.sg,?_⟩;rw[G,show(aO aT [m.d,D.str w]++ak ac5.vs bY)=[aT m.d,aT (D.str w)]from rfl];simp -implicitDefEqProofs only[ac5]
 simp -implicitDefEqProofs only[za,zX,zd,zR,zz,zE,R.bind_ok,ze,zh,zI,zJ,e1,aZ1 (n+1) h.R5 f hs]
 exact zn qV (by nofun)
variable [Has P jg] [Has P jK] [Has P zQ]
end
inductive Rst where
 | let_ (c:Nat)|pair (i j:Nat)|times (i n:Nat)
noncomputable abbrev Rst.ctorIdx (x:Rst):Nat:=Rst.casesOn x (λ _=>0) (λ _ _=>1) (λ _ _=>2)
noncomputable def Rst.d:Rst->D
 | .let_ c=>.tp [.str [108,101,116,116,101,114],.str [c]]
 | .pair i j=>.tp [.str [112,97,105,114],.int i,.int j]
 | .times i n=>.tp [.str [116,105,109,101,115],.int i,.int n]
noncomputable def cx5 (k:Nat):Rst->Prop
 | .let_ c=>97<=c/\c<100
 | .pair i j=>i<k/\j<k
 | .times i n=>i<k/\1<=n/\n<=10^30
def am4 (l:List Rst):Prop:=∀ k x,l[k]?=aT x->cx5 k x
def rl0 :ixM (Rst.let_ ch).d (.int 0) s=.ok (.str bF6) s:=rfl
def rl1 :ixM (Rst.let_ ch).d (.int 1) s=.ok (.str [ch]) s:=rfl
def rp0 :ixM (Rst.pair i j).d (.int 0) s=.ok (.str at9) s:=rfl
def rp1 :ixM (Rst.pair i j).d (.int 1) s=.ok (.int i) s:=rfl
def rp2 :ixM (Rst.pair i j).d (.int 2) s=.ok (.int j) s:=rfl
def rt0 :ixM (Rst.times i n).d (.int 0) s=.ok (.str ap3) s:=rfl
def rt1 :ixM (Rst.times i n).d (.int 1) s=.ok (.int i) s:=rfl
def rt2 :ixM (Rst.times i n).d (.int 2) s=.ok (.int n) s:=rfl
def be3 [Has P ac0] n {l:List Rst}(hl:l.length<=5100)(hk:am4 l){s:Sto} d1 y G  Ww (hW:∀ k n,(Ww k).bnd n=cn)
  (Z:∀ k ch,l[k]?=aT (.let_ ch)->apV (aa0 P n) d1 [.str [ch]] (s++[.J ((ae k).map Ww)])=.ok (Ww k) (s++[.J ((ae k).map Ww)]))
  (h2:∀ k i j,l[k]?=aT (.pair i j)->apV (aa0 P n) y [Ww i,Ww j] (s++[.J ((ae k).map Ww)])=.ok (Ww k) (s++[.J ((ae k).map Ww)]))
  (h3:∀ k i m,l[k]?=aT (.times i m)->apV (aa0 P n) G [Ww i,.int (m:Nat)] (s++[.J ((ae k).map Ww)])=.ok (Ww k) (s++[.J ((ae k).map Ww)])) :
  (aa0 P (n+1)).call "folded" [.tp (l.map Rst.d),d1,y,G] s=.ok (.ref s.length) (s++[.J ((ae l.length).map Ww)]):=by
 have e0:(aa0 P (n+1)).call "folded" [.tp (l.map Rst.d),d1,y,G] s=_:=zb ac0 (n:=n) rfl;rw[e0,show(aO aT [D.tp (l.map Rst.d),d1,y,G]++ak ac0.vs bY)=[aT (D.tp (l.map Rst.d)),aT d1,aT y,aT G,bY,bY]from rfl];simp -implicitDefEqProofs only[ac0];simp -implicitDefEqProofs only[za,zl,zW,ev_lst,zq,R.bind_ok,qD,zg,zC,zx,az,zt,zm,ex_for,evI_seq,zd,ze,zh];rw[show ay0 (.tp (l.map Rst.d)) (s++[O.J []])=.ok ⟨l.map Rst.d,[]⟩ (s++[O.J []])from rfl];simp only[R.bind_ok];rw[R.bind_assoc];refine jC (λ k U t=>∃(x:Option D),U=[aT (D.tp (l.map Rst.d)),aT d1,aT y,aT G,aT (.ref s.length),x]/\t=s++[.J ((ae k).map Ww)]) ⟨bY,rfl,rfl⟩ (λ _ _ _ _ _=>rfl) ?_ ?_
 .rintro k d U t hkk ⟨x,rfl,rfl⟩
  rw[ao]at hkk;obtain⟨v,hv,hd⟩:∃ v,l[k]?=aT v/\Rst.d v=d:=by
   simp_all
  subst hd;have a0:=(ab.mp hv).1;have hok:=hk k v hv;have L1:((ae k).map Ww).length<LIM:=by unfold LIM;grind
  have g0:(s++[O.J ((ae k).map Ww)])[s.length]?=aT (.J ((ae k).map Ww)):=by simp_all
  have Y:∀ i,i<k->ixM (.ref s.length) (.int (i:Int)) (s++[O.J ((ae k).map Ww)])=.ok (Ww i) (s++[O.J ((ae k).map Ww)]):=λ i J=>qz g0 (by simp_all);refine az0 (U:=[aT (D.tp (l.map Rst.d)),aT d1,aT y,aT G,aT (.ref s.length),aT v.d]) (s:=s++[.J ((ae (k+1)).map Ww)]) ?_ ⟨_,rfl,rfl⟩;rw[cE,bO];unfold turn;cases v with
  | let_ ch =>
   have h:=Z k ch hv;simp -implicitDefEqProofs only[zg,zC,zx,az,za,zl,z5,zK,qa,zd,zw,zy,qk,ze,zh,R.bind_ok,rl0,qS,show(bF6=[108,101,116,116,101,114])=True from eq_self _,decide_true,zD,if_true,jD,qd,zB,zo,zq];rw[qf (d:=d1) _ rfl];simp -implicitDefEqProofs only[zo,zq,qa,zd,zw,zy,ze,zh,R.bind_ok,rl1,h];rw[qE L1,zB];rfl
  | pair i j =>
   obtain⟨J,hj⟩:=hok;have h:=h2 k i j hv;simp -implicitDefEqProofs only[zg,zC,zx,az,za,zl,z5,zK,qa,zd,zw,zy,qk,ze,zh,R.bind_ok,rp0,qS,show(at9=[108,101,116,116,101,114])=False by decide,show(at9=[112,97,105,114])=True from eq_self _,decide_true,decide_false,aG,zD,if_true,if_false,jD,qd,zB,zo,zq];rw[qf (d:=y) _ rfl];simp -implicitDefEqProofs only[zo,zq,qa,zd,zw,zy,ze,zh,R.bind_ok,rp1,rp2,Y i J,Y j hj,h];rw[qE L1,zB];rfl
  | times i m =>
   obtain⟨J,_⟩:=hok;have h:=h3 k i m hv;simp -implicitDefEqProofs only[zg,zC,zx,az,za,zl,z5,zK,qa,zd,zw,zy,qk,ze,zh,R.bind_ok,rt0,qS,show(ap3=[108,101,116,116,101,114])=False by decide,show(ap3=[112,97,105,114])=False by decide,decide_false,aG,zD,if_false,jD,qd,zB,zo,zq];rw[qf (d:=G) _ rfl];simp -implicitDefEqProofs only[zo,zq,qa,zd,zw,zy,ze,zh,R.bind_ok,rt1,rt2,Y i J,h];rw[qE L1,zB];rfl
 .rintro U t ⟨x,rfl,rfl⟩
  rw[ar];simp -implicitDefEqProofs only[zm,za,zl,zX,zd,ze,zh,R.bind_ok,zI,zJ];exact qA (by unfold O.bnd;exact zP (λ d hd n=>by grind) _)
noncomputable def aw0 (vs:List Nat):Rst->Nat
 | .let_ _=>1
 | .pair i j=>vs.getD i 0+vs.getD j 0
 | .times i n=>vs.getD i 0*n
def qy (l:List Rst):List Nat:=l.foldl (λ vs x=>vs++[aw0 vs x]) []
def bg9 :qy (l++[x])=qy l++[aw0 (qy l) x]:=by unfold qy;simp_all
def aL8 {l:List Rst}(h:l[k]?=aT x):qy (l.take (k+1))=qy (l.take k)++[aw0 (qy (l.take k)) x]:=by rw[ju h,bg9]
theorem jT {l:List Rst}:∀ k,k<=l.length->(qy (l.take k)).length=k
 | 0,_=>by simp[qy]
 | k+1,h=>by
  rw[aL8 (ac (show k<l.length by lia)),aN,jT k (by lia)];rfl
theorem aH4:∀(l:List Rst)  vs ,∃ t,l.foldl (λ vs x=>vs++[aw0 vs x]) vs=vs++t
 | [],vs=>⟨[],by simp⟩
 | x::l,vs=>by
  obtain⟨t,e⟩:=aH4 l (vs++[aw0 vs x])
  simp_all
def qP (hk:k<=l.length)(h:i<k):(qy (l.take k)).getD i 0=(qy l).getD i 0:=by
 obtain⟨t,e⟩:=aH4 (l.drop k) (qy (l.take k));have:qy l=qy (l.take k)++t:=by
  rw[<-e]
  conv=>lhs;rw[<-eY k l]
  unfold qy;rw[dk]
 have hl:=jT k hk
 grind
def j1 (h:l[k]?=aT x):(qy l).getD k 0=aw0 (qy (l.take k)) x:=by
 have hk:=(ab.mp h).1;rw[<-qP (by lia) (cW k),aL8 h];have hl:=jT (l:=l) k (by lia)
 simp_all
def bK1 (hl:am4 l):∀ k,k<l.length->1<=(qy l).getD k 0/\(qy l).getD k 0<=2^(101*k):=by
 intro k
 induction k using cR with
 | _ k ih =>
  intro hk;have hx:=ac hk;have hok:=hl k _ hx;rw[j1 hx];generalize l[k]=x at hok;cases x with
  | let_ c=>exact⟨ai _,Nat.one_le_two_pow⟩
  | pair i j =>
   obtain⟨y,hj⟩:=hok;show 1<=(qy (l.take k)).getD i 0+(qy (l.take k)).getD j 0/\(qy (l.take k)).getD i 0+(qy (l.take k)).getD j 0<=_;rw[qP (by lia) y,qP (by omega) hj];have J:=ih i y (by lia);have Z:=ih j hj (by lia);obtain⟨h,rfl⟩:∃ h,k=h+1:=⟨k - 1,by lia⟩
   have p1:2^(101*i)<=2^(101*h):=cz (by decide) (by lia);have p2:2^(101*j)<=2^(101*h):=cz (by decide) (by lia);lia
  | times i m =>
   obtain⟨y,Y,G⟩:=hok;show 1<=(qy (l.take k)).getD i 0*m/\(qy (l.take k)).getD i 0*m<=_;rw[qP (by omega) y];have J:=ih i y (by omega);obtain⟨h,rfl⟩:∃ h,k=h+1:=⟨k - 1,by omega⟩
   have p1:2^(101*i)<=2^(101*h):=cz (by decide) (by omega);have p3:2^(101*(h+1))=2^(101*h)*2^101:=by lia
   rw[p3];exact⟨iO (by lia) (by lia),fU (am J.2 p1) (am G (by decide))⟩
def bi8 :(ae l.length).map (λ k=>D.int (((qy l).getD k 0)))=qF (qy l):=by
 have hl:=jT l.length (ai _);rw[bP]at hl;apply eW;intro i;by_cases hi:i<l.length
 .rw[ao,aY hi];unfold qF
  simp_all
 .rw[bn (by simp_all),bn (by unfold qF;simp_all)]
def by9 (hl:am4 l)(G:l.length<=500)(hk:k<l.length):((((qy l).getD k 0):Int)).natAbs<BIG:=by
 have y:=(bK1 hl k hk).2;have h:2^(101*k)<=2^50600:=cz (by decide) (by lia);have h3:2^50600<BIG:=by unfold BIG;exact Nat.pow_lt_pow_right (by decide) (by decide)
 rw[Int.natAbs_natCast];lia
def bs3 {n:Nat}(h:n<=10^30):((n:Int)).natAbs<BIG:=cg7 (by lia) (by
 lia)
section
variable {P:Pr} [Has P ac0] [Has P ae6] [HasL P ad2] [HasL P ad3] [HasL P ad1]
def aS0  n (Z:l.length<=500)(hk:am4 l)(hs:s.all O.ncl=cn) :
  (aa0 P (n+3)).call "counted" [.tp (l.map Rst.d),.int 1] s=.ok (.ref s.length) (s++[.J (qF (qy l))]):=by
 have e0:(aa0 P (n+3)).call "counted" [.tp (l.map Rst.d),.int 1] s=_:=zb ae6 rfl;have h:=jT l.length (ai _);rw[bP]at h;have y:∀ k,(s++[O.J ((ae k).map λ k=>D.int (((qy l).getD k 0:Nat):Int))]).all O.ncl=true:=λ k=>by
  rw[da,hs];simp only[cA,fC,du];exact zN λ d hd=>by obtain⟨x,_,rfl⟩:=au.mp hd;rfl
 have hf:=be3 (P:=P) (n+1) (by lia) hk (.clo "counted.2" [.int 1]) (.clo "counted.1" []) (.clo "counted.0" []) (λ k=>.int (((qy l).getD k 0):Int)) (λ _ _=>rfl)
  (λ k ch hv=>by
   refine(qe ad1 (n:=n) rfl rfl (by rw[y k];rfl)).trans ?_;rw[j1 hv];exact zM)
  (λ k i j hv=>by
   refine(qe ad3 (n:=n) rfl rfl (by rw[y k];rfl)).trans ?_;have J:=(ab.mp hv).1;obtain⟨G,h2⟩:=hk k _ hv;have e:(((qy l).getD k 0:Nat):Int)=(((qy l).getD i 0:Nat):Int)+(((qy l).getD j 0:Nat):Int):=by
    rw[j1 hv,show aw0 (qy (l.take k)) (.pair i j)=(qy (l.take k)).getD i 0+(qy (l.take k)).getD j 0 from rfl,qP (by lia) G,qP (by omega) h2];lia
   rw[e];exact zM)
  (λ k i m hv=>by
   refine(qe ad2 (n:=n) rfl rfl (by rw[y k];rfl)).trans ?_;have J:=(ab.mp hv).1;obtain⟨G,a0,Y⟩:=hk k _ hv;have e:(((qy l).getD k 0:Nat):Int)=(((qy l).getD i 0:Nat):Int)*(m:Int):=by
    rw[j1 hv,show aw0 (qy (l.take k)) (.times i m)=(qy (l.take k)).getD i 0*m from rfl,qP (by omega) G,dH]
   rw[e];have mo:mulOk (((qy l).getD i 0:Nat):Int) (m:Int)=true:=aR5 (by9 hk Z (by lia)) (bs3 Y);show(ev (aa0 P n) (.G .mul (.X 0) (.X 1)) [aT (.int (((qy l).getD i 0:Nat):Int)),aT (.int (m:Int))] _).bind (zY _)=_;simp -implicitDefEqProofs only[qg,zd,ze,zh,R.bind_ok,ah2 mo];exact zM)
 rw[e0,show(aO aT [D.tp (l.map Rst.d),.int 1]++ak ae6.vs bY)=[aT (D.tp (l.map Rst.d)),aT (.int 1)]from rfl];simp -implicitDefEqProofs only[ae6,za,zl,zX,qt,zE,zd,ze,zh,R.bind_ok];rw[zU (cs:=[.int 1]) _ rfl,zU (cs:=[]) _ rfl,zU (cs:=[]) _ rfl];simp -implicitDefEqProofs only[zz,R.bind_ok,hf];have:=y l.length;rw[gc (by rw[this];rfl)];rw[bi8];simp -implicitDefEqProofs only[R.bind_ok,zI,zJ];exact qA (by unfold O.bnd;exact zP aC3 _)
end
def aD3  v w  s :qp .ne (.str v) (.str w) s=.ok (.T (!decide (v=w))) s:=by
 show(match eqv s DEEP (.str v) (.str w)with|some r=>R.ok (D.T (!r)) s|none=>.B)=_;have:eqv s DEEP (.str v) (.str w)=aT (v==w):=rfl;lia
def j8 :ev F (.neg (.K (.int 1))) U s=.ok (.int (-1)) s:=rfl
def jy (h:s[r]?=aT (.J l))(hd:l[l.length - 1]?=aT d):ixM (.ref r) (.int (-1)) s=.ok d s:=by
 have hl:=(ab.mp hd).1;have hx:ixn l.length (-1)=aT (l.length - 1):=by
  unfold ixn
  grind
 simp only[ixM,h,hx,gJ,hd]
section
variable {P:Pr} [Has P ac0] [Has P ae6] [HasL P ad2] [HasL P ad3] [HasL P ad1] [Has P af6]
end
noncomputable def cw3:Ss:=(.cons (.ex (.me .append (.X 3) (.cons (.tp (.cons (.K (.str [112,97,105,114])) (.cons (.X 4) (.cons (.G .sub (.X 4) (.call "_law_draw" (.ex (.X 0) (.ex (.G .add (.bi .min2 (.cons (.X 4) (.cons (.K (.int 1)) .nil))) (.K (.int 1))) .nil)))) .nil)))) .nil))) .nil)
section
variable {α:Type} (d:α) (fl:Nat->α) (fp:α->α->α) (ft:α->Nat->α)
noncomputable def foV (vs:List α):Rst->α
 | .let_ c=>fl c
 | .pair i j=>fp (vs.getD i d) (vs.getD j d)
 | .times i n=>ft (vs.getD i d) n
def foR (l:List Rst):List α:=l.foldl (λ vs x=>vs++[foV d fl fp ft vs x]) []
def aV6 {l:List Rst}(h:l[k]?=aT x):foR d fl fp ft (l.take (k+1))=foR d fl fp ft (l.take k)++[foV d fl fp ft (foR d fl fp ft (l.take k)) x]:=by
 rw[ju h];unfold foR;simp_all
theorem aP8 {l:List Rst}:∀ k,k<=l.length->(foR d fl fp ft (l.take k)).length=k
 | 0,_=>by simp[foR]
 | k+1,h=>by
  rw[aV6 d fl fp ft (ac (show k<l.length by omega)),aN,aP8 k (by omega)];rfl
theorem aV2:∀(l:List Rst)  vs ,∃ t,l.foldl (λ vs x=>vs++[foV d fl fp ft vs x]) vs=vs++t
 | [],vs=>⟨[],by simp⟩
 | x::l,vs=>by
  obtain⟨t,e⟩:=aV2 l (vs++[foV d fl fp ft vs x])
  simp_all
def aE9 (hk:k<=l.length)(h:i<k):(foR d fl fp ft (l.take k)).getD i d=(foR d fl fp ft l).getD i d:=by
 obtain⟨t,e⟩:=aV2 d fl fp ft (l.drop k) (foR d fl fp ft (l.take k));have:foR d fl fp ft l=foR d fl fp ft (l.take k)++t:=by
  rw[<-e]
  conv=>lhs;rw[<-eY k l]
  unfold foR;rw[dk]
 have hl:=aP8 d fl fp ft k hk
 grind
def bq3 (h:l[k]?=aT x):(foR d fl fp ft l).getD k d=foV d fl fp ft (foR d fl fp ft (l.take k)) x:=by
 have hk:=(ab.mp h).1;rw[<-aE9 d fl fp ft (by omega) (cW k),aV6 d fl fp ft h];have hl:=aP8 d fl fp ft (l:=l) k (by omega)
 simp_all
def cf1 (h:l[k]?=aT (.let_ c)):(foR d fl fp ft l).getD k d=fl c:=bq3 d fl fp ft h
def cf5 (h:l[k]?=aT (.pair i j))(y:i<k)(hj:j<k):(foR d fl fp ft l).getD k d=fp ((foR d fl fp ft l).getD i d) ((foR d fl fp ft l).getD j d):=by
 have hk:=(ab.mp h).1;rw[bq3 d fl fp ft h,<-aE9 d fl fp ft (by lia) y,<-aE9 d fl fp ft (by omega) hj];rfl
def cb2 (h:l[k]?=aT (.times i n))(y:i<k):(foR d fl fp ft l).getD k d=ft ((foR d fl fp ft l).getD i d) n:=by
 have hk:=(ab.mp h).1;rw[bq3 d fl fp ft h,<-aE9 d fl fp ft (by lia) y];rfl
end
def cn9 (h:l[k]?=aT (.pair i j))(y:i<k)(hj:j<k):(qy l).getD k 0=(qy l).getD i 0+(qy l).getD j 0:=by
 have hk:=(ab.mp h).1;rw[j1 h,show aw0 (qy (l.take k)) (.pair i j)=(qy (l.take k)).getD i 0+(qy (l.take k)).getD j 0 from rfl,qP (by omega) y,qP (by omega) hj]
def cd6 (h:l[k]?=aT (.times i n))(y:i<k):(qy l).getD k 0=(qy l).getD i 0*n:=by
 have hk:=(ab.mp h).1;rw[j1 h,show aw0 (qy (l.take k)) (.times i n)=(qy (l.take k)).getD i 0*n from rfl,qP (by omega) y]
def cn5 (h:l[k]?=aT (.let_ c)):(qy l).getD k 0=1:=by rw[j1 h];rfl
def wds (l:List Rst):List (List Nat):=foR [] (λ c=>[c]) (·++·) (λ w n=>rep n w) l
def wd (l:List Rst)(k:Nat):List Nat:=(wds l).getD k []
def cl5 (h:l[k]?=aT (.let_ c)):wd l k=[c]:=cf1 _ _ _ _ h
def cd4 (h:l[k]?=aT (.pair i j))(y:i<k)(hj:j<k):wd l k=wd l i++wd l j:=cf5 _ _ _ _ h y hj
def cc8 (h:l[k]?=aT (.times i n))(y:i<k):wd l k=rep n (wd l i):=cb2 _ _ _ _ h y
def ce4 (hl:am4 l):∀ k,k<l.length->(wd l k).length=(qy l).getD k 0:=by
 intro k
 induction k using cR with
 | _ k ih =>
  intro hk;have hx:=ac hk;have hok:=hl k _ hx;generalize l[k]=x at hok hx;cases x with
  | let_ c=>rw[cl5 hx,cn5 hx];rfl
  | pair i j=>rw[cd4 hx hok.1 hok.2,cn9 hx hok.1 hok.2,aN,ih i hok.1 (by have:=hok.1;lia),ih j hok.2 (by have:=hok.2;omega)]
  | times i n=>rw[cc8 hx hok.1,cd6 hx hok.1,rep_len,ih i hok.1 (by have:=hok.1;omega)]
set_option tactic.hygienic true in
def be9 [Has P ae0] n (Ww:Nat->D) y {s}(hb:∀ k n,(Ww k).bnd n=cn)(hr:∀ k r,Ww k≠.ref r)(Z:∀ a b,(aa0 P n).call y [Ww a,Ww b] s=.ok (Ww (a+b)) s)(h:Nat) :
  (aa0 P (n+1)).call "raised" [Ww 1,.int h,Ww 0,.fn y] s=.ok (Ww h) s:=by
 have e0:(aa0 P (n+1)).call "raised" [Ww 1,.int h,Ww 0,.fn y] s=_:=zb ae0 rfl;have key:∀ a b,apV (aa0 P n) (.fn y) [Ww a,Ww b] s=.ok (Ww (a+b)) s:=Z;rw[e0,show(aO aT [Ww 1,.int h,Ww 0,.fn y]++ak ae0.vs bY)=[aT (Ww 1),aT (.int h),aT (Ww 0),aT (.fn y),bY,bY,bY]from rfl];simp -implicitDefEqProofs only[ae0];simp -implicitDefEqProofs only[za,zW,zd,ze,zh,R.bind_ok,zg,zC,zx,az,zt,zm,ex_whl];rw[R.bind_assoc];refine aE4 (λ k U t=>∃(a b left:Nat),left=k/\a+b*left=h/\U=[aT (Ww 1),aT (.int h),aT (Ww 0),aT (.fn y),aT (Ww a),aT (Ww b),aT (.int left)]/\t=s) (λ U t=>∃(b:Nat) (x:Option D),U=[aT (Ww 1),aT (.int h),aT (Ww 0),aT (.fn y),aT (Ww h),aT (Ww b),x]/\t=s) h ⟨0,1,h,rfl,by lia,rfl,rfl⟩ ?_ ?_
 .rintro k U t ⟨a,b,left,rfl,hab,rfl,rfl⟩
  simp -implicitDefEqProofs only[zK,zd,zw,zy,ze,zh,R.bind_ok,gt_int,bh2];by_cases hl:(0:Int)<(left:Int)
  .simp only[hl,decide_true,if_true];have J:qZ .fdiv (.int left) (.int 2) t=.ok (.int ((left / 2:Nat):Int)) t:=by rw[jW (by decide) (by decide)];simp
   have Y:qZ .mod (.int left) (.int 2) t=.ok (.int ((left % 2:Nat):Int)) t:=by rw[jw (by decide)];simp
   obtain⟨G,ha',e1⟩:∃ G:Nat,G+b*(2*(left / 2))=h/\ex (aa0 P n) (.ite (.Z .eq (.G .mod (.X 6) (.K (.int 2))) (.K (.int 1))) (.cons (.A (.Y 4) (.callV 3 (.cons (.X 4) (.cons (.X 5) .nil)))) .nil) .nil) [aT (Ww 1),aT (.int h),aT (Ww 0),aT (.fn y),aT (Ww a),aT (Ww b),aT (.int left)] t=.ok (.next [aT (Ww 1),aT (.int h),aT (Ww 0),aT (.fn y),aT (Ww G),aT (Ww b),aT (.int left)]) t:=by
    by_cases ho:((left % 2:Nat):Int)=1
    .refine⟨a+b,?_,?_⟩
     .have:left=2*(left / 2)+1:=by lia
      grind
     .simp -implicitDefEqProofs only[z5,zK,qg,zd,zw,zy,ze,zh,R.bind_ok,Y,jZ,ho,decide_true,zD,if_true,za,zl,zW];rw[qf (d:=.fn y) _ rfl]
      simp_all
    .refine⟨a,?_,?_⟩
     .have:left=2*(left / 2):=by lia
      lia
     simp_all
   have e2:∃ b':Nat,G+b'*(left / 2)=h/\exs (aa0 P n) (.cons (.A (.Y 6) (.G .fdiv (.X 6) (.K (.int 2)))) (.cons (.ite (.Z .gt (.X 6) (.K (.int 0))) (.cons (.A (.Y 5) (.callV 3 (.cons (.X 5) (.cons (.X 5) .nil)))) .nil) .nil) .nil)) [aT (Ww 1),aT (.int h),aT (Ww 0),aT (.fn y),aT (Ww G),aT (Ww b),aT (.int left)] t=.ok (.next [aT (Ww 1),aT (.int h),aT (Ww 0),aT (.fn y),aT (Ww G),aT (Ww b'),aT (.int ((left / 2:Nat):Int))]) t:=by
    by_cases hl2:(0:Int)<((left / 2:Nat):Int)
    .refine⟨b+b,?_,?_⟩
     .lia
     .simp -implicitDefEqProofs only[za,zW,qg,zd,zw,zy,ze,zh,R.bind_ok,J,zg,zC,zx,az,zt,zm,z5,zK,gt_int,hl2,decide_true,zD,if_true,zl];rw[qf (d:=.fn y) _ rfl]
      simp_all
    .refine⟨b,?_,?_⟩
     .lia
     .simp -implicitDefEqProofs only[za,zW,qg,zd,zw,zy,ze,zh,R.bind_ok,J,zg,zC,zx,az,zt,zm,z5,zK,gt_int,hl2,decide_false,zD,if_false,aG,zl]
   obtain⟨b',a0,e2⟩:=e2;have e3:exs (aa0 P n) (.cons (.ite (.Z .eq (.G .mod (.X 6) (.K (.int 2))) (.K (.int 1))) (.cons (.A (.Y 4) (.callV 3 (.cons (.X 4) (.cons (.X 5) .nil)))) .nil) .nil) (.cons (.A (.Y 6) (.G .fdiv (.X 6) (.K (.int 2)))) (.cons (.ite (.Z .gt (.X 6) (.K (.int 0))) (.cons (.A (.Y 5) (.callV 3 (.cons (.X 5) (.cons (.X 5) .nil)))) .nil) .nil) .nil))) [aT (Ww 1),aT (.int h),aT (Ww 0),aT (.fn y),aT (Ww a),aT (Ww b),aT (.int left)] t=.ok (.next [aT (Ww 1),aT (.int h),aT (Ww 0),aT (.fn y),aT (Ww G),aT (Ww b'),aT (.int ((left / 2:Nat):Int))]) t:=by
    simp_all
   rw[e3];exact⟨left / 2,by lia,G,b',left / 2,rfl,a0,rfl,rfl⟩
  grind
 .rintro U t ⟨b,x,rfl,rfl⟩
  simp -implicitDefEqProofs only[zm,za,zl,zX,zd,ze,zh,R.bind_ok,zI,zJ];exact zn (hb h) (hr h)
theorem aG4  w  b :∀ a,rep (a+b) w=rep a w++rep b w
 | 0=>by rw[bB];rfl
 | a+1=>by rw[Nat.succ_add];show w++rep (a+b) w=(w++rep a w)++rep b w;rw[aG4 w b a,cb]
def bU1  w :rep 1 w=w:=bu w
def tbO (m:Mc):List Nat->Nat->Nat->Option Int
 | []=>λ i j=>if i=j then aT 0 else bY
 | c::w=>prO m.R (ltF m.ds c) (tbO m w)
theorem aU0 (h:m.Ok):∀ w,ar0 m w (tbO m w)
 | []=>ar0.nil
 | c::w=>ar0.mul h (ar0.letter c) (aU0 h w)
def tbD (m:Mc)(w:List Nat):D:=gdO m.R (tbO m w)
def j3  n :(tbD m w).bnd n=true:=au3 n
def bL0 :(tbD m w).ncl=true:=j2
def bF9 (y:m.Ok)(h:ar0 m w f):gdO m.R f=tbD m w:=h.eq (aU0 y w)
def br5 (h:m.Ok) v w :gdO m.R (prO m.R (tbO m v) (tbO m w))=tbD m (v++w):=bF9 h ((aU0 h v).mul h (aU0 h w))
section
variable {P:Pr} [Has P af3] [Has P ae7] [Has P af0] [Has P af5] [HasL P ab2] [Has P ab8] [HasL P aa6] [Has P ae0] [Has P ah5] [HasC P "product" (.fn "product")]
def bt7  n (G:m.Ok) w (y:Nat)(hs:s.all O.ncl=cn) :
  (aa0 P (n+6)).call "power" [tbD m w,.int y] s=.ok (tbD m (rep y w)) s:=by
 have Y:(aa0 P (n+6)).call "power" [tbD m w,.int y] s=_:=zb ah5 rfl;have e1:=be9 (n+4) (λ a=>tbD m (rep a w)) "product" (λ _ n=>j3 n) (λ _ _ h=>by cases h) (λ a b=>by
  rw[tbD,tbD,jB (P:=P) n G.R5 _ _ hs,br5 G,<-aG4]) y
 rw[bU1 w]at e1;have e2:=aW5 (P:=P) (n+2) G.R5 hs;have g1:=λ U s=>qT (P:=P) (n:=n+5) (x := "product") (d:=.fn "product") U s;have J:bi .len [tbD m w] s=.ok (.int m.R) s:=aQ6;rw[Y,show(aO aT [tbD m w,D.int y]++ak ah5.vs bY)=[aT (tbD m w),aT (.int y)]from rfl,show ah5.body=(.cons (.ret (.call "raised" (.ex (.X 0) (.ex (.X 1) (.ex (.call "plain" (.ex (.bi .len (.cons (.X 0) .nil)) .nil)) (.ex (.gl "product") .nil)))))) .nil)from rfl]
 simp -implicitDefEqProofs only[za,zX,zd,zR,ev_bi,zq,zo,zz,zE,R.bind_ok,ze,zh,J,e2,g1]
 rw[show(gdO m.R λ i j=>if i=j then aT 0 else bY)=tbD m (rep 0 w)from rfl,e1]
 simp -implicitDefEqProofs only[R.bind_ok,zI,zJ]
 exact zn j3 (by nofun)
end
noncomputable def RsB (k:Nat):Rst->Prop
 | .let_ _=>True
 | .pair i j=>i<k/\j<k
 | .times i _=>i<k
def bw3 (l:List Rst):Prop:=∀ k x,l[k]?=aT x->RsB k x
def am4.b (h:am4 l):bw3 l:=λ k x e=>by
 have:=h k x e;cases x
 .trivial
 .exact this
 .exact this.1
def ao1 [Has P ac0] n {l:List Rst}(hl:l.length<=5100)(hk:bw3 l){s:Sto}{d0:D}{src:List Nat}(hsr:∀ r∈src,r<s.length)(a0:∀ t,ay0 d0 (s++t)=.ok ⟨l.map Rst.d,src⟩ (s++t))(d1 G J:D)(Ww:Nat->D)(hW:∀ k n,(Ww k).bnd n=cn)
  (h1:∀ k ch,l[k]?=aT (.let_ ch)->apV (aa0 P n) d1 [.str [ch]] (s++[.J ((ae k).map Ww)])=.ok (Ww k) (s++[.J ((ae k).map Ww)]))
  (h2:∀ k i j,l[k]?=aT (.pair i j)->apV (aa0 P n) G [Ww i,Ww j] (s++[.J ((ae k).map Ww)])=.ok (Ww k) (s++[.J ((ae k).map Ww)]))
  (h3:∀ k i m,l[k]?=aT (.times i m)->apV (aa0 P n) J [Ww i,.int (m:Nat)] (s++[.J ((ae k).map Ww)])=.ok (Ww k) (s++[.J ((ae k).map Ww)])) :
  (aa0 P (n+1)).call "folded" [d0,d1,G,J] s=.ok (.ref s.length) (s++[.J ((ae l.length).map Ww)]):=by
 have e0:(aa0 P (n+1)).call "folded" [d0,d1,G,J] s=_:=zb ac0 (n:=n) rfl;rw[e0,show(aO aT [d0,d1,G,J]++ak ac0.vs bY)=[aT d0,aT d1,aT G,aT J,bY,bY]from rfl];simp -implicitDefEqProofs only[ac0];simp -implicitDefEqProofs only[za,zl,zW,ev_lst,zq,R.bind_ok,qD,zg,zC,zx,az,zt,zm,ex_for,evI_seq,zd,ze,zh];rw[a0];simp only[R.bind_ok];rw[R.bind_assoc];refine jC (λ k U t=>∃(x:Option D),U=[aT d0,aT d1,aT G,aT J,aT (.ref s.length),x]/\t=s++[.J ((ae k).map Ww)]) ⟨bY,rfl,rfl⟩ (λ _ _ _ _ h=>?_) ?_ ?_
 .obtain⟨_,_,rfl⟩:=h;unfold chk
  grind
 .rintro k d U t hkk ⟨x,rfl,rfl⟩
  rw[ao]at hkk;obtain⟨v,hv,hd⟩:∃ v,l[k]?=aT v/\Rst.d v=d:=by
   simp_all
  subst hd;have a1:=(ab.mp hv).1;have hok:=hk k v hv;have L1:((ae k).map Ww).length<LIM:=by unfold LIM;grind
  have g0:(s++[O.J ((ae k).map Ww)])[s.length]?=aT (.J ((ae k).map Ww)):=by simp_all
  have Z:∀ i,i<k->ixM (.ref s.length) (.int (i:Int)) (s++[O.J ((ae k).map Ww)])=.ok (Ww i) (s++[O.J ((ae k).map Ww)]):=λ i Y=>qz g0 (by simp_all);refine az0 (U:=[aT d0,aT d1,aT G,aT J,aT (.ref s.length),aT v.d]) (s:=s++[.J ((ae (k+1)).map Ww)]) ?_ ⟨_,rfl,rfl⟩;rw[cE,bO];unfold turn;cases v with
  | let_ ch =>
   have y:=h1 k ch hv;simp -implicitDefEqProofs only[zg,zC,zx,az,za,zl,z5,zK,qa,zd,zw,zy,qk,ze,zh,R.bind_ok,rl0,qS,show(bF6=[108,101,116,116,101,114])=True from eq_self _,decide_true,zD,if_true,jD,qd,zB,zo,zq];rw[qf (d:=d1) _ rfl];simp -implicitDefEqProofs only[zo,zq,qa,zd,zw,zy,ze,zh,R.bind_ok,rl1,y];rw[qE L1,zB];rfl
  | pair i j =>
   obtain⟨Y,hj⟩:=hok;have y:=h2 k i j hv;simp -implicitDefEqProofs only[zg,zC,zx,az,za,zl,z5,zK,qa,zd,zw,zy,qk,ze,zh,R.bind_ok,rp0,qS,show(at9=[108,101,116,116,101,114])=False by decide,show(at9=[112,97,105,114])=True from eq_self _,decide_true,decide_false,aG,zD,if_true,if_false,jD,qd,zB,zo,zq];rw[qf (d:=G) _ rfl];simp -implicitDefEqProofs only[zo,zq,qa,zd,zw,zy,ze,zh,R.bind_ok,rp1,rp2,Z i Y,Z j hj,y];rw[qE L1,zB];rfl
  | times i m =>
   have Y:=hok;have y:=h3 k i m hv;simp -implicitDefEqProofs only[zg,zC,zx,az,za,zl,z5,zK,qa,zd,zw,zy,qk,ze,zh,R.bind_ok,rt0,qS,show(ap3=[108,101,116,116,101,114])=False by decide,show(ap3=[112,97,105,114])=False by decide,decide_false,aG,zD,if_false,jD,qd,zB,zo,zq];rw[qf (d:=J) _ rfl];simp -implicitDefEqProofs only[zo,zq,qa,zd,zw,zy,ze,zh,R.bind_ok,rt1,rt2,Z i Y,y];rw[qE L1,zB];rfl
 .rintro U t ⟨x,rfl,rfl⟩
  rw[ar];simp -implicitDefEqProofs only[zm,za,zl,zX,zd,ze,zh,R.bind_ok,zI,zJ];exact qA (by unfold O.bnd;exact zP (λ d hd n=>by grind) _)
theorem bg5 :∀(l:List Stp)  vs ,∃ t,l.foldl (λ vs x=>vs++[aq8 a c vs x]) vs=vs++t
 | [],vs=>⟨[],by simp⟩
 | x::l,vs=>by
  obtain⟨t,e⟩:=bg5 l (vs++[aq8 a c vs x]);exact⟨aq8 a c vs x::t,by rw[cq,e];simp⟩
def ao9 (hk:k<=l.length)(h:i<k):(vl a c (l.take k)).getD i 0=(vl a c l).getD i 0:=by
 obtain⟨t,e⟩:=bg5 (l.drop k) (vl a c (l.take k));have:vl a c l=vl a c (l.take k)++t:=by
  rw[<-e]
  conv=>lhs;rw[<-eY k l]
  unfold vl;rw[dk]
 have hl:=aq1 (a:=a) (c:=c) k hk
 grind
def bm9 (h:l[k]?=aT x):(vl a c l).getD k 0=aq8 a c (vl a c (l.take k)) x:=by
 have hk:=(ab.mp h).1;rw[<-ao9 (by lia) (cW k),aQ2 h];have hl:=aq1 (a:=a) (c:=c) (l:=l) k (by lia);rw[ay,ag (by omega),hl,dj];rfl
def bT3 :(ae l.length).map (λ k=>D.int ((vl a c l).getD k 0))=av3 (vl a c l):=by
 have hl:=aq1 (a:=a) (c:=c) l.length (ai _);rw[bP]at hl;apply eW;intro i;by_cases hi:i<l.length
 .rw[ao,aY hi];unfold av3
  simp_all
 .rw[bn (by simp_all),bn (by unfold av3;simp_all)]
def aA1 [Has P ac0][Has P ae6][HasL P ad2][HasL P ad3][HasL P ad1] n {l}{c:Int}(hl:l.length<=5100)(hk:ak6 l){s:Sto}{p:Nat}(hp:s[p]?=aT (.J (l.map (Stp.t c))))(hs:s.all O.ncl=cn)
  {a:Int} (ha:0<=a) (Z:a<=3) (hc:0<=c) (y:c<=2^103) :
  (aa0 P (n+3)).call "counted" [.ref p,.int a] s=.ok (.ref s.length) (s++[.J (av3 (vl a c l))]):=by
 have e0:(aa0 P (n+3)).call "counted" [.ref p,.int a] s=_:=zb ae6 (n:=n+2) rfl;have hB:=cm2 ha Z hc y hk l.length (ai _);rw[bP]at hB;have h:=aq1 (a:=a) (c:=c) (l:=l) l.length (ai _);rw[bP]at h;have G:∀ k,(s++[O.J ((ae k).map λ k=>D.int ((vl a c l).getD k 0))]).all O.ncl=true:=λ k=>by
  rw[da,hs];simp only[cA,fC,O.ncl,dM,du];exact zN λ d hd=>by obtain⟨x,_,rfl⟩:=au.mp hd;rfl
 have hf:=bt1 (P:=P) (n+1) (c:=c) hl hk hp (.clo "counted.2" [.int a]) (.clo "counted.1" []) (.clo "counted.0" []) (λ k=>.int ((vl a c l).getD k 0)) (λ _ _=>rfl)
  (λ k ch hv=>by
   refine(qe ad1 (n:=n) rfl rfl (by rw[G k];rfl)).trans ?_;rw[bm9 hv];exact zM)
  (λ k i j hv=>by
   refine(qe ad3 (n:=n) rfl rfl (by rw[G k];rfl)).trans ?_;have Y:=(ab.mp hv).1;obtain⟨J,h2,_⟩:=hk k _ hv;rw[bm9 hv,show aq8 a c (vl a c (l.take k)) (.pair i j)=(vl a c (l.take k)).getD i 0+(vl a c (l.take k)).getD j 0 from rfl,ao9 (by lia) J,ao9 (by omega) h2];exact zM)
  (λ k i hv=>by
   refine(qe ad2 (n:=n) rfl rfl (by rw[G k];rfl)).trans ?_;have Y:=(ab.mp hv).1;obtain⟨J,_⟩:=hk k _ hv;rw[bm9 hv,show aq8 a c (vl a c (l.take k)) (.sharp i)=(vl a c (l.take k)).getD i 0*c from rfl,ao9 (by lia) J];have hb:=hB i ((vl a c l).getD i 0) (by rw[ay,ac (by lia)];rfl);have mo:mulOk ((vl a c l).getD i 0) c=true:=aR5 (bs9 hb.1 (bp hb.2.2.1 (by lia))) (cg7 hc y);show(ev (aa0 P n) (.G .mul (.X 0) (.X 1)) [aT (.int ((vl a c l).getD i 0)),aT (.int c)] _).bind (zY _)=_;simp -implicitDefEqProofs only[qg,zd,ze,zh,R.bind_ok,ah2 mo];exact zM)
 rw[e0,show(aO aT [D.ref p,.int a]++ak ae6.vs bY)=[aT (D.ref p),aT (.int a)]from rfl];simp -implicitDefEqProofs only[ae6,za,zl,zX,qt,zE,zd,ze,zh,R.bind_ok];rw[zU (cs:=[.int a]) _ rfl,zU (cs:=[]) _ rfl,zU (cs:=[]) _ rfl];simp -implicitDefEqProofs only[zz,R.bind_ok,hf];have:=G l.length;rw[gc (by rw[this];rfl)];rw[bT3];simp -implicitDefEqProofs only[R.bind_ok,zI,zJ];exact qA (by unfold O.bnd;exact zP aD2 _)
section
variable {P:Pr} [Has P ac0] [Has P ae6] [HasL P ad2] [HasL P ad3] [HasL P ad1] [Has P af4]
def aZ2 [Has P ah7][HasC P "LETTER_WEIGHT" (.int 3)] n {l}(hl:l.length<=5100)(hk:ak6 l){s:Sto}(hs:s.all O.ncl=cn)(m:Mc) :
  (aa0 P (n+4)).call "weights" [m.d,.tp (l.map Stp.d)] s=.ok (.ref s.length) (s++[.J (av3 (vl 3 2 l))]):=by
 have G:(aa0 P (n+4)).call "weights" [m.d,.tp (l.map Stp.d)] s=_:=zb ah7 (n:=n+3) rfl;have y:(aa0 P (n+3)).con "LETTER_WEIGHT"=aT (.int 3):=aD8;have eg:∀(U:Env) (s:Sto),ev (aa0 P (n+3)) (.gl "LETTER_WEIGHT") U s=.ok (.int 3) s:=λ U s=>by
  show(match(aa0 P (n+3)).con "LETTER_WEIGHT" with|some d=>R.ok d s|none=>.B)=_;rw[y]
 have h:=aA1 (P:=P) n (c:=2) hl hk (s:=s++[.J (l.map (Stp.t 2))]) (p:=s.length) (by rw[ag (ai _)];simp) (z0 hs aS4) (a:=3) (by decide) (by decide) (by decide) (by decide);rw[G,show(aO aT [m.d,D.tp (l.map Stp.d)]++ak ah7.vs bY)=[aT m.d,aT (D.tp (l.map Stp.d))]from rfl];simp -implicitDefEqProofs only[ah7,za,zl,zX,zR,zE,zz,zd,zw,zy,ze,zh,R.bind_ok,xa (n+2) hl,eg,h,zI,zJ,aN,aQ,c9,bB,cb,cU,dF];exact aI6 (by unfold O.bnd;exact zP aD2 _)
def bd8 [Has P aa9][Has P ae4][Has P ah6] n {l:List Stp}(hl:l.length<=5100)(hk:ak6 l){s:Sto}(hs:s.all O.ncl=cn){m:Mc}(Y:m.Ok){q:Int}(hq:0<=q)(G:q<=10^30) :
  (aa0 P (n+4)).call "lengths" [m.d,.tp (l.map Stp.d),.int q] s=.ok (.ref s.length) (s++[.J (av3 (vl 1 ((q+1)*m.R) l))]):=by
 have Z:(aa0 P (n+4)).call "lengths" [m.d,.tp (l.map Stp.d),.int q] s=_:=zb ah6 (n:=n+3) rfl;have hR:=Y.R5;have hc:0<=(q+1)*(m.R:Int):=iM (by lia) (by lia);have h:(q+1)*(m.R:Int)<=2^103:=bp (iL (show q+1<=10^30+1 by lia) (show(m.R:Int)<=5 by lia) (by omega) (by decide)) (by decide);have e1:(aa0 P (n+3)).call "unrolled" [m.d,.tp (l.map Stp.d),.int q] s=.ok (.ref s.length) (s++[.J (l.map (Stp.t ((q+1)*m.R)))]):=by
  have e2:(aa0 P (n+3)).call "unrolled" [m.d,.tp (l.map Stp.d),.int q] s=_:=zb ae4 (n:=n+2) rfl;have y:mulOk (q+1) (m.R:Int)=true:=an7 (by omega);rw[e2,show(aO aT [m.d,D.tp (l.map Stp.d),D.int q]++ak ae4.vs bY)=[aT m.d,aT (D.tp (l.map Stp.d)),aT (.int q)]from rfl];simp -implicitDefEqProofs only[ae4,za,zl,zX,zR,zE,zz,zd,qg,zw,zy,ze,zh,R.bind_ok,add_int,jd (n+1),ah2 y,xa (n+1) hl,zI,zJ];exact qA bs2
 have J:=aA1 (P:=P) n (c:=(q+1)*m.R) hl hk (s:=s++[.J (l.map (Stp.t ((q+1)*m.R)))]) (p:=s.length) (by rw[ag (ai _)];simp) (z0 hs aS4) (a:=1) (by decide) (by decide) hc h;rw[Z,show(aO aT [m.d,D.tp (l.map Stp.d),D.int q]++ak ah6.vs bY)=[aT m.d,aT (D.tp (l.map Stp.d)),aT (.int q)]from rfl];simp -implicitDefEqProofs only[ah6,za,zl,zX,zR,zE,zz,zd,zw,zy,ze,zh,R.bind_ok,e1,J,zI,zJ,aN,aQ,c9,bB,cb,cU,dF];exact aI6 (by unfold O.bnd;exact zP aD2 _)
end
section
variable {P:Pr} [Has P af3] [Has P ae7] [Has P af0] [Has P aa9] [Has P ab5] [Has P aa4] [HasL P aa2] [Has P af5] [HasL P ab2] [Has P ab8] [HasL P aa6] [Has P ae0] [Has P ah5] [HasC P "product" (.fn "product")] [HasC P "power" (.fn "power")] [Has P ac0] [Has P ad4] [HasL P ab9]
def aE6 {α:Type}(h:1<=n)(Ww:Nat->α):((ae n).map Ww)[((ae n).map Ww).length - 1]?=aT (Ww (n - 1)):=by
 rw[ar,cc,ao,aY (by omega)];rfl
def aw9 {s:Sto}(hs:s.all O.ncl=cn)(h:∀ k,(Ww k).ncl=cn) k :(s++[O.J ((ae k).map Ww)]).all O.ncl=true :=
 z0 hs (zN λ d hd=>by obtain⟨x,_,rfl⟩:=au.mp hd;exact h x)
def am0  n (y:m.Ok)(hl:l.length<=5100)(Y:1<=l.length)(hk:bw3 l)(hs:s.all O.ncl=cn)(hsr:∀ r∈src,r<s.length)(G:∀ t,ay0 d0 (s++t)=.ok ⟨l.map Rst.d,src⟩ (s++t)) :
  (aa0 P (n+8)).call "last_table" [m.d,d0] s=.ok (tbD m (wd l (l.length - 1))) s:=by
 have e0:(aa0 P (n+8)).call "last_table" [m.d,d0] s=_:=zb ad4 rfl;have h:=aw9 hs (Ww:=λ k=>tbD m (wd l k)) (λ k=>bL0);have Z:=ao1 (P:=P) (n+6) hl hk hsr G (.clo "last_table.0" [m.d]) (.fn "product") (.fn "power") (λ k=>tbD m (wd l k)) (λ _ n=>j3 n)
  (λ k ch hv=>by
   refine(qe ab9 rfl rfl (by rw[h k];unfold D.nclL;rw[bp0];rfl)).trans ?_;have e1:=jG (P:=P) (n+1) y ch (h k);rw[bF9 y (ar0.letter ch)]at e1;rw[cl5 hv];show(ev (aa0 P (n+5)) (.call "letter_table" (.ex (.X 1) (.ex (.X 0) .nil))) [aT (.str [ch]),aT m.d] _).bind (zY _)=_
   simp -implicitDefEqProofs only[zd,zR,zz,zE,R.bind_ok,ze,zh,e1]
   exact zn j3 (by nofun))
  (λ k i j hv=>by
   obtain⟨J,hj⟩:=hk k _ hv;rw[cd4 hv J hj,<-br5 y];exact jB (n+2) y.R5 _ _ (h k))
  (λ k i q hv=>by
   have J:=hk k _ hv;rw[cc8 hv J];exact bt7 n y _ q (h k))
 have g1:=λ U s=>qT (P:=P) (n:=n+7) (x := "product") (d:=.fn "product") U s;have g2:=λ U s=>qT (P:=P) (n:=n+7) (x := "power") (d:=.fn "power") U s;have il:=jy (bv3 (s:=s)) (aE6 Y λ k=>tbD m (wd l k));rw[e0,show(aO aT [m.d,d0]++ak ad4.vs bY)=[aT m.d,aT d0]from rfl,show ad4.body=(.cons (.ret (.ix (.callC "folded" (.ex (.X 1) (.lam "last_table.0" [0] (.ex (.gl "product") (.ex (.gl "power") .nil))))) (.neg (.K (.int 1))))) .nil)from rfl];simp -implicitDefEqProofs only[za,zX,qa,qt,zE,zd,ze,zh,R.bind_ok];rw[zU (cs:=[m.d]) _ rfl];simp -implicitDefEqProofs only[zE,zz,g1,g2,R.bind_ok,Z];rw[gc (by rw[h l.length];rfl)];simp -implicitDefEqProofs only[R.bind_ok,j8,il,zI,zJ];exact zT j3 (by nofun)
def aR9 {l:List Rst}:∀ t,ay0 (.tp (l.map Rst.d)) (s++t)=.ok ⟨l.map Rst.d,[]⟩ (s++t):=λ _=>rfl
def aG3 [Has P af1] n {m}(G:m.Ok){l}(hl:l.length<=5100)(y:1<=l.length)(hk:bw3 l){s}(hs:s.all O.ncl=cn) :
  (aa0 P (n+9)).call "long_table" [m.d,.tp (l.map Rst.d)] s=.ok (tbD m (wd l (l.length - 1))) s:=by
 have J:(aa0 P (n+9)).call "long_table" [m.d,.tp (l.map Rst.d)] s=_:=zb af1 rfl;have e1:=am0 (P:=P) n G hl y hk hs (λ _ h=>by cases h) (aR9 );rw[J,show(aO aT [m.d,D.tp (l.map Rst.d)]++ak af1.vs bY)=[aT m.d,aT (.tp (l.map Rst.d))]from rfl,show af1.body=(.cons (.ret (.call "last_table" (.ex (.X 0) (.ex (.X 1) .nil)))) .nil)from rfl]
 simp -implicitDefEqProofs only[za,zX,zd,zR,zz,zE,R.bind_ok,ze,zh,zI,zJ,e1]
 exact zn j3 (by nofun)
end
noncomputable def Stp.r (c:Nat):Stp->Rst
 | .let_ x=>.let_ x
 | .pair i j=>.pair i j
 | .sharp i=>.times i c
def Stp.t_r (c:Nat)(l:List Stp):l.map (Stp.t (c))=(l.map (Stp.r c)).map Rst.d:=by
 rw[dC];exact b9 λ x _=>by cases x<;>rfl
def ak6.b (h:ak6 l) c :bw3 (l.map (Stp.r c)):=λ k x e=>by
 rw[ao,bL]at e;obtain⟨y,hy,rfl⟩:=e;have:=h k y hy;cases y with
 | let_ x=>trivial
 | pair i j=>exact⟨this.1,this.2.1⟩
 | sharp i=>exact this.1
section
variable {P:Pr} [Has P af4] [Has P aa9] [Has P ae4]
def au2  n {l:List Stp}(hl:l.length<=5100){m:Mc}(y:m.Ok)(q:Nat) s  :
  (aa0 P (n+2)).call "unrolled" [m.d,.tp (l.map Stp.d),.int (q:Int)] s=.ok (.ref s.length) (s++[.J ((l.map (Stp.r ((q+1)*m.R))).map Rst.d)]):=by
 have G:=y.R5;have e2:(aa0 P (n+2)).call "unrolled" [m.d,.tp (l.map Stp.d),.int (q:Int)] s=_:=zb ae4 (n:=n+1) rfl;have h:mulOk ((q:Int)+1) (m.R:Int)=true:=an7 (by omega);have e:((q:Int)+1)*(m.R:Int)=(((q+1)*m.R:Nat):Int):=by rw[dH];rfl
 rw[e2,show(aO aT [m.d,D.tp (l.map Stp.d),D.int (q:Int)]++ak ae4.vs bY)=[aT m.d,aT (D.tp (l.map Stp.d)),aT (.int (q:Int))]from rfl];simp -implicitDefEqProofs only[ae4,za,zl,zX,zR,zE,zz,zd,qg,zw,zy,ze,zh,R.bind_ok,add_int,jd n,ah2 h,xa n hl,zI,zJ];rw[e,<-Stp.t_r];exact qA bs2
def bg4 {L}{s:Sto}:∀ t,ay0 (.ref s.length) (s++[.J L]++t)=.ok ⟨L,[s.length]⟩ (s++[.J L]++t):=λ t=>by
 simp only[ay0,show(s++[O.J L]++t)[s.length]?=aT (.J L)from jJ bv3]
variable [Has P af3] [Has P ae7] [Has P af0] [Has P ab5] [Has P aa4] [HasL P aa2] [Has P af5] [HasL P ab2] [Has P ab8] [HasL P aa6] [Has P ae0] [Has P ah5] [HasC P "product" (.fn "product")] [HasC P "power" (.fn "power")] [Has P ac0] [Has P ad4] [HasL P ab9] [Has P ac8]
def ao2  n (hl:l.length<=5100)(y:1<=l.length)(hk:ak6 l)(h:m.Ok)(q:Nat)(hs:s.all O.ncl=cn) :
  (aa0 P (n+9)).call "table_unrolled" [m.d,.tp (l.map Stp.d),.int (q)] s=.ok (tbD m (wd (l.map (Stp.r ((q+1)*m.R))) (l.length - 1))) s:=by
 have J:(aa0 P (n+9)).call "table_unrolled" [m.d,.tp (l.map Stp.d),.int (q)] s=_:=zb ac8 rfl;have e1:=au2 (P:=P) (n+6) hl h q s;have G:(s++[O.J ((l.map (Stp.r ((q+1)*m.R))).map Rst.d)]).all O.ncl=true:=by rw[<-Stp.t_r];exact z0 hs aS4
 have e2:=am0 (P:=P) n h (by simp_all) (by simp_all) (hk.b _) G (by simp) (bg4 );rw[ar]at e2;rw[J,show(aO aT [m.d,D.tp (l.map Stp.d),D.int (q)]++ak ac8.vs bY)=[aT m.d,aT (D.tp (l.map Stp.d)),aT (.int (q))]from rfl,show ac8.body=(.cons (.ret (.call "last_table" (.ex (.X 0) (.ex (.call "unrolled" (.ex (.X 0) (.ex (.X 1) (.ex (.X 2) .nil)))) .nil)))) .nil)from rfl]
 simp -implicitDefEqProofs only[za,zX,zd,zR,zz,zE,R.bind_ok,ze,zh,zI,zJ,e1,e2]
 exact zT j3 (by nofun)
end
noncomputable def bg (w:List Nat):List Nat:=w.take 2001
def cr5  w :bg (bg w)=bg w:=by unfold bg;rw[iP];rfl
def bY1  v w :bg (bg v++bg w)=bg (v++w):=by
 unfold bg;rw[la,la,iP,iP,br]
 grind
def bZ3 (h:1<=w.length)(G:1<=y):bg (rep (min y (2000 / (bg w).length+1)) (bg w))=bg (rep y w):=by
 by_cases hw:w.length<=2000
 .have e:bg w=w:=cB (by lia);rw[e];by_cases hm:y<=2000 / w.length+1
  .lia
  .rw[gK (by lia)];obtain⟨t,rfl⟩:∃ t,y=(2000 / w.length+1)+t:=⟨y - (2000 / w.length+1),by omega⟩
   rw[aG4 w t (2000 / w.length+1)];unfold bg;rw[cN];rw[rep_len,eK,Nat.mul_one];have:=lr 2000 w.length;have:=hU 2000 (show w.length > 0 by lia);lia
 .have e:(bg w).length=2001:=by unfold bg;grind
  rw[e,show 2000 / 2001+1=1 from rfl,gK G,bU1,cr5];obtain⟨t,rfl⟩:∃ t,y=1+t:=⟨y - 1,by lia⟩
  rw[aG4,bU1];unfold bg
  grind
section
variable {P:Pr} [HasC P "MOST_WRITTEN" (.int 2000)] [Has P ai6] [Has P ae2]
def aT4  n  w  s :(aa0 P (n+1)).call "begun" [.str w] s=.ok (.str (bg w)) s:=by
 have G:(aa0 P (n+1)).call "begun" [.str w] s=_:=zb ai6 rfl;have g1:=λ U s=>qT (P:=P) (n:=n) (x := "MOST_WRITTEN") (d:=.int 2000) U s;have y:∀ s,slM (.str w) bY (aT ((2000)+1)) s=.ok (.str (bg w)) s:=λ s=>by
  show R.ok (D.str (aN2 w bY (aT ((2000)+1)))) s=_
  congr 2
  unfold aN2 loB hiB sbd;dsimp only;rw[gc (by decide),mw,fT];unfold bg
  simp_all
 rw[G,show(aO aT [D.str w]++ak ai6.vs bY)=[aT (.str w)]from rfl,show ai6.body=(.cons (.ret (.slU (.X 0) (.G .add (.gl "MOST_WRITTEN") (.K (.int 1))))) .nil)from rfl]
 simp_all
def ay4  n (h:1<=w.length){y:Nat}(Z:1<=y) s :(aa0 P (n+2)).call "begun_times" [.str (bg w),.int (y)] s=.ok (.str (bg (rep y w))) s:=by
 have e0:(aa0 P (n+2)).call "begun_times" [.str (bg w),.int (y)] s=_:=zb ae2 rfl;have g1:=λ U s=>qT (P:=P) (n:=n+1) (x := "MOST_WRITTEN") (d:=.int 2000) U s;have a0:1<=(bg w).length:=by unfold bg;grind
 have Y:(bg w).length<=2001:=by unfold bg;grind
 have hd:qZ .fdiv (.int 2000) (.int ((bg w).length)) s=.ok (.int ((2000 / (bg w).length:Nat))) s:=by
  rw[jW (by lia) (kG (show((bg w).length:Int)<=2001 by lia) (by decide))];rfl
 have G:(if(2000 / (bg w).length:Nat)+1<(y:Int)then((2000 / (bg w).length:Nat):Int)+1 else(y))=((min y (2000 / (bg w).length+1))):=by
  lia
 have hq:2000 / (bg w).length<=2000:=Nat.div_le_self _ _;have J:∀ s,qZ .mul (.str (bg w)) (.int ((min y (2000 / (bg w).length+1):Nat))) s=.ok (.str (rep (min y (2000 / (bg w).length+1)) (bg w))) s:=λ s=>by
  have hx:(bg w).length*min y (2000 / (bg w).length+1)<=10000:=by
   refine am (i9 _ (gB _ _)) ?_;rw[eK,Nat.mul_one];have:=Nat.mul_div_le 2000 (bg w).length;lia
  have hM:min y (2000 / (bg w).length+1)<=2001:=am (gB _ _) (Nat.succ_le_succ hq);generalize min y (2000 / (bg w).length+1)=M at hx hM ⊢;rw[bQ5 ⟨by lia,by lia,by rw[cO];unfold LIM;lia⟩,cO]
 have e1:=aT4 (P:=P) n (rep (min y (2000 / (bg w).length+1)) (bg w)) s;rw[bZ3 h Z]at e1;rw[e0,show(aO aT [D.str (bg w),D.int (y)]++ak ae2.vs bY)=[aT (.str (bg w)),aT (.int (y)),bY]from rfl,show ae2.body=(.cons (.A (.Y 2) (.G .add (.G .fdiv (.gl "MOST_WRITTEN") (.bi .len (.cons (.X 0) .nil))) (.K (.int 1)))) (.cons (.ret (.call "begun" (.ex (.G .mul (.X 0) (.bi .min2 (.cons (.X 1) (.cons (.X 2) .nil)))) .nil))) .nil))from rfl]
 simp_all
def bX3 (l:List Rst):Prop:=∀(k i n:Nat),l[k]?=aT (Rst.times i n)->1<=n
def cs8 (hk:bw3 l)(hn:bX3 l):∀ k,k<l.length->1<=(wd l k).length:=by
 intro k
 induction k using cR with
 | _ k ih =>
  intro h;cases e:l[k]? with
  | none=>simp_all
  | some x =>
   have hb:=hk k x e;cases x with
   | let_ c=>rw[cl5 e];simp
   | pair i j=>rw[cd4 e hb.1 hb.2,aN];have:=ih i hb.1 (di hb.1 h);lia
   | times i n =>
    have G:=hn k i n e;have y:=ih i hb (di hb h);rw[cc8 e hb,rep_len];exact am y (gM _ G)
variable [HasC P "begun_times" (.fn "begun_times")] [Has P ac0] [Has P ag8] [HasL P af7] [HasL P af8]
set_option tactic.hygienic true in
def bD6  n (hl:l.length<=5100)(Y:1<=l.length)(hk:bw3 l)(hn:bX3 l)(hs:s.all O.ncl=cn)(hsr:∀ r∈src,r<s.length)(y:∀ t,ay0 d0 (s++t)=.ok ⟨l.map Rst.d,src⟩ (s++t)) :
  ex (aa0 P (n+3)) (.A (.Y 1) (.ix (.callC "folded" (.ex (.X 0) (.lam "last_word.1" [] (.lam "last_word.0" [] (.ex (.gl "begun_times") .nil))))) (.neg (.K (.int 1))))) [aT d0,bY] s=.ok (.next [aT d0,aT (.str (bg (wd l (l.length - 1))))]) (s++[.J ((ae l.length).map λ k=>D.str (bg (wd l k)))]):=by
 have G:=aw9 hs (Ww:=λ k=>.str (bg (wd l k))) (λ k=>rfl);have Z:=ao1 (P:=P) (n+2) hl hk hsr y (.clo "last_word.1" []) (.clo "last_word.0" []) (.fn "begun_times") (λ k=>.str (bg (wd l k))) (λ _ n=>rfl)
  (λ k ch hv=>by
   refine(qe af8 rfl rfl (by rw[G k];rfl)).trans ?_;rw[show wd l k=[ch]from cl5 hv];exact zn (λ _=>rfl) (by nofun))
  (λ k i j hv=>by
   refine(qe af7 (n:=n+1) rfl rfl (by rw[G k];rfl)).trans ?_;obtain⟨h,hj⟩:=hk k _ hv;have e1:=aT4 (P:=P) n (bg (wd l i)++bg (wd l j)) (s++[.J ((ae k).map λ k=>D.str (bg (wd l k)))]);rw[bY1]at e1;have hb:∀ v:List Nat,(bg v).length<=2001:=λ v=>by unfold bg;grind
   have ea:∀ s,qZ .add (.str (bg (wd l i))) (.str (bg (wd l j))) s=.ok (.str (bg (wd l i)++bg (wd l j))) s:=λ s=>bp5 (by have:=hb (wd l i);have:=hb (wd l j);unfold LIM;lia);rw[cd4 hv h hj];show(ev (aa0 P (n+1)) (.call "begun" (.ex (.G .add (.X 0) (.X 1)) .nil)) [aT (.str (bg (wd l i))),aT (.str (bg (wd l j)))] _).bind (zY _)=_
   simp_all)
  (λ k i q hv=>by
   have h:=hk k _ hv;rw[cc8 hv h];have J:=(ab.mp hv).1;exact ay4 (P:=P) n (cs8 hk hn i (di h J)) (hn k i q hv) _)
 have g1:=λ U s=>qT (P:=P) (n:=n+3) (x := "begun_times") (d:=.fn "begun_times") U s;have il:=jy (bv3 (s:=s)) (aE6 Y λ k=>D.str (bg (wd l k)));simp -implicitDefEqProofs only[zW,qa,qt,zE,zd,ze,zh,R.bind_ok];rw[zU (cs:=[]) _ rfl,zU (cs:=[]) _ rfl];simp -implicitDefEqProofs only[zE,zz,g1,R.bind_ok,Z];rw[gc (by rw[G l.length];rfl)]
 simp_all
def ao7  n (hl:l.length<=5100)(y:1<=l.length)(hk:bw3 l)(hn:bX3 l)(hs:s.all O.ncl=cn)(hsr:∀ r∈src,r<s.length)(h:∀ t,ay0 d0 (s++t)=.ok ⟨l.map Rst.d,src⟩ (s++t))(hw:(wd l (l.length - 1)).length<=2000) :
  (aa0 P (n+4)).call "last_word" [d0] s=.ok (.str (wd l (l.length - 1))) s:=by
 have Y:(aa0 P (n+4)).call "last_word" [d0] s=_:=zb ag8 rfl;have e1:=bD6 (P:=P) n hl y hk hn hs hsr h;have J:=λ U s=>qT (P:=P) (n:=n+3) (x := "MOST_WRITTEN") (d:=.int 2000) U s;have G:bg (wd l (l.length - 1))=wd l (l.length - 1):=cB (by lia);rw[G]at e1;rw[Y,show(aO aT [d0]++ak ag8.vs bY)=[aT d0,bY]from rfl,show ag8.body=(.cons (.A (.Y 1) (.ix (.callC "folded" (.ex (.X 0) (.lam "last_word.1" [] (.lam "last_word.0" [] (.ex (.gl "begun_times") .nil))))) (.neg (.K (.int 1))))) (.cons (.ite (.Z .gt (.bi .len (.cons (.X 1) .nil)) (.gl "MOST_WRITTEN")) (.cons .raise .nil) .nil) (.cons (.ret (.X 1)) .nil)))from rfl,za,e1]
 simp -implicitDefEqProofs only[za,zl,z5,zX,zd,zK,ev_bi,zq,zo,R.bind_ok,ze,zh,zm,zI,zJ,gt_int,zD,if_false,Bool.false_eq_true,decide_false,aO3,J,show((2000)<((wd l (l.length - 1)).length:Int))=False from eq_false (by lia)]
 exact zT (λ _=>rfl) (by nofun)
def aJ0 [Has P ag9] n {l}(hl:l.length<=5100)(y:1<=l.length)(hk:bw3 l)(hn:bX3 l){s}(hs:s.all O.ncl=cn)(hw:(wd l (l.length - 1)).length<=2000) :
  (aa0 P (n+5)).call "long_word" [.tp (l.map Rst.d)] s=.ok (.str (wd l (l.length - 1))) s:=by
 have G:(aa0 P (n+5)).call "long_word" [.tp (l.map Rst.d)] s=_:=zb ag9 rfl;have e1:=ao7 (P:=P) n hl y hk hn hs (λ _ h=>by cases h) (aR9 ) hw;rw[G,show(aO aT [D.tp (l.map Rst.d)]++ak ag9.vs bY)=[aT (.tp (l.map Rst.d))]from rfl,show ag9.body=(.cons (.ret (.call "last_word" (.ex (.X 0) .nil))) .nil)from rfl]
 simp_all
variable [Has P af4] [Has P aa9] [Has P ae4] [Has P ae1]
def aq4  n (hl:l.length<=5100)(J:1<=l.length)(hk:ak6 l){m:Mc}(G:m.Ok) q (hs:s.all O.ncl=cn)(hw:(wd (l.map (Stp.r ((q+1)*m.R))) (l.length - 1)).length<=2000) :
  (aa0 P (n+5)).call "word_unrolled" [m.d,.tp (l.map Stp.d),.int (q)] s=.ok (.str (wd (l.map (Stp.r ((q+1)*m.R))) (l.length - 1))) s:=by
 have Z:(aa0 P (n+5)).call "word_unrolled" [m.d,.tp (l.map Stp.d),.int (q)] s=_:=zb ae1 rfl;have e1:=au2 (P:=P) (n+2) hl G q s;have Y:(s++[O.J ((l.map (Stp.r ((q+1)*m.R))).map Rst.d)]).all O.ncl=true:=by rw[<-Stp.t_r];exact z0 hs aS4
 have hn:bX3 (l.map (Stp.r ((q+1)*m.R))):=λ k i n e=>by
  rw[ao,bL]at e;obtain⟨y,_,h⟩:=e;cases y<;>cases h;exact iO (by lia) G.R1
 have e2:=ao7 (P:=P) n (by simp_all) (by simp_all) (hk.b _) hn Y (by simp) (bg4 ) (by simp_all);rw[ar]at e2;rw[Z,show(aO aT [m.d,D.tp (l.map Stp.d),D.int (q)]++ak ae1.vs bY)=[aT m.d,aT (D.tp (l.map Stp.d)),aT (.int (q))]from rfl,show ae1.body=(.cons (.ret (.call "last_word" (.ex (.call "unrolled" (.ex (.X 0) (.ex (.X 1) (.ex (.X 2) .nil)))) .nil))) .nil)from rfl]
 simp -implicitDefEqProofs only[za,zX,zd,zR,zz,zE,R.bind_ok,ze,zh,zI,zJ,e1,e2]
 exact zT (λ _=>rfl) (by nofun)
end
section
variable {P:Pr} [Has P jh]
end
section
variable {P:Pr} [Has P jh] [Has P jF]
end
def bI1 (m:Nat)(f:Nat->Nat->Option Int):Sto:=(ae m).map λ i=>.J (rowO m (f i))
@[simp] theorem bX2 :(bI1 m f).length=m:=by unfold bI1;simp
section
variable {P:Pr} [Has P jh] [Has P jF] [Has P qr]
end
section
variable {P:Pr} [Has P jh] [Has P jF] [Has P qr]
end
section
variable {P:Pr} [Has P jh]
end
section
variable {P:Pr} [Has P af3] [Has P ae7] [Has P af0] [Has P aa9] [Has P jg] [Has P jK] [Has P ab5] [Has P aa4] [HasL P aa2] [Has P af5] [HasL P ab2] [Has P ab8] [HasL P aa6] [Has P ae0] [Has P ah5] [HasC P "product" (.fn "product")] [HasC P "power" (.fn "power")] [Has P ac0] [Has P ad4] [HasL P ab9] [Has P af1] [Has P zQ] [Has P aa8]
end
def bh6 {Q:Nat->Prop}:∀ {M},Q M->∃ L,L<=M/\Q L/\∀ k,k<L->¬ Q k:=by
 intro M
 induction M using cR with
 | _ M ih =>
  intro h;by_cases hk:∃ k,k<M/\Q k
  .obtain⟨k,y,G⟩:=hk;obtain⟨L,a,b,c⟩:=ih k y G;exact⟨L,by lia,b,c⟩
  .exact⟨M,ai _,h,λ k y G=>hk ⟨k,y,G⟩⟩
def IsL (m:Nat)(f:Nat->Nat->Int)(L:Nat):Prop:=L<=5000/\bf2 m (pw m f L)/\∀ k,k<L->¬ bf2 m (pw m f k)
noncomputable def stL (m:Nat)(f:Nat->Nat->Int):Nat:=Classical.epsilon λ L=>IsL m f L
def aT8 (h:1<=m)(J:m<=5)(G:InG m f):IsL m f (stL m f):=by
 refine Classical.epsilon_spec ?_;obtain⟨M,Y,y⟩:=bO1 h J G;obtain⟨L,a,b,c⟩:=bh6 (Q:=λ M=>bf2 m (pw m f M)) y;exact⟨L,by lia,b,c⟩
section
variable {P:Pr} [Has P af3] [Has P aa5] [HasL P aa3] [Has P ac2] [Has P ac1]
def aC5  n (J:1<=m)(G:m<=5)(Y:InG m f)(hs:s.all O.ncl=cn) :
  (aa0 P (n+5)).call "steady_power" [gd m f] s=.ok (.tp [.int ((stL m f+1:Nat)),gd m (pw m f (stL m f))]) s:=by
 have e0:(aa0 P (n+5)).call "steady_power" [gd m f] s=_:=zb ac1 rfl;obtain⟨Z,hM,y⟩:=aT8 J G Y;generalize stL m f=M at Z hM y;rw[e0,show(aO aT [gd m f]++ak ac1.vs bY)=[aT (gd m f),bY,bY]from rfl];simp -implicitDefEqProofs only[ac1,za,zW,zw,zd,ze,R.bind_ok,zg,zC,zx,az,zt,zm];rw[R.bind_assoc];refine aE4 (λ k U t=>∃ L,L+k=M/\U=[aT (gd m f),aT (.int ((L+1:Nat))),aT (gd m (pw m f L))]/\t=s) (λ U t=>U=[aT (gd m f),aT (.int ((M+1))),aT (gd m (pw m f M))]/\t=s) M ⟨0,by lia,rfl,rfl⟩ ?_ ?_
 .rintro k U t ⟨L,hL,rfl,rfl⟩
  obtain⟨b,eb,hb⟩:=jM (P:=P) n J G (pw_in J Y L) hs;simp -implicitDefEqProofs only[ev_not,zR,zE,zz,zd,ze,zh,R.bind_ok,eb,zD,bh2];cases b with
  | true =>
   grind
  | false =>
   have hne:L≠M:=λ e=>by lia
   simp only[iQ,if_true];have ea:=bb5 (F:=aa0 P (n+4)) (U:=[aT (gd m f),aT (.int ((L+1:Nat):Int)),aT (gd m (pw m f L))]) (U':=[aT (gd m f),aT (.int (((L+1:Nat):Int)+1)),aT (gd m (pw m f L))]) (s:=t) (i:=1) (a:=((L+1:Nat):Int)) (b:=1) (e:=.K (.int 1)) rfl rfl rfl;have ep:(aa0 P (n+4)).call "sign_product" [gd m (pw m f L),gd m f] t=.ok (gd m (pw m f (L+1))) t:=z4 (P:=P) (n+1) J G (pw_in J Y L) Y hs;refine az0 (U:=[aT (gd m f),aT (.int ((L+1+1:Nat):Int)),aT (gd m (pw m f (L+1)))]) (s:=t) ?_ ⟨k - 1,by lia,L+1,by lia,rfl,rfl⟩
   simp_all
 .rintro U t ⟨rfl,rfl⟩
  simp -implicitDefEqProofs only[zm,za,zl,zX,jE,zo,zq,zd,ze,zh,R.bind_ok,zI,zJ];refine zn (λ n=>?_) (by nofun);unfold D.bnd D.bndL D.bndL D.bndL;rw[qV];rfl
end
section
variable {P:Pr} [Has P ab6]
end
section
variable {P:Pr} [Has P ab6]
end
noncomputable abbrev SV:=(Nat->Nat->Int)×Int
def tmV (Z c:Nat)(a:SV)(q:Nat):SV :=
 if q / (stL Z a.1+1)<c then(qw Z a.1 q,(q)*a.2)
 else(pr Z (sh Z (pw Z a.1 (stL Z a.1))) (qw Z a.1 (q % (stL Z a.1+1))),((2*(stL Z a.1+1)+q % (stL Z a.1+1):Nat))*a.2)
def sws (m:Mc)(c:Nat)(l:List Rst):List SV:=foR (un,0) (λ ch=>(sgM m ch,3)) (λ a b=>(pr m.R a.1 b.1,a.2+b.2)) (tmV m.R c) l
def sw (m:Mc)(c:Nat)(l:List Rst)(k:Nat):SV:=(sws m c l).getD k (un,0)
section
variable {m:Mc} {c:Nat} {l:List Rst}
def cs5 (h:l[k]?=aT (.let_ ch)):sw m c l k=(sgM m ch,3):=cf1 _ _ _ _ h
def cq1 (h:l[k]?=aT (.pair i j))(y:i<k)(hj:j<k):sw m c l k=(pr m.R (sw m c l i).1 (sw m c l j).1,(sw m c l i).2+(sw m c l j).2):=cf5 _ _ _ _ h y hj
def cr7 (h:l[k]?=aT (.times i q))(y:i<k):sw m c l k=tmV m.R c (sw m c l i) q:=cb2 _ _ _ _ h y
end
def wbd (h:i<k){ w:Int}(h0:0<=F)(G:F<=2^103)(y:0<=w)(hw:w<=2^(2+104*i)):0<=F*w/\F*w<=2^(2+104*k):=by
 refine⟨iM h0 y,bp (iL G hw y (by decide)) ?_⟩;rw[<-Int.pow_add];exact qu (by lia)
def ct2 {q:Nat}(h:q<=10^30):(q:Int)<=2^103:=by
 lia
def cj2 (h:1<=Z)(G:Z<=5)(y:InG Z a.1)(h0:0<=a.2)(hq:q<=10^30)(J:i<k)(hw:a.2<=2^(2+104*i)):InG Z (tmV Z c a q).1/\0<=(tmV Z c a q).2/\(tmV Z c a q).2<=2^(2+104*k):=by
 have Y:=(aT8 h G y).1;unfold tmV;split
 .exact⟨aF3 h y q,wbd J (by lia) (ct2 hq) h0 hw⟩
 .have hm:q % (stL Z a.1+1)<stL Z a.1+1:=hU _ (by lia);exact⟨aR8 h (bx5 h (pw_in h y _)) (aF3 h y _),wbd J (by lia) (bp (show _<=(20000)by lia) (by decide)) h0 hw⟩
def cs9 (G:m.Ok)(hl:am4 l):∀ k,k<l.length->InG m.R (sw m c l k).1/\0<=(sw m c l k).2/\(sw m c l k).2<=2^(2+104*k):=by
 intro k
 induction k using cR with
 | _ k ih =>
  intro hk;have hx:=ac hk;have hok:=hl k _ hx;generalize l[k]=x at hx hok;have h4:(4:Int)<=2^(2+104*k):=bp (show(4)<=2^2 by decide) (qu (by lia));cases x with
  | let_ ch=>rw[cs5 hx];exact⟨(SgW.letter m ch).inG,by lia,by lia⟩
  | pair i j =>
   obtain⟨h,hj⟩:=hok;obtain⟨y,J,Y⟩:=ih i h (by omega);obtain⟨Z,b2,b3⟩:=ih j hj (by lia);rw[cq1 hx h hj];refine⟨aR8 G.R1 y Z,by lia,?_⟩;have p1:(2:Int)^(2+104*i)<=2^(1+104*k):=qu (by lia);have p2:(2:Int)^(2+104*j)<=2^(1+104*k):=qu (by lia);lia
  | times i q =>
   obtain⟨h,_,hq⟩:=hok;obtain⟨y,J,Y⟩:=ih i h (by omega);rw[cr7 hx h];exact cj2 G.R1 G.R5 y J hq h Y
def ct4 (hk:k<=90){v:Int}(h0:0<=v)(h:v<=2^(2+104*k)):v.natAbs<BIG:=bs9 h0 (bp h (bp (show(2)^(2+104*k)<=TB from by unfold TB;exact qu (by lia)) (by lia)))
def SD (Z:Nat)(v:SV):D:=.tp [gd Z v.1,.int v.2]
def av8  n :(SD Z v).bnd n=true:=by
 unfold SD D.bnd D.bndL D.bndL D.bndL;rw[qV];rfl
def bI6 :(SD Z v).ncl=true:=by
 unfold SD D.ncl D.nclL D.nclL D.nclL;rw[ap0];rfl
def sd0 :ixM (SD Z v) (.int 0) s=.ok (gd Z v.1) s:=rfl
def sd1 :ixM (SD Z v) (.int 1) s=.ok (.int v.2) s:=rfl
def aT6  s  n  a :eqv s n (.int a) (.int a)=aT true:=by rw[bs5];simp
def ct8 :qp .ne (SD Z v) (SD Z v) s=.ok (.T dt) s:=by
 have e:eqv s DEEP (SD Z v) (SD Z v)=aT true:=by
  skip
  refine jX λ d hd=>?_;rcases aL.mp hd with rfl|hd
  .skip
   refine jX λ d hd=>?_;obtain⟨i,_,rfl⟩:=au.mp hd
   skip
   refine jX λ d hd=>?_;obtain⟨j,_,rfl⟩:=au.mp hd;exact aT6 _ _ _
  .rw[bv.mp hd];exact aT6 _ _ _
 show(match eqv s DEEP (SD Z v) (SD Z v)with|some r=>R.ok (D.T (!r)) s|none=>.B)=_;rw[e];rfl
section
variable {P:Pr} [Has P af3] [Has P aa5] [HasL P aa3] [Has P ac2] [Has P ac1] [Has P ad5] [Has P ad0] [HasL P ab1] [HasC P "FREE" (.int 0)] [HasC P "SOME" (.int 1)] [HasC P "UNBOUND" (.int 2)] [HasC P "NONE" (.int 3)] [Has P ae0] [Has P ad6] [HasL P ab3] [Has P ae5] [HasC P "sign_product" (.fn "sign_product")] [Has P ac3] [Has P ac7]
def aq9  n (y:1<=Z)(h:Z<=5)(ha:InG Z a.1)(hb:InG Z b.1)(hs:s.all O.ncl=cn) :
  (aa0 P (n+4)).call "signs_of_pair" [SD Z a,SD Z b] s=.ok (SD Z (pr Z a.1 b.1,a.2+b.2)) s:=by
 have G:(aa0 P (n+4)).call "signs_of_pair" [SD Z a,SD Z b] s=_:=zb ac3 rfl;have e1:=z4 (P:=P) n y h ha hb hs;rw[G,show(aO aT [SD Z a,SD Z b]++ak ac3.vs bY)=[aT (SD Z a),aT (SD Z b)]from rfl,show ac3.body=(.cons (.ret (.tp (.cons (.call "sign_product" (.ex (.ix (.X 0) (.K (.int 0))) (.ex (.ix (.X 1) (.K (.int 0))) .nil))) (.cons (.G .add (.ix (.X 0) (.K (.int 1))) (.ix (.X 1) (.K (.int 1)))) .nil)))) .nil)from rfl]
 simp -implicitDefEqProofs only[za,zX,zd,zw,qg,jE,qa,zR,zq,zo,zz,zE,zy,R.bind_ok,ze,zh,zI,zJ,add_int,sd0,sd1,e1]
 exact zn (d:=SD Z (pr Z a.1 b.1,a.2+b.2)) av8 (by nofun)
def ao3  n (G:1<=Z)(J:Z<=5)(Y:InG Z a.1)(hw:a.2.natAbs<BIG){q:Nat}(hq:q<=10^30)(c:Nat)(hs:s.all O.ncl=cn) :
  (aa0 P (n+6)).call "signs_of_times" [SD Z a,.int (q),.int (c)] s=.ok (SD Z (tmV Z c a q)) s:=by
 have e0:(aa0 P (n+6)).call "signs_of_times" [SD Z a,.int (q:Int),.int (c:Int)] s=_:=zb ac7 rfl;obtain⟨h5,a2,_⟩:=aT8 G J Y;have e1:=aC5 (P:=P) n G J Y hs;have e2:=al9 (P:=P) n G J Y hs q;have e3:=al9 (P:=P) n G J Y hs (q % (stL Z a.1+1));have e4:=ap8 (P:=P) n G J (pw_in G Y (stL Z a.1)) a2 hs;have e5:=z4 (P:=P) (n+2) G J (bx5 G (pw_in G Y (stL Z a.1))) (aF3 G Y (q % (stL Z a.1+1))) hs;have em:∀ u:Sto,qZ .mod (.int (q:Int)) (.int ((stL Z a.1+1:Nat):Int)) u=.ok (.int ((q % (stL Z a.1+1):Nat):Int)) u:=λ u=>by rw[jw (by lia)];rfl
 have ed:∀ u:Sto,qZ .fdiv (.int (q:Int)) (.int ((stL Z a.1+1:Nat):Int)) u=.ok (.int ((q / (stL Z a.1+1):Nat):Int)) u:=λ u=>by rw[jW (by omega) (kG (show _<=(5001:Int)by lia) (by decide))];rfl
 have a5:=aR5 (bs3 hq) hw;have a6:q % (stL Z a.1+1)<stL Z a.1+1:=hU _ (by lia);have a4:mulOk 2 ((stL Z a.1+1:Nat):Int)=true:=j7 (by decide);have a3:mulOk (2*((stL Z a.1+1:Nat):Int)+((q % (stL Z a.1+1):Nat):Int)) a.2=true:=j7 (by omega);rw[e0,show(aO aT [SD Z a,D.int (q:Int),.int (c:Int)]++ak ac7.vs bY)=[aT (SD Z a),aT (.int (q:Int)),aT (.int (c:Int)),bY,bY,bY,bY,bY]from rfl];simp -implicitDefEqProofs only[ac7];have a0:∀(x y:D) (u:Sto),ixM (.tp [x,y]) (.int 0) u=.ok x u:=λ _ _ _=>rfl;have a1:∀(x y:D) (u:Sto),ixM (.tp [x,y]) (.int 1) u=.ok y u:=λ _ _ _=>rfl;by_cases h:q / (stL Z a.1+1)<c
 .have hd:(((q / (stL Z a.1+1):Nat):Int)<(c:Int)):=by lia
  have hv:tmV Z c a q=(qw Z a.1 q,(q:Int)*a.2):=gc h
  simp -implicitDefEqProofs only[za,zl,zW,z5,zX,zd,zw,qg,zK,jE,qa,zR,zq,zo,zz,zE,zy,R.bind_ok,zg,zC,zx,ze,zh,Option.map_some,zt,zm,zI,zJ,lt_int,zD,if_true,decide_true,sd0,sd1,e1,a0,em,ed,hd,e2,ah2 a5]
  rw[hv];exact zn (d:=SD Z (qw Z a.1 q,(q:Int)*a.2)) av8 (by nofun)
 .have hd:¬(((q / (stL Z a.1+1):Nat):Int)<(c:Int)):=by omega
  have hv:tmV Z c a q=_:=gn h
  simp -implicitDefEqProofs only[za,zl,zW,z5,zX,zd,zw,qg,zK,jE,qa,zR,zq,zo,zz,zE,zy,R.bind_ok,zg,zC,zx,ze,zh,Option.map_some,zt,zm,zI,zJ,add_int,lt_int,zD,if_false,Bool.false_eq_true,decide_false,sd0,sd1,e1,a0,a1,em,ed,hd,e3,e4,e5,ah2 a4,ah2 a3]
  rw[hv,show((2*(stL Z a.1+1)+q % (stL Z a.1+1):Nat):Int)=2*((stL Z a.1+1:Nat):Int)+((q % (stL Z a.1+1):Nat):Int)by lia];exact zn (d:=SD Z (pr Z (sh Z (pw Z a.1 (stL Z a.1))) (qw Z a.1 (q % (stL Z a.1+1))),_)) av8 (by nofun)
end
section
variable {P:Pr} [Has P af3] [Has P aa5] [HasL P aa3] [Has P ac2] [Has P ac1] [Has P ad5] [Has P ad0] [HasL P ab1] [HasC P "FREE" (.int 0)] [HasC P "SOME" (.int 1)] [HasC P "UNBOUND" (.int 2)] [HasC P "NONE" (.int 3)] [Has P ae0] [Has P ad6] [HasL P ab3] [Has P ae5] [HasC P "sign_product" (.fn "sign_product")] [Has P ac3] [Has P ac7]
 [Has P ag4] [Has P ag3] [HasL P ac6] [Has P ae7] [Has P af0] [Has P aa9] [Has P ab5] [Has P aa4] [HasL P aa2] [Has P af5] [HasL P ab2] [Has P ab8] [HasL P aa6] [Has P aa8] [Has P ac5] [Has P ac0] [Has P ag6] [HasL P ag1] [HasL P ag2] [HasC P "LETTER_WEIGHT" (.int 3)] [HasC P "signs_of_pair" (.fn "signs_of_pair")]
def aF4  n (y:m.Ok)(hl:l.length<=90)(h1:1<=l.length)(hk:am4 l)(z:Nat)(hs:s.all O.ncl=cn) :
  (aa0 P (n+10)).call "long_signs" [m.d,.tp (l.map Rst.d),.int (z)] s=.ok (SD m.R (sw m ((z+1)*m.R) l (l.length - 1))) s:=by
 have e0:(aa0 P (n+10)).call "long_signs" [m.d,.tp (l.map Rst.d),.int (z:Int)] s=_:=zb ag6 rfl;generalize hc:(z+1)*m.R=c;have Z:((z:Int)+1)*(m.R:Int)=(c:Int):=by rw[<-hc];push_cast;rfl
 have G:=aw9 hs (Ww:=λ k=>SD m.R (sw m c l k)) (λ k=>bI6);have ok:=λ k (h)=>cs9 y (c:=c) hk k h;have hf:=ao1 (P:=P) (n+8) (by lia) hk.b (λ _ h=>by cases h) (aR9 ) (.clo "long_signs.1" [m.d]) (.fn "signs_of_pair") (.clo "long_signs.0" [.int (c)]) (λ k=>SD m.R (sw m c l k)) (λ _ n=>av8 n)
  (λ k ch hv=>by
   refine(qe ag2 rfl rfl (by rw[G k];unfold D.nclL;rw[bp0];rfl)).trans ?_;obtain⟨g,hg,e1⟩:=an5 (P:=P) (n+1) y [ch] (by simp) (G k);rw[al6 (hg.eqG (SgW.letter m ch))]at e1;have g1:=λ U s=>qT (P:=P) (n:=n+7) (x := "LETTER_WEIGHT") (d:=.int 3) U s;rw[cs5 hv];show(ev (aa0 P (n+7)) (.tp (.cons (.call "word_signs" (.ex (.X 1) (.ex (.X 0) .nil))) (.cons (.gl "LETTER_WEIGHT") .nil))) [aT (.str [ch]),aT m.d] _).bind (zY _)=_
   simp -implicitDefEqProofs only[zd,jE,zR,zq,zo,zz,zE,R.bind_ok,ze,zh,e1,g1]
   exact zn (d:=SD m.R (sgM m ch,3)) av8 (by nofun))
  (λ k i j hv=>by
   obtain⟨hi,hj⟩:=hk k _ hv;have Y:=(ab.mp hv).1;rw[cq1 hv hi hj];exact aq9 (P:=P) (n+4) y.R1 y.R5 (ok i (by lia)).1 (ok j (by lia)).1 (G k))
  (λ k i q hv=>by
   obtain⟨hi,_,hq⟩:=hk k _ hv;have Y:=(ab.mp hv).1;obtain⟨o1,o2,o3⟩:=ok i (by omega);have e1:=ao3 (P:=P) (n+1) y.R1 y.R5 o1 (ct4 (k:=i) (by lia) o2 o3) hq c (G k);rw[<-cr7 (m:=m) (c:=c) hv hi]at e1;refine(qe ag1 (n:=n+7) rfl rfl (by rw[G k];unfold D.nclL D.nclL D.nclL;rw[bI6];rfl)).trans ?_;show(ev (aa0 P (n+7)) (.call "signs_of_times" (.ex (.X 0) (.ex (.X 1) (.ex (.X 2) .nil)))) [aT (SD m.R (sw m c l i)),aT (.int (q:Int)),aT (.int (c:Int))] _).bind (zY _)=_
   simp -implicitDefEqProofs only[zd,zR,zz,zE,R.bind_ok,ze,zh,e1]
   exact zn av8 (by nofun))
 have g1:=λ U s=>qT (P:=P) (n:=n+9) (x := "signs_of_pair") (d:=.fn "signs_of_pair") U s;have il:=jy (bv3 (s:=s)) (aE6 h1 λ k=>SD m.R (sw m c l k));have er:=jd (P:=P) (n+8) m s;have J:mulOk ((z:Int)+1) (m.R:Int)=true:=an7 (by have:=y.R5;omega);rw[e0,show(aO aT [m.d,D.tp (l.map Rst.d),.int (z:Int)]++ak ag6.vs bY)=[aT m.d,aT (.tp (l.map Rst.d)),aT (.int (z:Int)),bY]from rfl,show ag6.body=(.cons (.A (.Y 3) (.G .mul (.G .add (.X 2) (.K (.int 1))) (.call "rooms_of" (.ex (.X 0) .nil)))) (.cons (.ret (.ix (.callC "folded" (.ex (.X 1) (.lam "long_signs.1" [0] (.ex (.gl "signs_of_pair") (.lam "long_signs.0" [3] .nil))))) (.neg (.K (.int 1))))) .nil))from rfl]
 simp -implicitDefEqProofs only[za,zW,zX,zd,zw,qg,qa,zR,zz,zE,zy,R.bind_ok,zg,zC,zx,ze,zh,Option.map_some,zt,zm,add_int,er,ah2 J,Z,qt]
 rw[zU (cs:=[m.d]) _ rfl]
 simp -implicitDefEqProofs only[zE,R.bind_ok,g1]
 rw[zU (cs:=[.int (c:Int)]) _ rfl]
 simp -implicitDefEqProofs only[zz,R.bind_ok,hf]
 rw[gc (by rw[G l.length];rfl)]
 simp -implicitDefEqProofs only[R.bind_ok,zI,zJ,j8,il]
 exact zT av8 (by nofun)
end
section
variable {P:Pr} [Has P ab6] [Has P ag5] [Has P ab4]
end
structure Go1 (n:Nat)(S:Int->Prop)(x Ww:Int):Prop where
 lo:0<=x
 hi:x<=3
 z:x=0↔S 0
 t:x=3↔∀ c,¬ S c
 one:x<=1->∃ c,S c/\c<=Ww
 few:∀ c,S c->c<=n->x<=1
def Go (m:Mc)(n:Nat)(w:List Nat)(g:Nat->Nat->Int)(Ww:Int):Prop:=∀ i j,i<m.R->j<m.R->Go1 n (Wk m.ds w i j) (g i j) Ww
section
variable {m:Mc} {n:Nat}
end
section
variable {m:Mc} (hm:m.Ok) {n:Nat} {u:List Nat} {g:Nat->Nat->Int} {Ww:Int} (h:Go m n u g Ww) (hst:bf2 m.R g)
include hm h hst
end
structure Gx (ns:List Int)(r:Nat)(u:Sto):Prop where
 scr:u[0]?=aT (.ro (ns.map D.int))
 ncl:u.all O.ncl=cn
 box:∃ b,u[r]?=aT (qO b)
 r0:r≠0
def Gx.put (h:Gx ns r u) b :Gx ns r (u.set r (qO b)):=⟨by rw[bq h.r0];exact h.scr,bP0 h.ncl rfl,at5 (aU2 h.box),h.r0⟩
def Gx.snoc (h:Gx ns r u)(ho:o.ncl=cn):Gx ns r (u++[o]):=⟨jJ h.scr,z0 h.ncl ho,by obtain⟨b,hb⟩:=h.box;exact⟨b,jJ hb⟩,h.r0⟩
section
variable {P:Pr} [HasC P "FREE" (.int 0)] [HasC P "SOME" (.int 1)] [HasC P "NONE" (.int 3)] [Has P ag4] [Has P af3] [Has P ag3] [HasL P ac6] [Has P ae7] [Has P af0] [Has P aa9] [Has P ab5] [Has P aa4] [HasL P aa2] [Has P af5] [HasL P ab2] [Has P ab8] [HasL P aa6] [Has P aa8] [Has P ac5] [Has P jg] [Has P jK] [Has P zQ] [Has P aa5] [HasL P aa3]
 [Has P ak3] [Has P ah4] [Has P ab6] [Has P ad9] [Has P ab4]
end
section
variable {P:Pr} [Has P af3] [Has P aa5] [HasL P aa3] [Has P ac2] [Has P ac1] [Has P ad5] [Has P ad0] [HasL P ab1] [HasC P "FREE" (.int 0)] [HasC P "SOME" (.int 1)] [HasC P "UNBOUND" (.int 2)] [HasC P "NONE" (.int 3)] [Has P ae0] [Has P ad6] [HasL P ab3] [Has P ae5] [HasC P "sign_product" (.fn "sign_product")] [Has P ac3] [Has P ac7]
 [Has P ag4] [Has P ag3] [HasL P ac6] [Has P ae7] [Has P af0] [Has P aa9] [Has P ab5] [Has P aa4] [HasL P aa2] [Has P af5] [HasL P ab2] [Has P ab8] [HasL P aa6] [Has P ah5] [HasC P "product" (.fn "product")] [HasC P "power" (.fn "power")] [Has P aa8] [Has P ac5] [Has P ac0] [Has P ag6] [HasL P ag1] [HasL P ag2] [HasC P "LETTER_WEIGHT" (.int 3)] [HasC P "signs_of_pair" (.fn "signs_of_pair")] [Has P ad4] [HasL P ab9] [Has P af1]
 [Has P ak3] [Has P ah4] [Has P ad9] [Has P ah9]
end
section
variable {P:Pr} [Has P ae3] [Has P ac9] [Has P ae8] [HasC P "LETTERS" (.tp ax5)] [Has P ad7] [Has P ag0] [Has P aa7] [Has P ab0] [Has P ab7]
def z9  n  l (k:Nat) s :(aa0 P (n+1)).call "is_tuple_of" [.tp l,.int (k)] s=.ok (.T (decide (l.length=k))) s:=by
 have h:(aa0 P (n+1)).call "is_tuple_of" [.tp l,.int (k)] s=_:=zb ac9 rfl;rw[h,show(aO aT [D.tp l,.int (k)]++ak ac9.vs bY)=[aT (.tp l),aT (.int (k))]from rfl];simp -implicitDefEqProofs only[ac9]
 simp -implicitDefEqProofs only[za,zX,zd,zK,ev_and,ev_bi,zq,zo,R.bind_ok,ze,zh,zI,zJ,jZ,zD,if_true,at2,at1,show((l.length)=(k:Int))=(l.length=k)from propext (by lia)]
 exact zS
def ar5  n { k:Nat}(h:i<k) s :(aa0 P (n+2)).call "is_ahead" [.int (i),.int (k)] s=.ok (.T cn) s:=by
 have y:(aa0 P (n+2)).call "is_ahead" [.int (i),.int (k)] s=_:=zb ag0 rfl;have e1:(aa0 P (n+1)).call "is_whole" [.int (i),.int 0,.int ((k) - 1)] s=.ok (.T cn) s:=by
  have e1:(aa0 P (n+1)).call "is_whole" [.int (i),.int 0,.int ((k) - 1)] s=_:=zb ae3 rfl;rw[e1,show(aO aT [D.int (i),.int 0,.int ((k) - 1)]++ak ae3.vs bY)=[aT (.int (i)),aT (.int 0),aT (.int ((k) - 1))]from rfl];simp -implicitDefEqProofs only[ae3]
  simp -implicitDefEqProofs only[za,zX,zd,ev_not,ev_and,ev_bi,zq,zo,R.bind_ok,ze,zh,le_int,zD,if_true,decide_true,Bool.not_false,aJ8,aB8,as9,eq_true (by omega),show((i)<=(k:Int) - 1)=True from eq_true (by lia)]
  exact zS
 rw[y,show(aO aT [D.int (i),.int (k)]++ak ag0.vs bY)=[aT (.int (i)),aT (.int (k))]from rfl];simp -implicitDefEqProofs only[ag0]
 simp -implicitDefEqProofs only[za,zX,zd,zw,qg,zR,zz,zE,zy,R.bind_ok,ze,zh,zI,zJ,sub_int,e1]
 exact zS
noncomputable def aR0:Stp->Bool|.let_ _=>cn|_=>dt
noncomputable def cp4:Stp->Bool|.pair _ _=>cn|_=>dt
def bK3 {L }(h3:L<=3)(hc:97<=c)(h:c<97+L) s :inM (.str [c]) (.tp (ax5.take L)) s=.ok cn s:=by
 rcases(by lia:L=1/\c=97\/L=2/\c=97\/L=2/\c=98\/L=3/\c=97\/L=3/\c=98\/L=3/\c=99)with⟨rfl,rfl⟩|⟨rfl,rfl⟩|⟨rfl,rfl⟩|⟨rfl,rfl⟩|⟨rfl,rfl⟩|⟨rfl,rfl⟩<;>rfl
def jt  n {L:Nat}(h3:L<=3)(hx:∀ c,x=.let_ c->97<=c/\c<97+L) s :(aa0 P (n+2)).call "is_letter_step" [x.d,.int (L)] s=.ok (.T (aR0 x)) s:=by
 have y:(aa0 P (n+2)).call "is_letter_step" [x.d,.int (L:Int)] s=_:=zb aa7 rfl;rw[y,show(aO aT [x.d,D.int (L:Int)]++ak aa7.vs bY)=[aT x.d,aT (.int (L:Int))]from rfl];simp -implicitDefEqProofs only[aa7];cases x with
 | let_ c =>
  obtain⟨hc,h⟩:=hx c rfl;have e1:(aa0 P (n+1)).call "is_letter" [.str [c],.int (L:Int)] s=.ok (.T cn) s:=by
   have e1:(aa0 P (n+1)).call "is_letter" [.str [c],.int (L:Int)] s=_:=zb ae8 rfl;rw[e1,show(aO aT [D.str [c],D.int (L:Int)]++ak ae8.vs bY)=[aT (.str [c]),aT (.int (L:Int))]from rfl];simp -implicitDefEqProofs only[ae8]
   simp -implicitDefEqProofs only[za,zX,zd,zK,R.bind_ok,ze,zh,zI,zJ,bF2,js (v:=.tp ax5),bi3 h3,bM0,bK3 h3 hc h]
   exact zS
  have e2:=z9 (P:=P) n [.str [108,101,116,116,101,114],.str [c]] 2 s
  simp -implicitDefEqProofs only[za,zX,zd,zw,zK,ev_and,qa,zR,zz,zE,zy,qk,R.bind_ok,ze,zh,show(Stp.let_ c).d=.tp [.str [108,101,116,116,101,114],.str [c]]from rfl]
  rw[show((2:Int))=((2:Nat):Int)from rfl,e2]
  simp -implicitDefEqProofs only[R.bind_ok,zI,zJ,zD,if_true,show decide ([D.str [108,101,116,116,101,114],.str [c]].length=2)=cn from rfl,show ∀ s,ixM (.tp [.str [108,101,116,116,101,114],.str [c]]) (.int 0) s=.ok (.str [108,101,116,116,101,114]) s from λ _=>rfl,show ∀ s,ixM (.tp [.str [108,101,116,116,101,114],.str [c]]) (.int 1) s=.ok (.str [c]) s from λ _=>rfl,show ∀ s,qp .eq (.str [108,101,116,116,101,114]) (.str [108,101,116,116,101,114]) s=.ok (.T cn) s from λ _=>rfl,e1]
  exact zS
 | pair i j =>
  have e2:=z9 (P:=P) n [.str [112,97,105,114],.int (i:Int),.int (j:Int)] 2 s
  simp -implicitDefEqProofs only[za,zX,zd,zw,zK,ev_and,qa,zR,zz,zE,zy,qk,R.bind_ok,ze,zh,show(Stp.pair i j).d=.tp [.str [112,97,105,114],.int (i:Int),.int (j:Int)]from rfl]
  rw[show((2:Int))=((2:Nat):Int)from rfl,e2]
  simp -implicitDefEqProofs only[R.bind_ok,zI,zJ,zD,if_false,Bool.false_eq_true,show decide ([D.str [112,97,105,114],.int (i:Int),.int (j:Int)].length=2)=dt from rfl]
  exact zS
 | sharp i =>
  have e2:=z9 (P:=P) n [.str [115,104,97,114,112],.int (i:Int)] 2 s
  simp -implicitDefEqProofs only[za,zX,zd,zw,zK,ev_and,qa,zR,zz,zE,zy,qk,R.bind_ok,ze,zh,show(Stp.sharp i).d=.tp [.str [115,104,97,114,112],.int (i:Int)]from rfl]
  rw[show((2:Int))=((2:Nat):Int)from rfl,e2]
  simp -implicitDefEqProofs only[R.bind_ok,zI,zJ,zD,if_true,if_false,Bool.false_eq_true,show decide ([D.str [115,104,97,114,112],.int (i:Int)].length=2)=cn from rfl,show ∀ s,ixM (.tp [.str [115,104,97,114,112],.int (i:Int)]) (.int 0) s=.ok (.str [115,104,97,114,112]) s from λ _=>rfl,show ∀ s,qp .eq (.str [115,104,97,114,112]) (.str [108,101,116,116,101,114]) s=.ok (.T dt) s from λ _=>rfl]
  exact zS
def jL  n {k:Nat}(hx:∀ i j,x=.pair i j->i<k/\j<k)(hl:aR0 x=dt) s :(aa0 P (n+3)).call "is_pair_step" [x.d,.int (k)] s=.ok (.T (cp4 x)) s:=by
 have y:(aa0 P (n+3)).call "is_pair_step" [x.d,.int (k)] s=_:=zb ab0 rfl;rw[y,show(aO aT [x.d,D.int (k)]++ak ab0.vs bY)=[aT x.d,aT (.int (k))]from rfl];simp -implicitDefEqProofs only[ab0];cases x with
 | let_ c=>cases hl
 | pair i j =>
  obtain⟨h,hj⟩:=hx i j rfl;have e2:=z9 (P:=P) (n+1) [.str [112,97,105,114],.int (i),.int (j)] 3 s
  simp -implicitDefEqProofs only[za,zX,zd,zw,zK,ev_and,qa,zR,zz,zE,zy,qk,R.bind_ok,ze,zh,show(Stp.pair i j).d=.tp [.str [112,97,105,114],.int (i),.int (j)]from rfl]
  rw[show((3))=((3:Nat):Int)from rfl,e2]
  simp -implicitDefEqProofs only[R.bind_ok,zD,if_true,show decide ([D.str [112,97,105,114],.int (i:Int),.int (j:Int)].length=3)=cn from rfl,λ _=>rfl,show ∀ s,ixM (.tp [.str [112,97,105,114],.int (i:Int),.int (j:Int)]) (.int 1) s=.ok (.int (i:Int)) s from λ _=>rfl,show ∀ s,ixM (.tp [.str [112,97,105,114],.int (i:Int),.int (j:Int)]) (.int 2) s=.ok (.int (j:Int)) s from λ _=>rfl,λ _=>rfl,ar5 n h,ar5 n hj]
  exact zS
 | sharp i =>
  have e2:=z9 (P:=P) (n+1) [.str [115,104,97,114,112],.int (i)] 3 s
  simp -implicitDefEqProofs only[za,zX,zd,zw,zK,ev_and,qa,zR,zz,zE,zy,qk,R.bind_ok,ze,zh,show(Stp.sharp i).d=.tp [.str [115,104,97,114,112],.int (i:Int)]from rfl]
  rw[show((3:Int))=((3:Nat):Int)from rfl,e2]
  simp -implicitDefEqProofs only[R.bind_ok,zI,zJ,zD,if_false,Bool.false_eq_true,show decide ([D.str [115,104,97,114,112],.int (i:Int)].length=3)=dt from rfl]
  exact zS
def aG5  n (h:i<k) s :(aa0 P (n+3)).call "is_sharp_step" [(Stp.sharp i).d,.int (k)] s=.ok (.T cn) s:=by
 have y:(aa0 P (n+3)).call "is_sharp_step" [(Stp.sharp i).d,.int (k)] s=_:=zb ab7 rfl;rw[y,show(aO aT [(Stp.sharp i).d,D.int (k)]++ak ab7.vs bY)=[aT (Stp.sharp i).d,aT (.int (k))]from rfl];simp -implicitDefEqProofs only[ab7];have e2:=z9 (P:=P) (n+1) [.str [115,104,97,114,112],.int (i)] 2 s
 simp -implicitDefEqProofs only[za,zX,zd,zw,zK,ev_and,qa,zR,zz,zE,zy,qk,R.bind_ok,ze,zh,show(Stp.sharp i).d=.tp [.str [115,104,97,114,112],.int (i)]from rfl]
 rw[show((2))=((2:Nat):Int)from rfl,e2]
 simp -implicitDefEqProofs only[R.bind_ok,zD,if_true,show decide ([D.str [115,104,97,114,112],.int (i)].length=2)=cn from rfl,λ _=>rfl,show ∀ s,ixM (.tp [.str [115,104,97,114,112],.int (i)]) (.int 1) s=.ok (.int (i)) s from λ _=>rfl,λ _=>rfl,ar5 n h]
 exact zS
def bU3  n {m:Mc}(h:m.Ok) s :(aa0 P (n+1)).call "letters_of" [m.d] s=.ok (.tp (ax5.take m.L)) s:=aZ4 (P:=P) n (L:=m.L) h.L3 [.int m.R,.tp (qF m.bg),.tp (qF m.en),.tp (m.ds.map Dr.d)] s
def bT2 {L}(h:L<=3) s :bi .len [.tp (ax5.take L)] s=.ok (.int (L)) s:=by
 rw[at1,br,show min L ax5.length=L from ie h]
end
def aF8 (m:Mc)(fs:List (Nat->Nat->Int))(f:Nat->Nat->Int):Stp->Prop
 | .let_ c=>97<=c/\c<97+m.L/\f=sgM m c
 | .pair i j=>∃ a b,fs[i]?=aT a/\fs[j]?=aT b/\f=pr m.R a b
 | .sharp i=>∃ a,fs[i]?=aT a/\bf2 m.R a/\f=sh m.R a
def Mks.inG (G:m.Ok)(h:Mks m l fs):∀ f∈fs,InG m.R f:=by
 induction h with
 | nil=>intro f y;cases y
 | let_ c _ _ _ ih=>intro f y;rcases bN.mp y with h|h;exact ih f h;rw[bv.mp h];exact λ i j _ _=>bI3 _ _ _ _ _
 | pair i j a b _ h1 h2 ih=>intro f y;rcases bN.mp y with h|h;exact ih f h;rw[bv.mp h];exact aR8 G.R1 (ih _ (aC h1)) (ih _ (aC h2))
 | sharp i a _ h1 _ ih=>intro f y;rcases bN.mp y with h|h;exact ih f h;rw[bv.mp h];exact bx5 G.R1 (ih _ (aC h1))
def aF8.last (hl:l.length=fs.length)(hy:aF8 m fs f y)
  (J:∀ k x,l[k]?=aT x->∃ f,fs[k]?=aT f/\aF8 m (fs.take k) f x)  k   x  (hx:(l++[y])[k]?=aT x):∃ g,(fs++[f])[k]?=aT g/\aF8 m ((fs++[f]).take k) g x:=by
 by_cases hk:k<l.length
 .rw[ax hk]at hx;obtain⟨g,G,hs⟩:=J k x hx;exact⟨g,by rw[ax (by lia)];exact G,by rw[cN (by lia)];exact hs⟩
 .have h:k=l.length:=by
   have:=(ab.mp hx).1;simp at this;lia
  subst h;rw[ag (ai _)]at hx;simp at hx;subst hx;exact⟨f,by rw[hl];simp,by rw[hl,List.take_left'];exact hy;rfl⟩
def Mks.at (h:Mks m l fs):∀ k x,l[k]?=aT x->∃ f,fs[k]?=aT f/\aF8 m (fs.take k) f x:=by
 induction h with
 | nil=>intro k x hx;simp at hx
 | let_ c h h1 h2 ih=>exact aF8.last h.len ⟨h1,h2,rfl⟩ ih
 | pair i j a b h h1 h2 ih=>exact aF8.last h.len ⟨a,b,h1,h2,rfl⟩ ih
 | sharp i a h h1 h2 ih=>exact aF8.last h.len ⟨a,h1,h2,rfl⟩ ih
def bg8 {fs:List (Nat->Nat->Int)}(h:fs[k]?=aT f):zG m (fs.take k)++[gd m f]=zG m (fs.take (k+1)):=by
 rw[ju h];unfold zG;rw[bO];rfl
def bx1  n :(O.J (zG m fs)).bnd n=true:=zP (λ d hd n=>by obtain⟨x,_,rfl⟩:=au.mp hd;exact qV n) n
section
variable {P:Pr} [HasC P "FREE" (.int 0)] [HasC P "SOME" (.int 1)] [HasC P "UNBOUND" (.int 2)] [HasC P "NONE" (.int 3)] [HasC P "LETTERS" (.tp ax5)] [Has P ag4] [Has P af3] [Has P ag3] [HasL P ac6] [Has P ae7] [Has P af0] [Has P aa9] [Has P ab5] [Has P aa4] [HasL P aa2] [Has P af5] [HasL P ab2] [Has P ab8] [HasL P aa6] [Has P aa8] [Has P ac5] [Has P aa5] [HasL P aa3] [Has P ac2] [Has P ad5] [Has P ad0] [HasL P ab1]
 [Has P ae3] [Has P ac9] [Has P ae8] [Has P ad7] [Has P ag0] [Has P aa7] [Has P ab0] [Has P ab7] [Has P ac4]
def bW1  n (G:m.Ok)(Y:∀ f∈fs,InG m.R f)(h:aF8 m fs f x)(hp:s[p]?=aT (.J (zG m.R fs)))(hs:s.all O.ncl=cn) :
  (aa0 P (n+7)).call "signs_of_step" [m.d,x.d,.ref p] s=.ok (gd m.R f) s:=by
 have e0:(aa0 P (n+7)).call "signs_of_step" [m.d,x.d,.ref p] s=_:=zb ac4 rfl;have y:bi .len [.ref p] s=.ok (.int (fs.length:Int)) s:=by rw[bo4 hp];unfold zG;rw[ar]
 have lt:∀ {i:Nat} {a:Nat->Nat->Int},fs[i]?=aT a->i<fs.length:=λ h=>(ab.mp h).1;have e1:=bU3 (P:=P) (n+5) G s;have J:=bT2 G.L3 s;have e2:=jt (P:=P) (n+4) (x:=x) G.L3 (by rintro c rfl;exact⟨h.1,h.2.1⟩) s;rw[e0,show(aO aT [m.d,x.d,D.ref p]++ak ac4.vs bY)=[aT m.d,aT x.d,aT (.ref p),bY]from rfl];simp -implicitDefEqProofs only[ac4];cases x with
 | let_ c =>
  refine wl λ _ kk=>?_;obtain⟨g,hg,Z⟩:=an5 (P:=P) n G [c] (by simp) hs;obtain⟨_,_,rfl⟩:=h;rw[al6 (hg.eqG (SgW.letter m c))]at Z;refine kk ?_;simp -implicitDefEqProofs only[za,zl,zW,z5,zX,zd,zw,qa,zR,ev_bi,zq,zo,zz,zE,zy,R.bind_ok,zg,zC,zx,ze,zh,Option.map_some,zt,zm,zI,zJ,zD,if_true,y,e1,J,e2,aR0,dl1,Z]
  exact zn (λ _=>qV _) (by nofun)
 | pair i j =>
  obtain⟨a,b,ha,hb,rfl⟩:=h;have Z:=jL (P:=P) (n+3) (x:=.pair i j) (by rintro i' j' e;cases e;exact⟨lt ha,lt hb⟩) rfl s;have e4:=z4 (P:=P) (n+3) G.R1 G.R5 (Y _ (aC ha)) (Y _ (aC hb)) hs
  simp -implicitDefEqProofs only[za,zl,zW,z5,zX,zd,zw,qa,zR,ev_bi,zq,zo,zz,zE,zy,R.bind_ok,zg,zC,zx,ze,zh,Option.map_some,zt,zm,zI,zJ,zD,if_true,if_false,Bool.false_eq_true,y,e1,J,e2,aR0,Z,cp4,dp1,dp2,qz hp (jn ha),qz hp (jn hb),e4]
  exact zn (λ _=>qV _) (by nofun)
 | sharp i =>
  obtain⟨a,ha,a0,rfl⟩:=h;have Z:=jL (P:=P) (n+3) (x:=.sharp i) (k:=fs.length) (by rintro i' j' e;cases e) rfl s;have e4:=aG5 (P:=P) (n+3) (lt ha) s;have a1:=Y _ (aC ha);obtain⟨b,e5,hb⟩:=jM (P:=P) (n+2) G.R1 G.R5 a1 hs;have a2:=hb.mpr a0;subst a2;have e6:=ap8 (P:=P) (n+1) G.R1 G.R5 a1 a0 hs
  simp -implicitDefEqProofs only[za,zl,zW,z5,zX,zd,zw,ev_and,qa,zR,ev_bi,zq,zo,zz,zE,zy,R.bind_ok,zg,zC,zx,ze,zh,Option.map_some,zt,zm,zI,zJ,zD,if_true,if_false,Bool.false_eq_true,y,e1,J,e2,aR0,Z,cp4,ds1,e4,qz hp (jn ha),e5,e6]
  exact zn (λ _=>qV _) (by nofun)
variable [HasC P "MOST_STEPS" (.int 100)] [Has P jO]
end
section
variable {P:Pr} [HasC P "FREE" (.int 0)] [HasC P "SOME" (.int 1)] [HasC P "UNBOUND" (.int 2)] [HasC P "NONE" (.int 3)] [HasC P "LETTERS" (.tp ax5)] [Has P ag4] [Has P af3] [Has P ag3] [HasL P ac6] [Has P ae7] [Has P af0] [Has P aa9] [Has P ab5] [Has P aa4] [HasL P aa2] [Has P af5] [HasL P ab2] [Has P ab8] [HasL P aa6] [Has P aa8] [Has P ac5] [Has P aa5] [HasL P aa3] [Has P ac2] [Has P ad5] [Has P ad0] [HasL P ab1]
 [Has P ae3] [Has P ac9] [Has P ae8] [Has P ad7] [Has P ag0] [Has P aa7] [Has P ab0] [Has P ab7] [Has P ac4] [HasC P "MOST_STEPS" (.int 100)] [Has P jO]
 [Has P ak3] [Has P ah4] [Has P ab6] [Has P ad9] [Has P ab4] [Has P ag5] [Has P ah1]
end
section
variable {P:Pr} [Has P ak3] [Has P ah4] [Has P ab6] [Has P ad9] [Has P ab4] [Has P ag5] [Has P ah1]
 [Has P aa9] [Has P af4] [Has P ac0] [Has P ae6] [Has P ah7] [Has P ae4] [Has P ah6] [HasL P ad2] [HasL P ad3] [HasL P ad1] [HasC P "LETTER_WEIGHT" (.int 3)]
end
section
variable {P:Pr} [Has P af3] [Has P ae7] [Has P af0] [Has P aa9] [Has P ab5] [Has P aa4] [HasL P aa2] [Has P af5] [HasL P ab2] [Has P ab8] [HasL P aa6] [Has P ae0] [Has P ah5] [HasC P "product" (.fn "product")] [HasC P "power" (.fn "power")] [Has P ac0] [Has P ad4] [HasL P ab9] [Has P aa8]
 [Has P af4] [Has P ae4] [Has P ac8] [Has P ae6] [HasL P ad2] [HasL P ad3] [HasL P ad1] [Has P ah6]
 [HasC P "MOST_WRITTEN" (.int 2000)] [Has P ai6] [Has P ae2] [HasC P "begun_times" (.fn "begun_times")] [Has P ag8] [HasL P af7] [HasL P af8] [Has P ae1]
 [Has P ak3] [Has P ah4] [Has P ab6] [Has P ad9] [Has P ab4] [Has P ag5] [Has P ah1] [Has P jh] [Has P jF] [Has P qr] [Has P ah9]
def cq0 (hk:ak6 l)(c:Nat):∀ k,k<l.length->(vl 1 (c) l).getD k 0=((wd (l.map (Stp.r c)) k).length):=by
 intro k
 induction k using cR with
 | _ k ih =>
  intro G;have hx:=ac G;have h:(l.map (Stp.r c))[k]?=aT (l[k].r c):=by rw[ao,hx];rfl
  have ho:=hk k _ hx;rw[bm9 hx];generalize l[k]=y at hx h ho;cases y with
  | let_ ch=>rw[cl5 h];rfl
  | pair i j =>
   rw[cd4 h ho.1 ho.2.1,aN,show aq8 1 (c) (vl 1 (c) (l.take k)) (.pair i j)=(vl 1 (c) (l.take k)).getD i 0+(vl 1 (c) (l.take k)).getD j 0 from rfl,ao9 (by omega) ho.1,ao9 (by omega) ho.2.1,ih i ho.1 (by have:=ho.1;lia),ih j ho.2.1 (by have:=ho.2.1;omega)];lia
  | sharp i =>
   rw[cc8 h ho.1,rep_len,show aq8 1 (c) (vl 1 (c) (l.take k)) (.sharp i)=(vl 1 (c) (l.take k)).getD i 0*(c)from rfl,ao9 (by omega) ho.1,ih i ho.1 (by have:=ho.1;omega),dH]
def bE4  s :qp .ne (tbD m w) (tbD m w) s=.ok (.T dt) s:=cl2
def Gx.more (h:Gx ns r u)(hT:T.all O.ncl=cn):Gx ns r (u++T):=⟨jJ h.scr,by rw[da,h.ncl,hT];rfl,by obtain⟨b,hb⟩:=h.box;exact⟨b,jJ hb⟩,h.r0⟩
end
section
variable {P:Pr} [Has P af0] [Has P af4] [Has P ae6] [Has P ab5] [Has P ac0] [Has P af3] [Has P ag0] [Has P ae8] [Has P aa7] [Has P ab0] [Has P ab7] [Has P ac2] [Has P ac9] [Has P ae3] [Has P ad4] [Has P ae7] [Has P aa4] [Has P ad7] [Has P af5] [Has P ah5] [Has P ab8] [Has P ae0] [Has P ag3] [Has P aa9] [Has P ad5] [Has P ad0] [Has P ag4] [Has P aa5] [Has P jO] [Has P ac4] [Has P ac8] [Has P ae4] [Has P ah7] [Has P ac5] [Has P aa8] [Has P ak3] [Has P ah4] [Has P ab4] [Has P ad9] [Has P ah1] [Has P ab6] [Has P ag5] [HasL P ab2] [HasL P aa6] [HasL P aa2] [HasL P ac6] [HasL P aa3] [HasL P ab1] [HasL P ad2] [HasL P ad3] [HasL P ad1] [HasL P ab9] [HasC P "FREE" (.int 0)] [HasC P "SOME" (.int 1)] [HasC P "UNBOUND" (.int 2)] [HasC P "NONE" (.int 3)] [HasC P "LETTER_WEIGHT" (.int 3)] [HasC P "product" (.fn "product")] [HasC P "power" (.fn "power")] [HasC P "LETTERS" (.tp ax5)] [HasC P "MOST_STEPS" (.int 100)]
end
def cs4 (y:1<=m)(Y:m<=5)(J:InG m f)(G:bf2 m f):stL m f=0:=by
 obtain⟨_,_,h⟩:=aT8 y Y J;refine Classical.byContradiction λ k=>h 0 (by lia) ?_;exact G
def bB2 (G:1<=m)(Y:InG m f)(J:InG m g)(h:EqG m f g):EqG m (sh m f) (sh m g):=λ i j y hj=>by
 rw[at0 G Y i j y hj,aO0 G h i j y hj,at0 G J i j y hj]
def cg4 {R }(h:1<=R)(y:R<=5)(J:InG R a.1)(G:bf2 R a.1):EqG R (tmV R c a c).1 (sh R a.1)/\(tmV R c a c).2=2*a.2:=by
 have h0:=cs4 h y J G;unfold tmV;rw[h0,gn (by rw[bB,Nat.div_one];exact bj _),bB,Nat.mod_one];exact⟨ce6 h (bx5 h J),rfl⟩
def cs3 (hm:m.Ok)(h:Mks m l fs)(a2:l.length<=100):∀ k,k<l.length->∃ f,fs[k]?=aT f/\EqG m.R (sw m c (l.map (Stp.r c)) k).1 f/\(sw m c (l.map (Stp.r c)) k).2=(vl 3 2 l).getD k 0:=by
 intro k
 induction k using cR with
 | _ k ih =>
  intro hk;have hx:=ac hk;have hX:(l.map (Stp.r c))[k]?=aT (l[k].r c):=by rw[ao,hx];rfl
  have ho:=h.ok a2 k _ hx;obtain⟨f,hf,hs⟩:=h.at k _ hx;rw[bm9 hx];generalize l[k]=x at hX ho hs;have pre:∀ i,i<k->(vl 3 2 (l.take k)).getD i 0=(vl 3 2 l).getD i 0:=λ i y=>ao9 (by lia) y;refine⟨f,hf,?_⟩;cases x with
  | let_ ch =>
   obtain⟨_,_,rfl⟩:=hs;rw[cs5 hX];exact⟨λ _ _ _ _=>rfl,rfl⟩
  | pair i j =>
   refine wl λ _ kk=>?_;obtain⟨y,hj,_⟩:=ho;obtain⟨a,b,ha,hb,rfl⟩:=hs;rw[dq y]at ha;rw[dq hj]at hb;obtain⟨a',ha',J,na⟩:=ih i y (by lia);obtain⟨b',Z,Gb,nb⟩:=ih j hj (by lia);rw[ha]at ha';cases ha';rw[hb]at Z;cases Z;refine kk ?_;rw[cq1 hX y hj];refine⟨J.pr Gb,?_⟩;show(sw m c (l.map (Stp.r c)) i).2+(sw m c (l.map (Stp.r c)) j).2=(vl 3 2 (l.take k)).getD i 0+(vl 3 2 (l.take k)).getD j 0;rw[pre i y,pre j hj,na,nb]
  | sharp i =>
   obtain⟨y,_⟩:=ho;obtain⟨a,ha,a3,rfl⟩:=hs;rw[dq y]at ha;obtain⟨a',ha',J,na⟩:=ih i y (by lia);rw[ha]at ha';cases ha';have a1:=h.inG hm a (aC ha);have G:InG m.R (sw m c (l.map (Stp.r c)) i).1:=λ p q Y hq=>by rw[J p q Y hq];exact a1 p q Y hq
   have a0:bf2 m.R (sw m c (l.map (Stp.r c)) i).1:=λ p q Y hq=>by
    rw[(J.pr J) p q Y hq,J p q Y hq];exact a3 p q Y hq
   rw[cr7 hX y];obtain⟨e1,e2⟩:=cg4 hm.R1 hm.R5 G a0;refine⟨EqG.trans' hm.R1 e1 (bB2 hm.R1 G a1 J),?_⟩;show _=(vl 3 2 (l.take k)).getD i 0*2;rw[e2,na,pre i y,Int.mul_comm]
section
variable {P:Pr} [Has P ae3] [Has P ac9] [Has P ae8] [HasC P "LETTERS" (.tp ax5)] [Has P ag0] [Has P aa7] [Has P ab0] [Has P ab7] [Has P ad7]
def bh7  n (i q L:Nat) s :(aa0 P (n+2)).call "is_letter_step" [(Rst.times i q).d,.int (L)] s=.ok (.T dt) s:=by
 have h:(aa0 P (n+2)).call "is_letter_step" [(Rst.times i q).d,.int (L)] s=_:=zb aa7 rfl;have e2:=z9 (P:=P) n [.str [116,105,109,101,115],.int (i),.int (q)] 2 s;rw[h,show(aO aT [(Rst.times i q).d,D.int (L)]++ak aa7.vs bY)=[aT (Rst.times i q).d,aT (.int (L))]from rfl];simp -implicitDefEqProofs only[aa7]
 simp -implicitDefEqProofs only[za,zX,zd,zw,zK,ev_and,qa,zR,zz,zE,zy,qk,R.bind_ok,ze,zh,show(Rst.times i q).d=.tp [.str [116,105,109,101,115],.int (i),.int (q)]from rfl]
 rw[show((2))=((2:Nat):Int)from rfl,e2]
 simp -implicitDefEqProofs only[R.bind_ok,zI,zJ,zD,if_false,Bool.false_eq_true,show decide ([D.str [116,105,109,101,115],.int (i),.int (q)].length=2)=dt from rfl]
 exact zS
def bc4  n (i q k:Nat) s :(aa0 P (n+3)).call "is_pair_step" [(Rst.times i q).d,.int (k)] s=.ok (.T dt) s:=by
 have h:(aa0 P (n+3)).call "is_pair_step" [(Rst.times i q).d,.int (k)] s=_:=zb ab0 rfl;have e2:=z9 (P:=P) (n+1) [.str [116,105,109,101,115],.int (i),.int (q)] 3 s;rw[h,show(aO aT [(Rst.times i q).d,D.int (k)]++ak ab0.vs bY)=[aT (Rst.times i q).d,aT (.int (k))]from rfl];simp -implicitDefEqProofs only[ab0]
 simp -implicitDefEqProofs only[za,zX,zd,zw,zK,ev_and,qa,zR,zz,zE,zy,qk,R.bind_ok,ze,zh,show(Rst.times i q).d=.tp [.str [116,105,109,101,115],.int (i),.int (q)]from rfl]
 rw[show((3))=((3:Nat):Int)from rfl,e2]
 simp -implicitDefEqProofs only[zD,if_true,show decide ([D.str [116,105,109,101,115],.int (i),.int (q)].length=3)=cn from rfl,λ _=>rfl,λ _=>rfl]
 exact zS
variable [Has P af2] [Has P ai2]
def aO9  n (Y:i<k)(h1:1<=q)(h2:q<=10^30) s :(aa0 P (n+3)).call "is_times_step" [(Rst.times i q).d,.int (k)] s=.ok (.T cn) s:=by
 have Z:(aa0 P (n+3)).call "is_times_step" [(Rst.times i q).d,.int (k)] s=_:=zb af2 rfl;have e2:=z9 (P:=P) (n+1) [.str [116,105,109,101,115],.int (i),.int (q)] 3 s;have h:∀ s:Sto,qZ .pow (.int 10) (.int 30) s=.ok (.int (10^30)) s:=λ s=>aG0 (by decide);have G:(q:Int)<=10^30:=by lia
 have y:(1:Int)<=(q:Int):=by lia
 have J:(aa0 P (n+2)).call "is_whole" [.int (q:Int),.int 1,.int (10^30)] s=.ok (.T cn) s:=by
  have e1:(aa0 P (n+2)).call "is_whole" [.int (q:Int),.int 1,.int (10^30)] s=_:=zb ae3 rfl;rw[e1,show(aO aT [D.int (q:Int),.int 1,.int (10^30)]++ak ae3.vs bY)=[aT (.int (q:Int)),aT (.int 1),aT (.int (10^30))]from rfl];generalize (10)^30=T at *;simp -implicitDefEqProofs only[ae3]
  simp -implicitDefEqProofs only[za,zX,zd,ev_not,ev_and,ev_bi,zq,zo,R.bind_ok,ze,zh,zI,zJ,le_int,zD,if_true,decide_true,Bool.not_false,aJ8,aB8,as9,y,G]
  exact zS
 rw[Z,show(aO aT [(Rst.times i q).d,D.int (k:Int)]++ak af2.vs bY)=[aT (Rst.times i q).d,aT (.int (k:Int))]from rfl];simp -implicitDefEqProofs only[af2]
 simp -implicitDefEqProofs only[za,zX,zd,zw,qg,zK,ev_and,qa,zR,zz,zE,zy,qk,R.bind_ok,ze,zh,show(Rst.times i q).d=.tp [.str [116,105,109,101,115],.int (i:Int),.int (q:Int)]from rfl]
 rw[show((3:Int))=((3:Nat):Int)from rfl,e2]
 simp -implicitDefEqProofs only[R.bind_ok,zI,zJ,zD,if_true,show decide ([D.str [116,105,109,101,115],.int (i:Int),.int (q:Int)].length=3)=cn from rfl,show ∀ s,ixM (.tp [.str [116,105,109,101,115],.int (i:Int),.int (q:Int)]) (.int 0) s=.ok (.str [116,105,109,101,115]) s from λ _=>rfl,show ∀ s,ixM (.tp [.str [116,105,109,101,115],.int (i:Int),.int (q:Int)]) (.int 1) s=.ok (.int (i:Int)) s from λ _=>rfl,show ∀ s,ixM (.tp [.str [116,105,109,101,115],.int (i:Int),.int (q:Int)]) (.int 2) s=.ok (.int (q:Int)) s from λ _=>rfl,show ∀ s,qp .eq (.str [116,105,109,101,115]) (.str [116,105,109,101,115]) s=.ok (.T cn) s from λ _=>rfl,ar5 n Y,h,J]
 exact zS
def be5  n (hx:cx5 k x) s :(aa0 P (n+4)).call "is_step" [x.d,.int (k)] s=.ok (.T cn) s:=by
 have Z:(aa0 P (n+4)).call "is_step" [x.d,.int (k)] s=_:=zb ai2 rfl;rw[Z,show(aO aT [x.d,D.int (k)]++ak ai2.vs bY)=[aT x.d,aT (.int (k))]from rfl];simp -implicitDefEqProofs only[ai2];cases x with
 | let_ c =>
  have e1:=jt (P:=P) (n+1) (x:=.let_ c) (L:=3) (by decide) (by rintro Y e;cases e;exact⟨hx.1,hx.2⟩) s;rw[show(Stp.let_ c).d=(Rst.let_ c).d from rfl,show((3:Nat):Int)=3 from rfl,show aR0 (.let_ c)=cn from rfl]at e1
  simp -implicitDefEqProofs only[za,zX,zd,ev_or,zR,ev_bi,zq,zo,zz,zE,R.bind_ok,ze,zh,zI,zJ,zD,if_true,js (v:=.tp ax5),show ∀ s,bi .len [.tp ax5] s=.ok (.int 3) s from λ _=>rfl,e1]
  exact zS
 | pair i j =>
  have e1:=jt (P:=P) (n+1) (x:=.pair i j) (L:=3) (by decide) (by rintro Y e;cases e) s;have e2:=jL (P:=P) n (x:=.pair i j) (by rintro i' j' e;cases e;exact hx) rfl s;rw[show(Stp.pair i j).d=(Rst.pair i j).d from rfl,show((3:Nat):Int)=3 from rfl,show aR0 (.pair i j)=dt from rfl]at e1;rw[show(Stp.pair i j).d=(Rst.pair i j).d from rfl,show cp4 (.pair i j)=cn from rfl]at e2
  simp -implicitDefEqProofs only[za,zX,zd,ev_or,zR,ev_bi,zq,zo,zz,zE,R.bind_ok,ze,zh,zI,zJ,zD,if_true,if_false,Bool.false_eq_true,js (v:=.tp ax5),show ∀ s,bi .len [.tp ax5] s=.ok (.int 3) s from λ _=>rfl,e1,e2]
  exact zS
 | times i q =>
  obtain⟨J,G,y⟩:=hx;have e1:=bh7 (P:=P) (n+1) i q 3 s;have e2:=bc4 (P:=P) n i q k s;have h:=aO9 (P:=P) n J G y s;rw[show((3:Nat):Int)=3 from rfl]at e1
  simp -implicitDefEqProofs only[za,zX,zd,ev_or,zR,ev_bi,zq,zo,zz,zE,R.bind_ok,ze,zh,zI,zJ,zD,if_false,Bool.false_eq_true,js (v:=.tp ax5),show ∀ s,bi .len [.tp ax5] s=.ok (.int 3) s from λ _=>rfl,e1,e2,h]
  exact zS
variable [Has P ag7] [HasC P "MOST_STEPS_longwords" (.int 60)]
def ba4  n (hk:am4 l)(Y:1<=l.length)(Z:l.length<=60) s :(aa0 P (n+5)).call "is_recipe" [.tp (l.map Rst.d)] s=.ok (.T cn) s:=by
 have J:(aa0 P (n+5)).call "is_recipe" [.tp (l.map Rst.d)] s=_:=zb ag7 rfl;have G:be6 (.tp (l.map Rst.d)) s=.ok ⟨l.map Rst.d,[]⟩ s:=rfl;obtain⟨U',s',e1,p⟩:=ar8 (ok:=λ h=>chk s h []) (g:=ql (aa0 P (n+4)) (.tp [0,1]) (.call "is_step" (.ex (.X 1) (.ex (.X 0) .nil)))) (λ U t=>t=s/\∃ x y,U=[x,y]) (λ _=>.T cn) (aj1 0 (l.map Rst.d)) (qb [aT (.tp (l.map Rst.d))] [bY,bY]) s ⟨rfl,bY,bY,rfl⟩ (λ _ _ _=>rfl) (by
  rintro q hq U t ⟨rfl,x,y,rfl⟩
  obtain⟨k,d,hd,rfl⟩:=aI3.mp hq;rw[bB];rw[ao,bL]at hd;obtain⟨z,hz,rfl⟩:=hd;have e:=be5 (P:=P) n (hk k z hz) t;refine⟨[aT (.int k),aT z.d],t,?_,rfl,_,_,rfl⟩;unfold ql;rw[show ai5 [x,y] (.tp [0,1]) (.tp [.int ((k)),z.d])=aT [aT (.int (k)),aT z.d]from rfl]
  simp -implicitDefEqProofs only[zd,zR,zz,zE,R.bind_ok,ze,zh,e])
 obtain⟨rfl,_⟩:=p;have hb:∀ L:List D,aq7 (L.map λ _=>D.T cn)=aT (L.map λ _=>cn):=λ L=>by
  induction L with
  | nil=>rfl
  | cons a L ih=>simp[aq7,ih]
 have ha:∀ L:List D,(L.map λ _=>cn).all id=true:=λ L=>by induction L<;>simp_all
 rw[J,show(aO aT [D.tp (l.map Rst.d)]++ak ag7.vs bY)=[aT (.tp (l.map Rst.d))]from rfl];simp -implicitDefEqProofs only[ag7]
 simp -implicitDefEqProofs only[za,zl,z5,zX,zd,zw,ev_not,ev_or,ev_bi,ev_mk,zq,zo,Cn_bl,zy,R.bind_ok,ze,zm,zI,le_int,zD,if_true,if_false,Bool.false_eq_true,decide_true,Bool.not_true,at2,at1,ar,as9,js (v:=.int 60),show((1)<=(l.length:Int))=True from eq_true (by lia),show((l.length:Int)<=60)=True from eq_true (by lia),jm,bA2,G]
 rw[gc (by rw[enumL_len,ar];unfold LIM;lia),e1];simp -implicitDefEqProofs only[R.bind_ok,mk,hb,ha,zJ];exact zS
end
def bP3 [Has P aj9] n {l:List Stp}(hl:l.length<=5100)(c:Nat) s  :
  (aa0 P (n+1)).call "_law_led" [.tp (l.map Stp.d),.int (c)] s=.ok (.tp ((l.map (Stp.r c)).map Rst.d)) s:=by
 rw[<-Stp.t_r];have G:(aa0 P (n+1)).call "_law_led" [.tp (l.map Stp.d),.int (c:Int)] s=_:=zb aj9 rfl;rw[G,show(aO aT [D.tp (l.map Stp.d),.int (c:Int)]++ak aj9.vs bY)=[aT (D.tp (l.map Stp.d)),aT (.int (c:Int))]from rfl];simp -implicitDefEqProofs only[aj9,za,zX,ev_mk,jm,evI_seq,zd,ze,R.bind_ok,ao4];rw[gc (by unfold LIM;rw[ar];omega)];obtain⟨U1,s1,e1,h1⟩:∃ U' s',qX (λ s1=>chk s s1 []) (ql (aa0 P n) (.Y 0) (.ite (.Z .ne (.ix (.X 0) (.K (.int 0))) (.K (.str [115,104,97,114,112]))) (.X 0) (.tp (.cons (.K (.str [116,105,109,101,115])) (.cons (.ix (.X 0) (.K (.int 1))) (.cons (.X 1) .nil)))))) (l.map Stp.d) (qb [aT (D.tp (l.map Stp.d)),aT (.int (c))] [bY,aT 1]) s=R.ok (l.map (Stp.t (c))) s'/\s'=s/\∃ x,U'=[x,aT (D.int (c))]:=by
  have key:∀(l:List Stp) (U:Env),(∃ x:Option D,U=[x,aT (D.int (c:Int))])->∃ U' s',qX (λ s1=>chk s s1 []) (ql (aa0 P n) (.Y 0) (.ite (.Z .ne (.ix (.X 0) (.K (.int 0))) (.K (.str [115,104,97,114,112]))) (.X 0) (.tp (.cons (.K (.str [116,105,109,101,115])) (.cons (.ix (.X 0) (.K (.int 1))) (.cons (.X 1) .nil)))))) (l.map Stp.d) U s=.ok (l.map (Stp.t (c:Int))) s'/\s'=s/\∃ x:Option D,U'=[x,aT (D.int (c:Int))]:=by
   intro l
   induction l with
   | nil=>rintro U ⟨x,rfl⟩;exact⟨[x,aT (D.int (c:Int))],s,rfl,rfl,x,rfl⟩
   | cons y l ih =>
    rintro U ⟨x,rfl⟩
    obtain⟨U2,s2,e2,rfl,h⟩:=ih [aT y.d,aT (.int (c:Int))] ⟨_,rfl⟩;refine⟨U2,_,?_,rfl,h⟩;have st:ql (aa0 P n) (.Y 0) (.ite (.Z .ne (.ix (.X 0) (.K (.int 0))) (.K (.str [115,104,97,114,112]))) (.X 0) (.tp (.cons (.K (.str [116,105,109,101,115])) (.cons (.ix (.X 0) (.K (.int 1))) (.cons (.X 1) .nil))))) y.d [x,aT (.int (c:Int))] s2=.ok (aT (y.t (c:Int)),[aT y.d,aT (.int (c:Int))]) s2:=by
     unfold ql;cases y with
     | let_ ch=>simp -implicitDefEqProofs only[zg,zx,jY,zK,qa,zd,zw,zy,qk,ze,zh,R.bind_ok,dl0,aD3,show(bF6=[115,104,97,114,112])=False by decide,decide_false,iQ,zD,if_true];rfl
     | pair i j=>simp -implicitDefEqProofs only[zg,zx,jY,zK,qa,zd,zw,zy,qk,ze,zh,R.bind_ok,dp0,aD3,show(at9=[115,104,97,114,112])=False by decide,decide_false,iQ,zD,if_true];rfl
     | sharp i=>simp -implicitDefEqProofs only[zg,zx,jY,zK,qa,zd,zw,zy,qk,ze,zh,R.bind_ok,ds0,ds1,aD3,show(bq5=[115,104,97,114,112])=True from eq_self _,decide_true,ki,zD,if_false,aG,jE,zo,zq];rfl
    rw[aJ,aJ];unfold qX;simp only[aD5,if_true];rw[st,R.bind_ok];simp only[aD5]at e2;rw[e2];rfl
  exact key l _ ⟨bY,rfl⟩
 obtain⟨rfl,_⟩:=h1;rw[e1];simp -implicitDefEqProofs only[R.bind_ok,mk,qD,zI,zJ];exact zn (λ n=>by unfold D.bnd;exact zP (λ d hd n=>by obtain⟨x,_,rfl⟩:=au.mp hd;exact x.t_bnd _ n) n) (by nofun)
section
variable {P:Pr} [HasC P "FREE" (.int 0)] [HasC P "SOME" (.int 1)] [HasC P "UNBOUND" (.int 2)] [HasC P "NONE" (.int 3)] [HasC P "LETTERS" (.tp ax5)] [Has P ag4] [Has P af3] [Has P ag3] [HasL P ac6] [Has P ae7] [Has P af0] [Has P aa9] [Has P ab5] [Has P aa4] [HasL P aa2] [Has P af5] [HasL P ab2] [Has P ab8] [HasL P aa6] [Has P aa8] [Has P ac5] [Has P aa5] [HasL P aa3] [Has P ac2] [Has P ad5] [Has P ad0] [HasL P ab1]
 [Has P ae3] [Has P ac9] [Has P ae8] [Has P ad7] [Has P ag0] [Has P aa7] [Has P ab0] [Has P ab7] [Has P ac4]
variable [HasC P "MOST_STEPS_makings" (.int 100)] [Has P af9]
def ay9  n (Y:m.Ok)(h:Mks m l fs)(h1:1<=l.length)(h2:l.length<=100)(hs:s.all O.ncl=cn) :
  (aa0 P (n+8)).call "signs_made" [m.d,.tp (l.map Stp.d)] s=.ok (.ref s.length) (s++[.J (zG m.R fs)]):=by
 have Z:(aa0 P (n+8)).call "signs_made" [m.d,.tp (l.map Stp.d)] s=_:=zb af9 rfl;rw[Z,show(aO aT [m.d,D.tp (l.map Stp.d)]++ak af9.vs bY)=[aT m.d,aT (.tp (l.map Stp.d)),bY,bY]from rfl];simp -implicitDefEqProofs only[af9]
 simp -implicitDefEqProofs only[za,zl,zW,z5,ex_for,zd,zw,ev_not,ev_or,ev_lst,ev_bi,zq,zo,evI_seq,zy,R.bind_ok,zg,zC,zx,ze,zh,Option.map_some,zt,zm,le_int,qD,zD,if_true,if_false,Bool.false_eq_true,decide_true,Bool.not_true,at2,at1,ar,as9,js (v:=.int 100),show((1:Int)<=(l.length:Int))=True from eq_true (by lia),show((l.length:Int)<=100)=True from eq_true (by lia),ao4]
 have key:=an9 (ok:=λ s1=>chk (s++[O.J []]) s1 []) (g:=turn (aa0 P (n+7)) (.Y 3) (.cons (.ex (.me .append (.X 2) (.cons (.call "signs_of_step" (.ex (.X 0) (.ex (.X 3) (.ex (.X 2) .nil)))) .nil))) .nil)) (λ k U t=>t=s++[.J (zG m.R (fs.take k))]/\∃ x,U=[aT m.d,aT (.tp (l.map Stp.d)),aT (.ref s.length),x]) (l.map Stp.d) 0 [aT m.d,aT (.tp (l.map Stp.d)),aT (.ref s.length),bY] (s++[O.J []]) ⟨rfl,_,rfl⟩ (λ _ _ _ _ _=>rfl) (by
  rintro k d U t hk ⟨rfl,x,rfl⟩
  rw[bB]at *;rw[ao,bL]at hk;obtain⟨y,hy,rfl⟩:=hk;obtain⟨f,J,G⟩:=h.at k y hy;have e1:=bW1 (P:=P) n Y (λ f J=>h.inG Y f (iK J)) G (s:=s++[.J (zG m.R (fs.take k))]) (p:=s.length) bv3 (z0 hs (show(O.J _).ncl=cn from ar7));have ha:meth .append (.ref s.length) [gd m.R f] (s++[.J (zG m.R (fs.take k))])=.ok .N (s++[.J (zG m.R (fs.take (k+1)))]):=by
   rw[qE (by unfold zG LIM;rw[ar,br];have:=h.len;lia),bg8 J]
  refine⟨_,_,.inl ?_,rfl,aT y.d,rfl⟩;unfold turn
  simp -implicitDefEqProofs only[za,zl,jD,zd,zR,qd,zq,zo,zz,zE,R.bind_ok,zg,zC,zx,ze,zh,Option.map_some,zm,zB,e1,ha])
 refine wl λ _ kk=>?_;obtain⟨U',t',ek,rfl,x,rfl⟩:=key;rw[bB,ar,h.len,bP]at ek;refine kk ?_;rw[ek]
 simp -implicitDefEqProofs only[za,zX,zd,R.bind_ok,ze,zh,zm,zI,zJ]
 exact qA (bx1 _)
end
noncomputable def Tl (L k:Nat):Stp->Prop
 | .let_ c=>97<=c/\c<97+L
 | .pair i j=>i<k/\j<k
 | .sharp _=>False
theorem Mks.tall :∀ N   l ,l.length=N->(∀ k x,l[k]?=aT x->Tl m.L k x)->∃ fs,Mks m l fs
 | 0,l,h,_=>by rw[cy.mp h];exact⟨[],.nil⟩
 | N+1,l,h,hx=>by
  obtain⟨a,x,rfl⟩:∃ a x,l=a++[x]:=⟨l.dropLast,l.getLast (by intro e;rw[e]at h;cases h),(List.dropLast_concat_getLast _).symm⟩
  rw[aN,c5]at h;obtain⟨fs,G⟩:=Mks.tall N a (by lia) λ k y e=>hx k y (by rw[ax (ab.mp e).1];exact e);have hl:=G.len;have:=hx a.length x (by rw[ag (ai _),dj];rfl);cases x with
  | let_ c=>exact⟨_,.let_ c G this.1 this.2⟩
  | pair i j=>exact⟨_,.pair i j _ _ G (ac (by have:=this.1;lia)) (ac (by have:=this.2;omega))⟩
  | sharp i=>exact this.elim
section
variable {P:Pr} [Has P af3] [Has P ae7] [Has P af0] [Has P aa9] [Has P jg] [Has P jK] [Has P ab5] [Has P aa4] [HasL P aa2] [Has P af5] [HasL P ab2] [Has P ab8] [HasL P aa6] [Has P ae0] [Has P ah5] [HasC P "product" (.fn "product")] [HasC P "power" (.fn "power")] [Has P ac0] [Has P ad4] [HasL P ab9] [Has P af1] [Has P zQ] [Has P aa8] [Has P ae6] [HasL P ad2] [HasL P ad3] [HasL P ad1] [Has P af6]
 [HasC P "MOST_WRITTEN" (.int 2000)] [Has P ai6] [Has P ae2] [HasC P "begun_times" (.fn "begun_times")] [Has P ag8] [HasL P af7] [HasL P af8] [Has P ag9]
 [Has P jh] [Has P jF] [Has P qr]
def am4.n (h:am4 l):bX3 l:=λ k i n e=>(h k _ e).2.1
variable [Has P ak3] [Has P ah4] [Has P ad9] [Has P ah9]
end
def aK4 (L:Nat)(l:List Stp):Prop:=∀ k x,l[k]?=aT x->Tl L k x
def aK4.nil {L}:aK4 L []:=λ k x h=>by cases h
def aK4.snoc {L}(h:aK4 L l)(hx:Tl L l.length x):aK4 L (l++[x]):=λ k y e=>by
 by_cases hk:k<l.length
 .rw[ax hk]at e;exact h k y e
 .have G:=(ab.mp e).1;simp at G;have:k=l.length:=by omega
  subst this;rw[ag (ai _),dj]at e;cases e;exact hx
def cB7 (s:Sto)(r L most:Nat)(x:R D):Prop:=∃ l   b ,aK4 L l/\1<=l.length/\l.length<=most/\x=.ok (.tp (l.map Stp.d)) (s.set r (qO b))
def bA3 [Has P ah4][Has P ah9] n {s}{r}(hs:∃ b,s[r]?=aT (qO b)){L}(a3:1<=L)(a2:L<=3) most (h0:1<=most)(hm:most<=100):cB7 s r L most ((aa0 P (n+2)).call "_law_tall" [.ref r,.int (L:Int),.int most] s):=by
 have e0:(aa0 P (n+2)).call "_law_tall" [.ref r,.int (L:Int),.int most] s=_:=zb ah9 (n:=n+1) rfl;have body:ah9.body=.cons (.A (.Y 3) (.J (.cons (.tp (.cons (.K (.str [108,101,116,116,101,114])) (.cons (.ix (.K (.str [97,98,99])) (.call "_law_draw" (.ex (.X 0) (.ex (.X 1) .nil)))) .nil))) .nil))) (.cons (.fo (.Y 4) (.rg (.call "_law_draw" (.ex (.X 0) (.ex (.X 2) .nil)))) cw3) (.cons (.ret (.mk .tuple (.seq (.X 3)))) .nil)):=rfl;have hr:=aU2 hs;refine wl λ _ kk=>?_;obtain⟨c,b1,hc,e1⟩:=jq (P:=P) n hs (L:Int) (by lia) (qJ (by lia));obtain⟨d,J,hd,e2⟩:=jr (P:=P) n (t:=[.J ([Stp.let_ (97+c)].map Stp.d)]) hr b1 most (by lia) (qJ (by lia));have key:=an9 (ok:=λ s1=>chk (s.set r (qO J)++[O.J ([Stp.let_ (97+c)].map Stp.d)]) s1 []) (g:=turn (aa0 P (n+1)) (.Y 4) cw3) (λ k U t=>∃(l:List Stp) (b:Int) (x:Option D),aK4 L l/\l.length=k+1/\U=[aT (D.ref r),aT (.int (L:Int)),aT (.int (most:Int)),aT (.ref s.length),x]/\t=s.set r (qO b)++[.J (l.map Stp.d)]) (j4 0 (d:Int)) 0 [aT (D.ref r),aT (.int (L:Int)),aT (.int (most:Int)),aT (.ref s.length),bY] (s.set r (qO J)++[O.J ([Stp.let_ (97+c)].map Stp.d)]) ⟨[.let_ (97+c)],J,bY,aK4.nil.snoc (x:=.let_ (97+c)) ⟨by lia,by lia⟩,rfl,rfl,rfl⟩ (λ _ _ _ _ _=>rfl) (by
  rintro k dd U t hk ⟨l,b,x,hl,hlk,rfl,rfl⟩
  have a1:=(qG hk).1;rw[(qG hk).2];rw[bB]at hlk ⊢;have a0:(if(1:Int)<(k:Int)then(1:Int)else(k:Int))+1=((min k 1+1:Nat):Int):=by lia
  obtain⟨q,G,hq,f1⟩:=jr (P:=P) n (t:=[.J (l.map Stp.d)]) hr b ((min k 1+1:Nat):Int) (by lia) (qJ (by omega));have Z:(k:Int) - (q:Int)=((k - q:Nat):Int):=by lia
  have ap:∀ v,meth .append (.ref s.length) [v] (s.set r (qO G)++[.J (l.map Stp.d)])=.ok .N (s.set r (qO G)++[.J (l.map Stp.d++[v])]):=λ v=>bN1 (by unfold LIM;rw[ar];lia);refine⟨[aT (D.ref r),aT (.int (L:Int)),aT (.int (most:Int)),aT (.ref s.length),aT (.int (k:Int))],s.set r (qO G)++[.J ((l++[Stp.pair k (k - q)]).map Stp.d)],.inl ?_,l++[Stp.pair k (k - q)],G,_,hl.snoc (x:=.pair k (k - q)) ⟨by lia,by lia⟩,by simp[hlk],rfl,rfl⟩;unfold turn cw3;simp -implicitDefEqProofs only[zg,zC,zx,az,za,zl,jD,qd,zB,zo,zq,jE,zw,qk,zy,zd,qg,zR,zE,zz,ev_bi,ze,zh,R.bind_ok,jR,add_int,a0,f1,sub_int,Z,ap,zm,bO];rw[bt8 (l:=l.map Stp.d) (m:=l.map Stp.d) (by rw[ag (by simp)];simp) (by rw[ag (by simp)];simp)];rfl)
 obtain⟨U',s',ek,l,b,x,hl,hlk,rfl,rfl⟩:=key;rw[zZ,bB]at hlk;have Y:(s.set r (qO b)++[O.J (l.map Stp.d)])[s.length]?=aT (.J (l.map Stp.d)):=by rw[ag (by simp)];simp
 refine kk ⟨l,b,hl,by lia,by lia,?_⟩;rw[e0,body,show(aO aT [D.ref r,.int (L:Int),.int most]++ak ah9.vs bY)=[aT (D.ref r),aT (.int (L:Int)),aT (.int (most:Int)),bY,bY]from rfl];simp -implicitDefEqProofs only[za,zl,zW,ev_lst,zo,zq,jE,zw,qk,qa,zR,zE,zz,zd,ze,zh,R.bind_ok,e1,bt5 (show c<3 by lia),qD,bE,zg,zC,zx,az,zt,zm,ex_for,qC];have h:[Stp.let_ (97+c)].map Stp.d=[D.tp [.str [108,101,116,116,101,114],.str [97+c]]]:=by simp only[aJ,dg,Stp.d]
 rw[h]at e2 ek;rw[e2];simp -implicitDefEqProofs only[R.bind_ok];rw[z6 (by unfold Ww62;lia) (by unfold Ww62;lia)];simp -implicitDefEqProofs only[R.bind_ok];rw[ek];simp -implicitDefEqProofs only[R.bind_ok,zm,za,zl,zX,ev_mk,evL_seq,zd,ze,zh,bf1,Y,mk,zI,zJ];refine av7 (λ m=>?_) (by nofun) rfl;unfold D.bnd;exact zP (λ x hx n=>by obtain⟨y,_,rfl⟩:=au.mp hx;exact y.bnd n) m
def Mks.led (Z:m.Ok)(h:Mks m l fs)(G:l.length<=100)(J:1<=c)(Y:c<=10^30):am4 (l.map (Stp.r c)):=λ k x e=>by
 rw[ao,bL]at e;obtain⟨y,hy,rfl⟩:=e;have ho:=h.ok G k y hy;obtain⟨f,_,hs⟩:=h.at k y hy;have:=Z.L3;cases y with
 | let_ x=>exact⟨hs.1,by have:=hs.2.1;lia⟩
 | pair i j=>exact⟨ho.1,ho.2.1⟩
 | sharp i=>exact⟨ho.1,J,Y⟩
noncomputable def cr6:Ss:=(.cons (.ite (.Z .ne (.call "long_signs" (.ex (.X 3) (.ex (.X 7) (.ex (.X 6) .nil)))) (.tp (.cons (.ix (.call "signs_made" (.ex (.X 3) (.ex (.X 4) .nil))) (.neg (.K (.int 1)))) (.cons (.ix (.call "weights" (.ex (.X 3) (.ex (.X 4) .nil))) (.neg (.K (.int 1)))) .nil)))) (.cons (.ret (.K (.T dt))) .nil) .nil) .nil)
def co7:Ss:=(.cons (.A (.Y 7) (.call "_law_led" (.ex (.X 4) (.ex (.G .mul (.G .add (.X 6) (.K (.int 1))) (.ix (.X 3) (.K (.int 1)))) .nil)))) (.cons (.ite (.notB (.call "is_recipe" (.ex (.X 7) .nil)) cn) (.cons (.ret (.K (.T dt))) .nil) .nil) (.cons (.A (.Y 8) (.call "long_length" (.ex (.X 7) .nil))) (.cons (.ite (.Z .ne (.X 8) (.ix (.call "lengths" (.ex (.X 3) (.ex (.X 4) (.ex (.X 6) .nil)))) (.neg (.K (.int 1))))) (.cons (.ret (.K (.T dt))) .nil) .nil) (.cons (.ite (.Z .ne (.call "long_table" (.ex (.X 3) (.ex (.X 7) .nil))) (.call "table_unrolled" (.ex (.X 3) (.ex (.X 4) (.ex (.X 6) .nil))))) (.cons (.ret (.K (.T dt))) .nil) .nil) (.cons (.ite (.and (.Z .le (.X 8) (.K (.int 2000))) (.Z .ne (.call "long_word" (.ex (.X 7) .nil)) (.call "word_unrolled" (.ex (.X 3) (.ex (.X 4) (.ex (.X 6) .nil)))))) (.cons (.ret (.K (.T dt))) .nil) .nil) cr6))))))
noncomputable def co8:S:=(.ite (.Z .eq (.call "_law_draw" (.ex (.X 2) (.ex (.K (.int 8)) .nil))) (.K (.int 3))) (.cons (.A (.Y 4) (.call "_law_tall" (.ex (.X 2) (.ex (.ix (.X 3) (.K (.int 0))) (.ex (.K (.int 60)) .nil))))) .nil) .nil)
noncomputable def cv9:S:=(.ite (.or (.Z .gt (.X 1) (.K (.int 0))) (.Z .gt (.ix (.X 3) (.K (.int 1))) (.K (.int 3)))) (.cons (.A (.Y 5) (.G .mod (.X 5) (.K (.int 1000)))) .nil) .nil)
def cu3:S:=(.fo (.Y 6) (.seq (.J (.cons (.call "_law_draw" (.ex (.X 2) (.ex (.K (.int 4)) .nil))) (.cons (.X 5) .nil)))) co7)
def ch9:ah8.body=(.cons (.fo (.Y 1) (.rg (.G .add (.bi .min2 (.cons (.K (.int 2)) (.cons (.bi .len (.cons (.X 0) .nil)) .nil))) (.K (.int 1)))) (.cons (.A (.Y 2) (.call "_law_box" (.ex (.X 0) (.ex (.X 1) .nil)))) (.cons (.A (.Y 3) (.call "_law_machine" (.ex (.X 2) .nil))) (.cons (.A (.Y 4) (.ix (.call "_law_makings" (.ex (.X 2) (.ex (.X 3) (.ex (.K (.int 10)) (.ex (.K (.int 4)) .nil))))) (.K (.int 0)))) (.cons co8 (.cons (.A (.Y 5) (.call "_law_draw" (.ex (.X 2) (.ex (.G .pow (.K (.int 10)) (.K (.int 29))) .nil)))) (.cons cv9 (.cons cu3 .nil)))))))) (.cons (.ret (.K (.T cn))) .nil)):=rfl
section
variable {P:Pr} [Has P af0] [Has P af4] [Has P ai6] [Has P ae2] [Has P ae6] [Has P ab5] [Has P ac0] [Has P af3] [Has P ag0] [Has P ae8] [Has P aa7] [Has P ab0] [Has P ag7] [Has P ab7] [Has P ac2] [Has P ai2] [Has P af2] [Has P ac9] [Has P ae3] [Has P ad4] [Has P ag8] [Has P ae7] [Has P ah6] [Has P aa4] [Has P ad7] [Has P af6] [Has P ag6] [Has P af1] [Has P ag9] [Has P af5] [Has P ad6] [Has P ah5] [Has P ab8] [Has P ae0] [Has P ag3] [Has P aa9] [Has P ad5] [Has P ad0] [Has P ag4] [Has P ae5] [Has P aa5] [Has P af9] [Has P ac3] [Has P ac4] [Has P ac7] [Has P ac1] [Has P ac8] [Has P ae4] [Has P ah7] [Has P ac5] [Has P aa8] [Has P ae1] [Has P ak3] [Has P ah4] [Has P ah8] [Has P aj9] [Has P ab4] [Has P ad9] [Has P ah1] [Has P ab6] [Has P ag5] [Has P ah9] [HasL P ad2] [HasL P ad3] [HasL P ad1] [HasL P ab9] [HasL P af7] [HasL P af8] [HasL P aa2] [HasL P ag1] [HasL P ag2] [HasL P ab2] [HasL P ab3] [HasL P aa6] [HasL P ac6] [HasL P ab1] [HasL P aa3] [HasC P "FREE" (.int 0)] [HasC P "LETTERS" (.tp ax5)] [HasC P "LETTER_WEIGHT" (.int 3)] [HasC P "MOST_STEPS_longwords" (.int 60)] [HasC P "MOST_STEPS_makings" (.int 100)] [HasC P "MOST_WRITTEN" (.int 2000)] [HasC P "NONE" (.int 3)] [HasC P "SOME" (.int 1)] [HasC P "UNBOUND" (.int 2)] [HasC P "begun_times" (.fn "begun_times")] [HasC P "power" (.fn "power")] [HasC P "product" (.fn "product")] [HasC P "sign_product" (.fn "sign_product")] [HasC P "signs_of_pair" (.fn "signs_of_pair")]
def bb8  n (G:l.length<=500)(Y:1<=l.length)(hk:am4 l)(hs:s.all O.ncl=cn) :
  (aa0 P (n+4)).call "long_length" [.tp (l.map Rst.d)] s=.ok (.int (((qy l).getD (l.length - 1) 0))) s:=by
 have J:(aa0 P (n+4)).call "long_length" [.tp (l.map Rst.d)] s=_:=zb af6 rfl;have e1:=aS0 (P:=P) n G hk hs;have hq:(s++[O.J (qF (qy l))])[s.length]?=aT (.J (qF (qy l))):=by rw[ag (ai _)];simp
 have h:=jT l.length (ai _);rw[bP]at h;have y:ixM (.ref s.length) (.int (-1)) (s++[O.J (qF (qy l))])=.ok (.int (((qy l).getD (l.length - 1) 0))) (s++[O.J (qF (qy l))]):=jy hq (by
  unfold qF;rw[ar,h,ao,ay,ac (by lia)];rfl)
 rw[J,show(aO aT [D.tp (l.map Rst.d)]++ak af6.vs bY)=[aT (D.tp (l.map Rst.d))]from rfl];simp -implicitDefEqProofs only[af6,za,zX,qa,zR,zE,zz,zd,zw,zy,ze,R.bind_ok,e1,j8,y,zJ];exact zT (λ _=>rfl) (by nofun)
set_option tactic.hygienic true in
def bM2  n (hn:u.all O.ncl=cn)(y:m.Ok)(h:Mks m l fs)(hl:l.length<=60)(h1:1<=l.length)(hq:(q+1)*m.R<=10^30) x0 x1 x2 x5 x8  :
  ∃ T,T.all O.ncl=cn/\exs (aa0 P (n+10)) cr6 [x0,x1,x2,aT m.d,aT (.tp (l.map Stp.d)),x5,aT (.int (q)),aT (.tp ((l.map (Stp.r ((q+1)*m.R))).map Rst.d)),x8] u=.ok (.next [x0,x1,x2,aT m.d,aT (.tp (l.map Stp.d)),x5,aT (.int (q)),aT (.tp ((l.map (Stp.r ((q+1)*m.R))).map Rst.d)),x8]) (u++T):=by
 have J:1<=(q+1)*m.R:=iO (by lia) y.R1;have hL:=h.led y (by lia) J hq;have Z:(l.map (Stp.r ((q+1)*m.R))).length=l.length:=ar ..;have e9:=aF4 (P:=P) n y (by lia) (by lia) hL q hn;obtain⟨f,hf,E1,E2⟩:=cs3 y h (by lia) (l.length - 1) (by omega);rw[Z,show SD m.R (sw m ((q+1)*m.R) (l.map (Stp.r ((q+1)*m.R))) (l.length - 1))=SD m.R (f,(vl 3 2 l).getD (l.length - 1) 0)by unfold SD;rw[al6 E1,E2]]at e9;have a1:=ay9 (P:=P) (n+2) y h h1 (by omega) hn;have a0:=h.len;have is:=jy (bv3 (s:=u) (o:=.J (zG m.R fs))) (d:=gd m.R f) (by unfold zG;rw[ar,<-a0];exact jn hf);have n2:=z0 hn (show(O.J (zG m.R fs)).ncl=cn from ar7);have G:=aZ2 (P:=P) (n+6) (l:=l) (by lia) (h.ok (by lia)) n2 m;have Y:(vl 3 2 l).length=l.length:=by have:=aq1 (a:=3) (c:=2) (l:=l) l.length (ai _);rw[bP]at this;exact this
 have iw:=jy (bv3 (s:=u++[O.J (zG m.R fs)]) (o:=.J (av3 (vl 3 2 l)))) (d:=.int ((vl 3 2 l).getD (l.length - 1) 0)) (by
  unfold av3;rw[ar,Y,ao,ay,ac (by lia)];rfl)
 refine⟨[O.J (zG m.R fs),O.J (av3 (vl 3 2 l))],by rw[cA,show(O.J (zG m.R fs)).ncl=cn from ar7,cA,show(O.J (av3 (vl 3 2 l))).ncl=cn from ar9];rfl,?_⟩;rw[show u++[O.J (zG m.R fs),O.J (av3 (vl 3 2 l))]=u++[O.J (zG m.R fs)]++[O.J (av3 (vl 3 2 l))]by simp];have ne:∀ s:Sto,qp .ne (SD m.R (f,(vl 3 2 l).getD (l.length - 1) 0)) (.tp [gd m.R f,.int ((vl 3 2 l).getD (l.length - 1) 0)]) s=.ok (.T dt) s:=λ s=>ct8 (v:=(f,(vl 3 2 l).getD (l.length - 1) 0));generalize (l.map (Stp.r ((q+1)*m.R))).map Rst.d=LD at *;generalize u++[O.J (zG m.R fs)]=u2 at *;generalize u2++[O.J (av3 (vl 3 2 l))]=u3 at *;unfold cr6
 simp -implicitDefEqProofs only[za,zl,z5,zX,zd,zw,zK,jE,qa,zR,zq,zo,zz,zE,Cn_bl,R.bind_ok,ze,zh,zm,zI,zD,if_false,Bool.false_eq_true,e9,a1,j8,is,G,iw,ne]
set_option tactic.hygienic true in
def bK5  n (hn:u.all O.ncl=cn)(y:m.Ok)(h:Mks m l fs)(hl:l.length<=60)(h1:1<=l.length)(hq:(q+1)*m.R<=10^30) x0 x1 x2 x5 x7 x8  :
  ∃ T   y7 y8 ,T.all O.ncl=cn/\exs (aa0 P (n+10)) co7 [x0,x1,x2,aT m.d,aT (.tp (l.map Stp.d)),x5,aT (.int (q)),x7,x8] u=.ok (.next [x0,x1,x2,aT m.d,aT (.tp (l.map Stp.d)),x5,aT (.int (q)),y7,y8]) (u++T):=by
 have hR:=y.R5;have a0:1<=(q+1)*m.R:=iO (by omega) y.R1;have a3:=am (gM _ y.R1) hq;have ec:((q:Int)+1)*(m.R:Int)=(((q+1)*m.R:Nat):Int):=by rw[dH];rfl
 have mo:mulOk ((q:Int)+1) (m.R:Int)=true:=an7 (by omega);have hk:=h.ok (by omega);have Y:=h.led y (by omega) a0 hq;have G:(l.map (Stp.r ((q+1)*m.R))).length=l.length:=ar ..;have e1:=bP3 (P:=P) (n+9) (l:=l) (by lia) ((q+1)*m.R) u;have e2:=ba4 (P:=P) (n+5) Y (by omega) (by lia) u;have e3:=bb8 (P:=P) (n+6) (by lia) (by omega) Y hn;rw[<-ce4 Y _ (by lia),G]at e3;have e4:=bd8 (P:=P) (n+6) (by omega) hk hn y (q:=(q:Int)) (by lia) (by lia);rw[ec]at e4;have Z:=aq1 (a:=1) (c:=(((q+1)*m.R:Nat):Int)) (l:=l) l.length (ai _);rw[bP]at Z;have J:=cq0 hk ((q+1)*m.R) (l.length - 1) (by lia);have il:ixM (.ref u.length) (.int (-1)) (u++[O.J (av3 (vl 1 (((q+1)*m.R:Nat):Int) l))])=.ok (.int ((wd (l.map (Stp.r ((q+1)*m.R))) (l.length - 1)).length:Int)) (u++[O.J (av3 (vl 1 (((q+1)*m.R:Nat):Int) l))]):=jy bv3 (by
  rw[<-J];unfold av3;rw[ar,Z,ao,ay,ac (by lia)];rfl)
 have nT:(u++[O.J (av3 (vl 1 (((q+1)*m.R:Nat):Int) l))]).all O.ncl=true:=z0 hn (show(O.J _).ncl=cn from ar9);have e5:=aG3 (P:=P) (n+1) y (by lia) (by lia) Y.b nT;rw[G]at e5;have e6:=ao2 (P:=P) (n+1) (l:=l) (by lia) h1 hk y q nT;have e7:(wd (l.map (Stp.r ((q+1)*m.R))) (l.length - 1)).length<=2000->_:=λ hw=>aJ0 (P:=P) (n+5) (l:=l.map (Stp.r ((q+1)*m.R))) (by omega) (by omega) Y.b Y.n nT (by rw[G];exact hw);rw[G]at e7;have e8:(wd (l.map (Stp.r ((q+1)*m.R))) (l.length - 1)).length<=2000->_:=λ hw=>aq4 (P:=P) (n+5) (l:=l) (by omega) h1 hk y q nT hw;obtain⟨T,hT,e9⟩:=bM2 (P:=P) n nT y h hl h1 hq x0 x1 x2 x5 (aT (.int ((wd (l.map (Stp.r ((q+1)*m.R))) (l.length - 1)).length:Int)));refine⟨O.J (av3 (vl 1 (((q+1)*m.R:Nat):Int) l))::T,aT (.tp ((l.map (Stp.r ((q+1)*m.R))).map Rst.d)),aT (.int ((wd (l.map (Stp.r ((q+1)*m.R))) (l.length - 1)).length:Int)),by rw[cA,hT,show(O.J (av3 (vl 1 (((q+1)*m.R:Nat):Int) l))).ncl=cn from ar9];rfl,?_⟩;rw[show u++O.J (av3 (vl 1 (((q+1)*m.R:Nat):Int) l))::T=u++[O.J (av3 (vl 1 (((q+1)*m.R:Nat):Int) l))]++T by simp];generalize wd (l.map (Stp.r ((q+1)*m.R))) (l.length - 1)=Ww at *;generalize (l.map (Stp.r ((q+1)*m.R))).map Rst.d=LD at *;have eB:ev (aa0 P (n+10)) (.notB (.call "is_recipe" (.ex (.X 7) .nil)) cn) [x0,x1,x2,aT m.d,aT (.tp (l.map Stp.d)),x5,aT (.int (q:Int)),aT (.tp LD),x8] u=.ok (.T dt) u:=bM9 (c:=cn) (by simp -implicitDefEqProofs only[zd,zR,zz,zE,R.bind_ok,ze,zh,e2]);generalize u++[O.J (av3 (vl 1 (((q+1)*m.R:Nat):Int) l))]=u1 at *;unfold co7;by_cases hw:((Ww.length:Int)<=2000)
 .have a2:=e7 (by lia);have a1:=e8 (by omega)
  simp -implicitDefEqProofs only[za,zl,zW,z5,zX,zd,zw,qg,zK,ev_and,qa,zR,zz,zE,Cn_bl,zy,R.bind_ok,zg,zC,zx,ze,zh,Option.map_some,zt,zm,zI,add_int,le_int,ne_int,zD,if_true,if_false,Bool.false_eq_true,decide_true,Bool.not_true,ixR,ah2 mo,ec,e1,eB,e3,e4,j8,il,e5,e6,bE4,hw,a2,a1,aD3,e9]
 .simp -implicitDefEqProofs only[za,zl,zW,z5,zX,zd,zw,qg,zK,ev_and,qa,zR,zz,zE,Cn_bl,zy,R.bind_ok,zg,zC,zx,ze,zh,Option.map_some,zt,zm,zI,add_int,le_int,ne_int,zD,if_false,Bool.false_eq_true,decide_true,decide_false,Bool.not_true,ixR,ah2 mo,ec,e1,eB,e3,e4,j8,il,e5,e6,bE4,hw,e9]
set_option tactic.hygienic true in
def bM6  n (h:Gx ns r u)(hm:m.Ok)(hk:Mks m l fs)(hl:l.length<=60)(h1:1<=l.length) x0 x1 x5 x6 x7 x8  :
  ∃(y:List Stp) (G:List (Nat->Nat->Int)) (u':Sto),y.length<=60/\1<=y.length/\Mks m y G/\Gx ns r u'/\ex (aa0 P (n+2)) co8 [x0,x1,aT (.ref r),aT m.d,aT (.tp (l.map Stp.d)),x5,x6,x7,x8] u=.ok (.next [x0,x1,aT (.ref r),aT m.d,aT (.tp (y.map Stp.d)),x5,x6,x7,x8]) u':=by
 obtain⟨q,b1,hq,e1⟩:=jq (P:=P) (n+1) h.box 8 (by decide) (by decide);have h2:=h.put b1;by_cases h3:(q:Int)=3
 .refine wl λ _ kk=>?_;obtain⟨y,b,Z,a0,Y,e2⟩:=bA3 (P:=P) n h2.box hm.L1 hm.L3 60 (by decide) (by decide);obtain⟨G,J⟩:=Mks.tall y.length y rfl Z;refine kk ⟨y,G,_,Y,a0,J,h2.put b,?_⟩;rw[show((60:Nat):Int)=60 from rfl]at e2;unfold co8
  simp -implicitDefEqProofs only[za,zl,zW,z5,zd,zw,zK,qa,zR,zz,zE,zy,R.bind_ok,zg,zC,zx,ze,zh,Option.map_some,zt,zm,jZ,zD,if_true,decide_true,e1,h3,ixL,e2]
 .refine⟨l,fs,_,hl,h1,hk,h2,?_⟩;unfold co8
  simp -implicitDefEqProofs only[za,zl,zW,z5,zd,zw,zK,qa,zR,zz,zE,zy,R.bind_ok,zg,zC,zx,ze,zh,Option.map_some,zt,jZ,zD,if_false,Bool.false_eq_true,decide_false,e1,h3]
set_option tactic.hygienic true in
def bL4 {m:Mc}(hm:m.Ok)(j:Nat){q:Nat}(hq:q<10^29) u  x0 y Y J G x8 :∃ g:Nat,(g+1)*m.R<=10^30/\ex F cv9 [x0,aT (.int (j:Int)),y,aT m.d,Y,aT (.int (q:Int)),J,G,x8] u=.ok (.next [x0,aT (.int (j:Int)),y,aT m.d,Y,aT (.int (g:Int)),J,G,x8]) u:=by
 have h:∀ u:Sto,qZ .mod (.int (q:Int)) (.int 1000) u=.ok (.int ((q % 1000:Nat):Int)) u:=λ u=>by rw[jw (by decide)];rfl
 have Z:(q % 1000+1)*m.R<=10^30:=am (fU (show q % 1000+1<=1000 by lia) hm.R5) (by decide);unfold cv9;by_cases g:(0:Int)<(j:Int)
 .exact⟨q % 1000,Z,by simp -implicitDefEqProofs only[za,zl,zW,z5,zd,zw,qg,zK,ev_or,qa,zy,R.bind_ok,zg,zC,zx,ze,zh,Option.map_some,zt,zm,gt_int,zD,if_true,decide_true,g,h]⟩
 .by_cases g3:(3:Int)<(m.R:Int)
  .exact⟨q % 1000,Z,by simp -implicitDefEqProofs only[za,zl,zW,z5,zd,zw,qg,zK,ev_or,qa,zy,R.bind_ok,zg,zC,zx,ze,zh,Option.map_some,zt,zm,gt_int,zD,if_true,if_false,Bool.false_eq_true,decide_true,decide_false,g,ixR,g3,h]⟩
  .exact⟨q,am (fU (show q+1<=10^29 by lia) (show m.R<=3 by lia)) (by decide),by simp -implicitDefEqProofs only[za,zl,zW,z5,zd,zw,qg,zK,ev_or,qa,zy,R.bind_ok,zg,zC,zx,ze,zh,Option.map_some,zt,gt_int,zD,if_false,Bool.false_eq_true,decide_false,g,ixR,g3]⟩
set_option tactic.hygienic true in
def bN5  n (h:Gx ns r u)(Z:m.Ok)(hk:Mks m l fs)(hl:l.length<=60)(h1:1<=l.length)(hq:(q+1)*m.R<=10^30) x0 x1 x6 x7 x8  :
  ∃(u':Sto) (Y J G:Option D),Gx ns r u'/\ex (aa0 P (n+10)) cu3 [x0,x1,aT (.ref r),aT m.d,aT (.tp (l.map Stp.d)),aT (.int (q:Int)),x6,x7,x8] u=.ok (.next [x0,x1,aT (.ref r),aT m.d,aT (.tp (l.map Stp.d)),aT (.int (q:Int)),Y,J,G]) u':=by
 refine wl λ _ kk=>?_;obtain⟨y,b1,a3,e1⟩:=jq (P:=P) (n+9) h.box 4 (by decide) (by decide);have a0:(y+1)*m.R<=10^30:=am (fU (show y+1<=4 by lia) Z.R5) (by decide);have G1:=(h.put b1).snoc (o:=.J [.int (y:Int),.int (q:Int)]) rfl;generalize u.set r (qO b1)=V at e1 G1;have a2:ay0 (.ref V.length) (V++[O.J [.int (y:Int),.int (q:Int)]])=.ok ⟨[.int (y:Int),.int (q:Int)],[V.length]⟩ (V++[O.J [.int (y:Int),.int (q:Int)]]):=by simp only[ay0,bv3]
 have key:=an9 (ok:=λ s1=>chk (V++[O.J [.int (y:Int),.int (q:Int)]]) s1 [V.length]) (g:=turn (aa0 P (n+10)) (.Y 6) co7) (λ k U t=>∃(T:Sto) (Y J G:Option D),T.all O.ncl=cn/\U=[x0,x1,aT (.ref r),aT m.d,aT (.tp (l.map Stp.d)),aT (.int (q:Int)),Y,J,G]/\t=V++[O.J [.int (y:Int),.int (q:Int)]]++T) [.int (y:Int),.int (q:Int)] 0 [x0,x1,aT (.ref r),aT m.d,aT (.tp (l.map Stp.d)),aT (.int (q:Int)),x6,x7,x8] (V++[O.J [.int (y:Int),.int (q:Int)]]) ⟨[],_,_,_,rfl,rfl,by simp⟩ (by
   rintro _ _ _ _ ⟨T,_,_,_,_,_,rfl⟩
   simp only[chk,cA,fC,du,iN];rw[ax (by simp)]) (by
   rintro j d U t hj ⟨T,Y,J,G,hT,rfl,rfl⟩
   have hd:∃ p:Nat,(p+1)*m.R<=10^30/\d=.int (p:Int):=by
    have Z:=aC hj;simp only[aL,cK,or_false]at Z;rcases Z with rfl|rfl
    .exact⟨y,a0,rfl⟩
    .exact⟨q,hq,rfl⟩
   refine wl λ _ kk=>?_;obtain⟨p,hp,rfl⟩:=hd;have G2:=G1.more hT;obtain⟨T',z7,z8,a1,e⟩:=bK5 (P:=P) n G2.ncl Z hk hl h1 hp x0 x1 (aT (.ref r)) (aT (.int (q:Int))) J G;refine kk ⟨_,V++[O.J [.int (y:Int),.int (q:Int)]]++T++T',.inl ?_,T++T',aT (.int (p:Int)),z7,z8,by rw[da,hT,a1];rfl,rfl,by rw[cb]⟩;unfold turn;simp -implicitDefEqProofs only[zg,zC,zx,az];exact e)
 obtain⟨U',t',ek,T,Y,J,G,hT,rfl,rfl⟩:=key;refine kk ⟨_,Y,J,G,G1.more hT,?_⟩;unfold cu3;simp -implicitDefEqProofs only[ex_for,evI_seq,ev_lst,zo,zq,zR,zE,zz,zd,zw,zy,ze,zh,R.bind_ok,e1,qD,a2];exact ek
def cr4  n :cu1 P (n+11):=by
 intro ns hl;have e0:(aa0 P (n+11)).call "law" [.ref 0] [.ro (ns.map D.int)]=_:=zb ah8 rfl;rw[e0,ch9,show(aO aT [D.ref 0]++ak ah8.vs bY)=[aT (.ref 0),bY,bY,bY,bY,bY,bY,bY,bY]from rfl];have a4:([.ro (ns.map D.int)]:Sto)[0]?=aT (.ro (ns.map D.int)):=rfl;have Y:bi .len [.ref 0] [.ro (ns.map D.int)]=.ok (.int ns.length) [.ro (ns.map D.int)]:=by rw[bI8 a4,ar]
 have hk:=by omega
 simp -implicitDefEqProofs only[za,ex_for,zd,zw,qg,ev_bi,zq,zo,qC,zy,R.bind_ok,ze,add_int,Y,jR,hk]
 rw[z6 (by unfold Ww62;lia) (by unfold Ww62;omega)];simp only[R.bind_ok];rw[R.bind_assoc];refine jl (λ j U t=>t[0]?=aT (.ro (ns.map D.int))/\t.all O.ncl=cn/\∃ x1 x2 x3 x4 x5 J G x8,U=[aT (.ref 0),x1,x2,x3,x4,x5,J,G,x8]) ⟨rfl,by
   simp only[cA,fC,du];exact ar9,_,_,_,_,_,_,_,_,rfl⟩ (λ _ _ _ _ _=>rfl) ?_ ?_
 .rintro j d U t hj ⟨ht,hn,x1,x2,x3,x4,x5,J,G,x8,rfl⟩
  have hd:=(qG hj).2;subst hd;have b0:=(ab.mp ht).1;obtain⟨N0,h⟩:=cf4 (P:=P) (n+9) ns j ht;have G0:Gx ns t.length (t++[qO N0]):=⟨jJ ht,z0 hn rfl,⟨_,bv3⟩,by lia⟩
  generalize t++[qO N0]=S at h G0;generalize t.length=r at h G0;obtain⟨m,b1,hm,em⟩:=aO5 (P:=P) (n+8) G0.box;have G1:=G0.put b1;obtain⟨l,fs,b2,T,p,a0,h1,h2,hp,hT,y⟩:=aY8 (P:=P) (n+8) G1.box hm 10 (by decide) (by decide) 4;have G3:=(G1.put b2).more hT;generalize (S.set r (qO b1)).set r (qO b2)++T=Uu at y G3;obtain⟨l',b3,u4,a1,a6,a3,G4,e4⟩:=bM6 (P:=P) (n+8) G3 hm a0 (by lia) h1 (aT (.ref 0)) (aT (.int (j))) x5 J G x8;obtain⟨q,b5,hq,e5⟩:=jq (P:=P) (n+9) G4.box (10^29) (by decide) (by decide);have G5:=G4.put b5;obtain⟨q',a2,e6⟩:=bL4 (F:=aa0 P (n+10)) hm j (q:=q) (by lia) (u4.set r (qO b5)) (aT (.ref 0)) (aT (.ref r)) (aT (.tp (l'.map Stp.d))) J G x8;obtain⟨u7,y6,y7,y8,G7,e7⟩:=bN5 (P:=P) n G5 hm a3 a1 a6 a2 (aT (.ref 0)) (aT (.int (j:Int))) J G x8;have Z:∀ s:Sto,qZ .pow (.int 10) (.int 29) s=.ok (.int (10^29)) s:=λ s=>aG0 (by decide);have a5:∀(a b:D) (s:Sto),ixM (.tp [a,b]) (.int 0) s=.ok a s:=λ _ _ _=>rfl;refine az0 (U:=[aT (.ref 0),aT (.int (j:Int)),aT (.ref r),aT m.d,aT (.tp (l'.map Stp.d)),aT (.int (q':Int)),y6,y7,y8]) (s:=u7) ?_ ⟨G7.scr,G7.ncl,_,_,_,_,_,_,_,_,rfl⟩;rw[show((10:Nat):Int)=10 from rfl]at y;unfold turn;simp -implicitDefEqProofs only[zg,zC,zx,az,za,zl,zW,qa,zR,zE,zz,zd,qg,ze,zh,R.bind_ok,h,em,zt,zm,zw,zy,y,a5,e4,Z,e5,e6,e7]
 .rintro U t ⟨ht,hn,x1,x2,x3,x4,x5,J,G,x8,rfl⟩
  simp -implicitDefEqProofs only[za,zX,zw,Cn_bl,R.bind_ok,zm,zI,zJ]
  exact bm4 _ _
end
end DV
end
noncomputable section
namespace My
open PySem L2
noncomputable def top (i:Nat):Stmt:=PySem.Challenge.pw_leasttolls_k43_whole_unrolled_words_are.main.body.getD i (.Pass ⟨0,0,0,0⟩)
def bW8:aI4 ["i", "j"]:=λ params h _ _ _ _ _ _ _ _ us hl=>by
 obtain⟨args,rfl,ha⟩:=jc h;revert us;refine bd2 ?_;intro G u1;rcases args with _|⟨⟨y,_,_⟩,_|⟨⟨J,_,_⟩,_|⟨_,_⟩⟩⟩
 all_goals simp only[aJ,dg,fw,and_true,and_false,reduceCtorEq]at ha
 obtain⟨rfl,rfl⟩:=ha;exact⟨rfl,λ _ _=>rfl⟩
def co3:aI4 ["letter"]:=λ params h _ _ _ _ _ _ _ _ us hl=>by
 obtain⟨args,rfl,ha⟩:=jc h;revert us;refine bd1 ?_;intro G;rcases args with _|⟨⟨y,_,_⟩,_|⟨_,_⟩⟩
 all_goals simp only[aJ,dg,fw,and_true,and_false,reduceCtorEq]at ha
 obtain rfl:=ha;exact⟨rfl,λ _ _=>rfl⟩
def cz4:aI4 ["one", "many"]:=λ params h _ _ _ _ _ _ _ _ us hl=>by
 obtain⟨args,rfl,ha⟩:=jc h;revert us;refine bd2 ?_;intro G u1;rcases args with _|⟨⟨y,_,_⟩,_|⟨⟨J,_,_⟩,_|⟨_,_⟩⟩⟩
 all_goals simp only[aJ,dg,fw,and_true,and_false,reduceCtorEq]at ha
 obtain⟨rfl,rfl⟩:=ha;exact⟨rfl,λ _ _=>rfl⟩
def cx3:aI4 ["one", "other"]:=λ params h _ _ _ _ _ _ _ _ us hl=>by
 obtain⟨args,rfl,ha⟩:=jc h;revert us;refine bd2 ?_;intro G u1;rcases args with _|⟨⟨y,_,_⟩,_|⟨⟨J,_,_⟩,_|⟨_,_⟩⟩⟩
 all_goals simp only[aJ,dg,fw,and_true,and_false,reduceCtorEq]at ha
 obtain⟨rfl,rfl⟩:=ha;exact⟨rfl,λ _ _=>rfl⟩
noncomputable def ah3:List Str:=["plain", "product", "letter_table", "reading", "plain_signs", "sign_product", "sharpened", "counted", "long_signs", "last_word", "last_table"]
abbrev s_letters_of:Stmt:=top 2
abbrev aA9:Stmt:=top 3
abbrev aA2:Stmt:=top 4
abbrev aB4:Stmt:=top 5
abbrev an0:Stmt:=top 6
abbrev s_is_letter:Stmt:=top 7
abbrev bE1:Stmt:=top 14
abbrev aX0:Stmt:=top 15
abbrev bu4:Stmt:=top 17
abbrev bf4:Stmt:=top 18
abbrev bn1:Stmt:=top 19
abbrev au1:Stmt:=top 20
abbrev aP6:Stmt:=top 21
abbrev s_letter_table:Stmt:=top 22
abbrev ap6:Stmt:=top 23
abbrev aH9:Stmt:=top 29
abbrev aJ2:Stmt:=top 30
abbrev an4:Stmt:=top 31
abbrev ai7:Stmt:=top 32
abbrev ao6:Stmt:=top 33
abbrev ap7:Stmt:=top 34
abbrev au8:Stmt:=top 36
abbrev aA4:Stmt:=top 37
abbrev av9:Stmt:=top 38
abbrev al2:Stmt:=top 39
abbrev aA7:Stmt:=top 43
abbrev s_is_letter_step:Stmt:=top 44
abbrev al0:Stmt:=top 45
abbrev aj8:Stmt:=top 46
abbrev ap1:Stmt:=top 47
abbrev ak1:Stmt:=top 48
abbrev aB3:Stmt:=top 49
abbrev aU6:Stmt:=top 50
abbrev aK8:Stmt:=top 51
abbrev aM4:Stmt:=top 52
abbrev ai4:Stmt:=top 54
abbrev aj4:Stmt:=top 55
abbrev ao5:Stmt:=top 56
abbrev aC0:Stmt:=top 59
abbrev aH3:Stmt:=top 60
abbrev bt6:Stmt:=top 61
abbrev aj0:Stmt:=top 62
abbrev au9:Stmt:=top 63
abbrev aq2:Stmt:=top 64
abbrev aj6:Stmt:=top 65
abbrev aj3:Stmt:=top 66
abbrev ak2:Stmt:=top 69
abbrev aL5:Stmt:=top 70
abbrev av1:Stmt:=top 71
abbrev am7:Stmt:=top 72
abbrev at4:Stmt:=top 73
abbrev ap2:Stmt:=top 74
abbrev aB2:Stmt:=top 76
abbrev ax8:Stmt:=top 77
abbrev ak9:Stmt:=top 78
abbrev ak8:Stmt:=top 79
abbrev s__law_letter_signs:Stmt:=top 80
abbrev ap4:Stmt:=top 81
abbrev al1:Stmt:=top 82
abbrev aB0:Stmt:=top 83
abbrev au6:Stmt:=top 84
abbrev aJ5:Stmt:=top 85
def tb:List (String×n9×Stmt):=[("letters_of",DV.ad7,s_letters_of),("rooms_of",DV.aa9,aA9),("doors_of",DV.ab5,aA2),("is_whole",DV.ae3,aB4),("is_tuple_of",DV.ac9,an0),("is_letter",DV.ae8,s_is_letter),("grid",DV.af3,bE1),("raised",DV.ae0,aX0),("least",DV.ae7,bu4),("added",DV.af0,bf4),("plain",DV.af5,bn1),("product",DV.ab8,au1),("power",DV.ah5,aP6),("letter_table",DV.aa4,s_letter_table),("word_table",DV.aa8,ap6),("sign_of",DV.ag4,aH9),("reading",DV.ag3,aJ2),("plain_signs",DV.ad6,an4),("sign_product",DV.aa5,ai7),("sign_power",DV.ae5,ao6),("word_signs",DV.ac5,ap7),("is_steady",DV.ac2,au8),("round_of",DV.ad5,aA4),("sharpened",DV.ad0,av9),("steady_power",DV.ac1,al2),("is_ahead",DV.ag0,aA7),("is_letter_step",DV.aa7,s_is_letter_step),("is_pair_step",DV.ab0,al0),("is_sharp_step",DV.ab7,aj8),("signs_made",DV.af9,ap1),("signs_of_step",DV.ac4,ak1),("as_times",DV.af4,aB3),("folded",DV.ac0,aU6),("counted",DV.ae6,aK8),("weights",DV.ah7,aM4),("signs_of_pair",DV.ac3,ai4),("signs_of_times",DV.ac7,aj4),("long_signs",DV.ag6,ao5),("unrolled",DV.ae4,aC0),("lengths",DV.ah6,aH3),("begun",DV.ai6,bt6),("begun_times",DV.ae2,aj0),("last_word",DV.ag8,au9),("last_table",DV.ad4,aq2),("word_unrolled",DV.ae1,aj6),("table_unrolled",DV.ac8,aj3),("is_times_step",DV.af2,ak2),("is_step",DV.ai2,aL5),("is_recipe",DV.ag7,av1),("long_length",DV.af6,am7),("long_word",DV.ag9,at4),("long_table",DV.af1,ap2),("_law_box",DV.ak3,aB2),("_law_draw",DV.ah4,ax8),("_law_product",DV.ab6,ak9),("_law_machine",DV.ad9,ak8),("_law_letter_signs",DV.ab4,s__law_letter_signs),("_law_sharp",DV.ag5,ap4),("_law_makings",DV.ah1,al1),("_law_led",DV.aj9,aB0),("_law_tall",DV.ah9,au6),("law",DV.ah8,aJ5)]
noncomputable def ct1:List (String×mM):=[("LETTERS",.tp [.str [97],.str [98],.str [99]]),("FREE",.int (0)),("SOME",.int (1)),("UNBOUND",.int (2)),("NONE",.int (3)),("MOST_STEPS_makings",.int (100)),("LETTER_WEIGHT",.int (3)),("MOST_WRITTEN",.int (2000)),("MOST_STEPS_longwords",.int (60)),("product",.fn "product"),("power",.fn "power"),("sign_product",.fn "sign_product"),("signs_of_pair",.fn "signs_of_pair"),("begun_times",.fn "begun_times")]
def cA5:List (String×n8):=[("plain.0",DV.ab2),("product.0",DV.aa6),("letter_table.least_fee",DV.aa2),("reading.0",DV.ac6),("plain_signs.0",DV.ab3),("sign_product.0",DV.aa3),("sharpened.0",DV.ab1),("counted.0",DV.ad2),("counted.1",DV.ad3),("counted.2",DV.ad1),("long_signs.0",DV.ag1),("long_signs.1",DV.ag2),("last_word.0",DV.af7),("last_word.1",DV.af8),("last_table.0",DV.ab9)]
noncomputable def tbl:List (String×n9):=tb.map λ p=>(p.1,p.2.1)
noncomputable def P:m7:=⟨λ f=>tbl.lookup f,λ f=>cA5.lookup f,λ x=>ct1.lookup x,λ _=>bY,λ _=>bY,λ _=>dt,λ _=>dt,λ _=>bY⟩
instance:DV.HasL P DV.ab2:=⟨rfl⟩
instance:DV.HasL P DV.aa6:=⟨rfl⟩
instance:DV.HasL P DV.aa2:=⟨rfl⟩
instance:DV.HasL P DV.ac6:=⟨rfl⟩
instance:DV.HasL P DV.ab3:=⟨rfl⟩
instance:DV.HasL P DV.aa3:=⟨rfl⟩
instance:DV.HasL P DV.ab1:=⟨rfl⟩
instance:DV.HasL P DV.ad2:=⟨rfl⟩
instance:DV.HasL P DV.ad3:=⟨rfl⟩
instance:DV.HasL P DV.ad1:=⟨rfl⟩
instance:DV.HasL P DV.ag1:=⟨rfl⟩
instance:DV.HasL P DV.ag2:=⟨rfl⟩
instance:DV.HasL P DV.af7:=⟨rfl⟩
instance:DV.HasL P DV.af8:=⟨rfl⟩
instance:DV.HasL P DV.ab9:=⟨rfl⟩
instance:DV.HasC P "LETTERS" (.tp [.str [97],.str [98],.str [99]]):=⟨rfl⟩
instance:DV.HasC P "FREE" (.int (0)):=⟨rfl⟩
instance:DV.HasC P "SOME" (.int (1)):=⟨rfl⟩
instance:DV.HasC P "UNBOUND" (.int (2)):=⟨rfl⟩
instance:DV.HasC P "NONE" (.int (3)):=⟨rfl⟩
instance:DV.HasC P "MOST_STEPS_makings" (.int (100)):=⟨rfl⟩
instance:DV.HasC P "LETTER_WEIGHT" (.int (3)):=⟨rfl⟩
instance:DV.HasC P "MOST_WRITTEN" (.int (2000)):=⟨rfl⟩
instance:DV.HasC P "MOST_STEPS_longwords" (.int (60)):=⟨rfl⟩
instance:DV.HasC P "product" (.fn "product"):=⟨rfl⟩
instance:DV.HasC P "power" (.fn "power"):=⟨rfl⟩
instance:DV.HasC P "sign_product" (.fn "sign_product"):=⟨rfl⟩
instance:DV.HasC P "signs_of_pair" (.fn "signs_of_pair"):=⟨rfl⟩
instance:DV.HasC P "begun_times" (.fn "begun_times"):=⟨rfl⟩
instance:DV.Has P DV.ad7:=⟨rfl⟩
instance:DV.Has P DV.aa9:=⟨rfl⟩
instance:DV.Has P DV.ab5:=⟨rfl⟩
instance:DV.Has P DV.ae3:=⟨rfl⟩
instance:DV.Has P DV.ac9:=⟨rfl⟩
instance:DV.Has P DV.ae8:=⟨rfl⟩
instance:DV.Has P DV.af3:=⟨rfl⟩
instance:DV.Has P DV.ae0:=⟨rfl⟩
instance:DV.Has P DV.ae7:=⟨rfl⟩
instance:DV.Has P DV.af0:=⟨rfl⟩
instance:DV.Has P DV.af5:=⟨rfl⟩
instance:DV.Has P DV.ab8:=⟨rfl⟩
instance:DV.Has P DV.ah5:=⟨rfl⟩
instance:DV.Has P DV.aa4:=⟨rfl⟩
instance:DV.Has P DV.aa8:=⟨rfl⟩
instance:DV.Has P DV.ag4:=⟨rfl⟩
instance:DV.Has P DV.ag3:=⟨rfl⟩
instance:DV.Has P DV.ad6:=⟨rfl⟩
instance:DV.Has P DV.aa5:=⟨rfl⟩
instance:DV.Has P DV.ae5:=⟨rfl⟩
instance:DV.Has P DV.ac5:=⟨rfl⟩
instance:DV.Has P DV.ac2:=⟨rfl⟩
instance:DV.Has P DV.ad5:=⟨rfl⟩
instance:DV.Has P DV.ad0:=⟨rfl⟩
instance:DV.Has P DV.ac1:=⟨rfl⟩
instance:DV.Has P DV.ag0:=⟨rfl⟩
instance:DV.Has P DV.aa7:=⟨rfl⟩
instance:DV.Has P DV.ab0:=⟨rfl⟩
instance:DV.Has P DV.ab7:=⟨rfl⟩
instance:DV.Has P DV.af9:=⟨rfl⟩
instance:DV.Has P DV.ac4:=⟨rfl⟩
instance:DV.Has P DV.af4:=⟨rfl⟩
instance:DV.Has P DV.ac0:=⟨rfl⟩
instance:DV.Has P DV.ae6:=⟨rfl⟩
instance:DV.Has P DV.ah7:=⟨rfl⟩
instance:DV.Has P DV.ac3:=⟨rfl⟩
instance:DV.Has P DV.ac7:=⟨rfl⟩
instance:DV.Has P DV.ag6:=⟨rfl⟩
instance:DV.Has P DV.ae4:=⟨rfl⟩
instance:DV.Has P DV.ah6:=⟨rfl⟩
instance:DV.Has P DV.ai6:=⟨rfl⟩
instance:DV.Has P DV.ae2:=⟨rfl⟩
instance:DV.Has P DV.ag8:=⟨rfl⟩
instance:DV.Has P DV.ad4:=⟨rfl⟩
instance:DV.Has P DV.ae1:=⟨rfl⟩
instance:DV.Has P DV.ac8:=⟨rfl⟩
instance:DV.Has P DV.af2:=⟨rfl⟩
instance:DV.Has P DV.ai2:=⟨rfl⟩
instance:DV.Has P DV.ag7:=⟨rfl⟩
instance:DV.Has P DV.af6:=⟨rfl⟩
instance:DV.Has P DV.ag9:=⟨rfl⟩
instance:DV.Has P DV.af1:=⟨rfl⟩
instance:DV.Has P DV.ak3:=⟨rfl⟩
instance:DV.Has P DV.ah4:=⟨rfl⟩
instance:DV.Has P DV.ab6:=⟨rfl⟩
instance:DV.Has P DV.ad9:=⟨rfl⟩
instance:DV.Has P DV.ab4:=⟨rfl⟩
instance:DV.Has P DV.ag5:=⟨rfl⟩
instance:DV.Has P DV.ah1:=⟨rfl⟩
instance:DV.Has P DV.aj9:=⟨rfl⟩
instance:DV.Has P DV.ah9:=⟨rfl⟩
instance:DV.Has P DV.ah8:=⟨rfl⟩
def aL7:DT ah3 P "letters_of" DV.ad7 s_letters_of:=⟨["machine"],["machine"],Zsc,rfl,rfl,λ _ _ _ _ _ _=>bd1 (λ _=>rfl),.inl (by decide +kernel)⟩
def be7:DT ah3 P "rooms_of" DV.aa9 aA9:=⟨["machine"],["machine"],Zsc,rfl,rfl,λ _ _ _ _ _ _=>bd1 (λ _=>rfl),.inl (by decide +kernel)⟩
def bb0:DT ah3 P "doors_of" DV.ab5 aA2:=⟨["machine"],["machine"],Zsc,rfl,rfl,λ _ _ _ _ _ _=>bd1 (λ _=>rfl),.inl (by decide +kernel)⟩
def be1:DT ah3 P "is_whole" DV.ae3 aB4:=⟨["thing", "low", "high"],["thing", "low", "high"],Zsc,rfl,rfl,λ _ _ _ _ _ _=>bd3 (λ _ _ _=>rfl),.inl (by decide +kernel)⟩
def aD6:DT ah3 P "is_tuple_of" DV.ac9 an0:=⟨["thing", "many"],["thing", "many"],Zsc,rfl,rfl,λ _ _ _ _ _ _=>bd2 (λ _ _=>rfl),.inl (by decide +kernel)⟩
def aQ7:DT ah3 P "is_letter" DV.ae8 s_is_letter:=⟨["thing", "letters"],["thing", "letters"],Zsc,rfl,rfl,λ _ _ _ _ _ _=>bd2 (λ _ _=>rfl),.inl (by decide +kernel)⟩
def bZ8:DT ah3 P "grid" DV.af3 bE1:=⟨["size", "entry", "rows", "i"],["size", "entry"],Zsc,rfl,rfl,λ _ _ _ _ _ _=>bd2 (λ _ _=>rfl),.inl (by decide +kernel)⟩
def bB0:DT ah3 P "raised" DV.ae0 aX0:=⟨["one", "many", "plain_one", "times", "answer", "square", "left"],["one", "many", "plain_one", "times"],Zsc,rfl,rfl,λ _ _ _ _ _ _=>bd4 (λ _ _ _ _=>rfl),.inl (by decide +kernel)⟩
def bJ6:DT ah3 P "least" DV.ae7 bu4:=⟨["prices"],["prices"],Zsc,rfl,rfl,λ _ _ _ _ _ _=>bd1 (λ _=>rfl),.inl (by decide +kernel)⟩
def bW6:DT ah3 P "added" DV.af0 bf4:=⟨["one", "other"],["one", "other"],Zsc,rfl,rfl,λ _ _ _ _ _ _=>bd2 (λ _ _=>rfl),.inl (by decide +kernel)⟩
def fmc {α:Type}{P:α->Prop}{a}{l}(h:P a)(t:∀ x∈l,P x):∀ x∈a::l,P x:=List.forall_mem_cons.mpr ⟨h,t⟩
def fmn {α:Type}{P:α->Prop}:∀ x∈([]),P x:=λ _ h=>nomatch h
def bW7:DT ah3 P "plain" DV.af5 bn1:=⟨["n"],["n"],Zsc,rfl,rfl,λ _ _ _ _ _ _=>bd1 (λ _=>rfl),.inr ⟨by decide,[("plain.0",DV.ab2,["i", "j"],[])],by decide +kernel,by decide +kernel,fmc ⟨rfl,bW8⟩ fmn⟩⟩
def bi2:DT ah3 P "product" DV.ab8 au1:=⟨["one", "other", "size"],["one", "other"],Zsc,rfl,rfl,λ _ _ _ _ _ _=>bd2 (λ _ _=>rfl),.inr ⟨by decide,[("product.0",DV.aa6,["i", "j"],["size", "one", "other"])],by decide +kernel,by decide +kernel,fmc ⟨rfl,bW8⟩ fmn⟩⟩
def bR5:DT ah3 P "power" DV.ah5 aP6:=⟨["table", "many"],["table", "many"],Zsc,rfl,rfl,λ _ _ _ _ _ _=>bd2 (λ _ _=>rfl),.inl (by decide +kernel)⟩
def az4:DT ah3 P "letter_table" DV.aa4 s_letter_table:=⟨["machine", "letter", "least_fee"],["machine", "letter"],Zsc,rfl,rfl,λ _ _ _ _ _ _=>bd2 (λ _ _=>rfl),.inr ⟨by decide,[("letter_table.least_fee",DV.aa2,["i", "j"],["machine", "letter"])],by decide +kernel,by decide +kernel,fmc ⟨rfl,bW8⟩ fmn⟩⟩
def aH1:DT ah3 P "word_table" DV.aa8 ap6:=⟨["machine", "word", "made", "table", "letter"],["machine", "word"],Zsc,rfl,rfl,λ _ _ _ _ _ _=>bd2 (λ _ _=>rfl),.inl (by decide +kernel)⟩
def bj1:DT ah3 P "sign_of" DV.ag4 aH9:=⟨["price"],["price"],Zsc,rfl,rfl,λ _ _ _ _ _ _=>bd1 (λ _=>rfl),.inl (by decide +kernel)⟩
def bu6:DT ah3 P "reading" DV.ag3 aJ2:=⟨["table"],["table"],Zsc,rfl,rfl,λ _ _ _ _ _ _=>bd1 (λ _=>rfl),.inr ⟨by decide,[("reading.0",DV.ac6,["i", "j"],["table"])],by decide +kernel,by decide +kernel,fmc ⟨rfl,bW8⟩ fmn⟩⟩
def aF6:DT ah3 P "plain_signs" DV.ad6 an4:=⟨["n"],["n"],Zsc,rfl,rfl,λ _ _ _ _ _ _=>bd1 (λ _=>rfl),.inr ⟨by decide,[("plain_signs.0",DV.ab3,["i", "j"],[])],by decide +kernel,by decide +kernel,fmc ⟨rfl,bW8⟩ fmn⟩⟩
def az5:DT ah3 P "sign_product" DV.aa5 ai7:=⟨["one", "other", "size"],["one", "other"],Zsc,rfl,rfl,λ _ _ _ _ _ _=>bd2 (λ _ _=>rfl),.inr ⟨by decide,[("sign_product.0",DV.aa3,["i", "j"],["size", "one", "other"])],by decide +kernel,by decide +kernel,fmc ⟨rfl,bW8⟩ fmn⟩⟩
def aM9:DT ah3 P "sign_power" DV.ae5 ao6:=⟨["signs", "many"],["signs", "many"],Zsc,rfl,rfl,λ _ _ _ _ _ _=>bd2 (λ _ _=>rfl),.inl (by decide +kernel)⟩
def aM8:DT ah3 P "word_signs" DV.ac5 ap7:=⟨["machine", "word"],["machine", "word"],Zsc,rfl,rfl,λ _ _ _ _ _ _=>bd2 (λ _ _=>rfl),.inl (by decide +kernel)⟩
def aQ0:DT ah3 P "is_steady" DV.ac2 au8:=⟨["signs"],["signs"],Zsc,rfl,rfl,λ _ _ _ _ _ _=>bd1 (λ _=>rfl),.inl (by decide +kernel)⟩
def aY9:DT ah3 P "round_of" DV.ad5 aA4:=⟨["sign"],["sign"],Zsc,rfl,rfl,λ _ _ _ _ _ _=>bd1 (λ _=>rfl),.inl (by decide +kernel)⟩
def aN7:DT ah3 P "sharpened" DV.ad0 av9:=⟨["signs", "size", "rounds"],["signs"],Zsc,rfl,rfl,λ _ _ _ _ _ _=>bd1 (λ _=>rfl),.inr ⟨by decide,[("sharpened.0",DV.ab1,["i", "j"],["size", "signs", "rounds"])],by decide +kernel,by decide +kernel,fmc ⟨rfl,bW8⟩ fmn⟩⟩
def ay8:DT ah3 P "steady_power" DV.ac1 al2:=⟨["signs", "many", "power"],["signs"],Zsc,rfl,rfl,λ _ _ _ _ _ _=>bd1 (λ _=>rfl),.inl (by decide +kernel)⟩
def ba6:DT ah3 P "is_ahead" DV.ag0 aA7:=⟨["thing", "at"],["thing", "at"],Zsc,rfl,rfl,λ _ _ _ _ _ _=>bd2 (λ _ _=>rfl),.inl (by decide +kernel)⟩
def aq3:DT ah3 P "is_letter_step" DV.aa7 s_is_letter_step:=⟨["thing", "letters"],["thing", "letters"],Zsc,rfl,rfl,λ _ _ _ _ _ _=>bd2 (λ _ _=>rfl),.inl (by decide +kernel)⟩
def ay7:DT ah3 P "is_pair_step" DV.ab0 al0:=⟨["thing", "at"],["thing", "at"],Zsc,rfl,rfl,λ _ _ _ _ _ _=>bd2 (λ _ _=>rfl),.inl (by decide +kernel)⟩
def aw5:DT ah3 P "is_sharp_step" DV.ab7 aj8:=⟨["thing", "at"],["thing", "at"],Zsc,rfl,rfl,λ _ _ _ _ _ _=>bd2 (λ _ _=>rfl),.inl (by decide +kernel)⟩
def aM7:DT ah3 P "signs_made" DV.af9 ap1:=⟨["machine", "makings", "made", "step"],["machine", "makings"],Zsc,rfl,rfl,λ _ _ _ _ _ _=>bd2 (λ _ _=>rfl),.inl (by decide +kernel)⟩
def aw6:DT ah3 P "signs_of_step" DV.ac4 ak1:=⟨["machine", "step", "made", "at"],["machine", "step", "made"],Zsc,rfl,rfl,λ _ _ _ _ _ _=>bd3 (λ _ _ _=>rfl),.inl (by decide +kernel)⟩
def bd6:DT ah3 P "as_times" DV.af4 aB3:=⟨["makings", "many"],["makings", "many"],Zsc,rfl,rfl,λ _ _ _ _ _ _=>bd2 (λ _ _=>rfl),.inl (by decide +kernel)⟩
def by2:DT ah3 P "folded" DV.ac0 aU6:=⟨["steps", "of_letter", "of_pair", "of_times", "values", "step"],["steps", "of_letter", "of_pair", "of_times"],Zsc,rfl,rfl,λ _ _ _ _ _ _=>bd4 (λ _ _ _ _=>rfl),.inl (by decide +kernel)⟩
def bj9:DT ah3 P "counted" DV.ae6 aK8:=⟨["steps", "for_letter"],["steps", "for_letter"],Zsc,rfl,rfl,λ _ _ _ _ _ _=>bd2 (λ _ _=>rfl),.inr ⟨by decide,[("counted.0",DV.ad2,["one", "many"],[]),("counted.1",DV.ad3,["one", "other"],[]),("counted.2",DV.ad1,["letter"],["for_letter"])],by decide +kernel,by decide +kernel,fmc ⟨rfl,cz4⟩ (fmc ⟨rfl,cx3⟩ (fmc ⟨rfl,co3⟩ fmn))⟩⟩
def bh9:DT ah3 P "weights" DV.ah7 aM4:=⟨["machine", "makings"],["machine", "makings"],Zsc,rfl,rfl,λ _ _ _ _ _ _=>bd2 (λ _ _=>rfl),.inl (by decide +kernel)⟩
def at7:DT ah3 P "signs_of_pair" DV.ac3 ai4:=⟨["one", "other"],["one", "other"],Zsc,rfl,rfl,λ _ _ _ _ _ _=>bd2 (λ _ _=>rfl),.inl (by decide +kernel)⟩
def aq5:DT ah3 P "signs_of_times" DV.ac7 aj4:=⟨["one", "many", "enough", "signs", "weight", "steady", "period", "rest"],["one", "many", "enough"],Zsc,rfl,rfl,λ _ _ _ _ _ _=>bd3 (λ _ _ _=>rfl),.inl (by decide +kernel)⟩
def aH2:DT ah3 P "long_signs" DV.ag6 ao5:=⟨["machine", "recipe", "n", "enough"],["machine", "recipe", "n"],Zsc,rfl,rfl,λ _ _ _ _ _ _=>bd3 (λ _ _ _=>rfl),.inr ⟨by decide,[("long_signs.0",DV.ag1,["one", "many"],["enough"]),("long_signs.1",DV.ag2,["letter"],["machine"])],by decide +kernel,by decide +kernel,fmc ⟨rfl,cz4⟩ (fmc ⟨rfl,co3⟩ fmn)⟩⟩
def ba1:DT ah3 P "unrolled" DV.ae4 aC0:=⟨["machine", "makings", "n"],["machine", "makings", "n"],Zsc,rfl,rfl,λ _ _ _ _ _ _=>bd3 (λ _ _ _=>rfl),.inl (by decide +kernel)⟩
def bo8:DT ah3 P "lengths" DV.ah6 aH3:=⟨["machine", "makings", "n"],["machine", "makings", "n"],Zsc,rfl,rfl,λ _ _ _ _ _ _=>bd3 (λ _ _ _=>rfl),.inl (by decide +kernel)⟩
def bP1:DT ah3 P "begun" DV.ai6 bt6:=⟨["word"],["word"],Zsc,rfl,rfl,λ _ _ _ _ _ _=>bd1 (λ _=>rfl),.inl (by decide +kernel)⟩
def aF2:DT ah3 P "begun_times" DV.ae2 aj0:=⟨["word", "many", "enough"],["word", "many"],Zsc,rfl,rfl,λ _ _ _ _ _ _=>bd2 (λ _ _=>rfl),.inl (by decide +kernel)⟩
def aO8:DT ah3 P "last_word" DV.ag8 au9:=⟨["steps", "word"],["steps"],Zsc,rfl,rfl,λ _ _ _ _ _ _=>bd1 (λ _=>rfl),.inr ⟨by decide,[("last_word.0",DV.af7,["one", "other"],[]),("last_word.1",DV.af8,["letter"],[])],by decide +kernel,by decide +kernel,fmc ⟨rfl,cx3⟩ (fmc ⟨rfl,co3⟩ fmn)⟩⟩
def aK5:DT ah3 P "last_table" DV.ad4 aq2:=⟨["machine", "steps"],["machine", "steps"],Zsc,rfl,rfl,λ _ _ _ _ _ _=>bd2 (λ _ _=>rfl),.inr ⟨by decide,[("last_table.0",DV.ab9,["letter"],["machine"])],by decide +kernel,by decide +kernel,fmc ⟨rfl,co3⟩ fmn⟩⟩
def ax2:DT ah3 P "word_unrolled" DV.ae1 aj6:=⟨["machine", "makings", "n"],["machine", "makings", "n"],Zsc,rfl,rfl,λ _ _ _ _ _ _=>bd3 (λ _ _ _=>rfl),.inl (by decide +kernel)⟩
def aq6:DT ah3 P "table_unrolled" DV.ac8 aj3:=⟨["machine", "makings", "n"],["machine", "makings", "n"],Zsc,rfl,rfl,λ _ _ _ _ _ _=>bd3 (λ _ _ _=>rfl),.inl (by decide +kernel)⟩
def ax3:DT ah3 P "is_times_step" DV.af2 ak2:=⟨["thing", "at"],["thing", "at"],Zsc,rfl,rfl,λ _ _ _ _ _ _=>bd2 (λ _ _=>rfl),.inl (by decide +kernel)⟩
def br7:DT ah3 P "is_step" DV.ai2 aL5:=⟨["thing", "at"],["thing", "at"],Zsc,rfl,rfl,λ _ _ _ _ _ _=>bd2 (λ _ _=>rfl),.inl (by decide +kernel)⟩
def aR6:DT ah3 P "is_recipe" DV.ag7 av1:=⟨["thing"],["thing"],Zsc,rfl,rfl,λ _ _ _ _ _ _=>bd1 (λ _=>rfl),.inl (by decide +kernel)⟩
def aE0:DT ah3 P "long_length" DV.af6 am7:=⟨["recipe"],["recipe"],Zsc,rfl,rfl,λ _ _ _ _ _ _=>bd1 (λ _=>rfl),.inl (by decide +kernel)⟩
def aR7:DT ah3 P "long_word" DV.ag9 at4:=⟨["recipe"],["recipe"],Zsc,rfl,rfl,λ _ _ _ _ _ _=>bd1 (λ _=>rfl),.inl (by decide +kernel)⟩
def aL3:DT ah3 P "long_table" DV.af1 ap2:=⟨["machine", "recipe"],["machine", "recipe"],Zsc,rfl,rfl,λ _ _ _ _ _ _=>bd2 (λ _ _=>rfl),.inl (by decide +kernel)⟩
def bc8:DT ah3 P "_law_box" DV.ak3 aB2:=⟨["_law_script", "_law_at", "_law_cell", "_law_number", "_law_j", "_law_part"],["_law_script", "_law_at"],Zsc,rfl,rfl,λ _ _ _ _ _ _=>bd2 (λ _ _=>rfl),.inl (by decide +kernel)⟩
def aP9:DT ah3 P "_law_draw" DV.ah4 ax8:=⟨["_law_box_here", "_law_many", "_law_found"],["_law_box_here", "_law_many"],Zsc,rfl,rfl,λ _ _ _ _ _ _=>bd2 (λ _ _=>rfl),.inl (by decide +kernel)⟩
def az3:DT ah3 P "_law_product" DV.ab6 ak9:=⟨["_law_one", "_law_other", "_law_found", "_law_line", "_law_new", "_law_k"],["_law_one", "_law_other"],Zsc,rfl,rfl,λ _ _ _ _ _ _=>bd2 (λ _ _=>rfl),.inl (by decide +kernel)⟩
def ay6:DT ah3 P "_law_machine" DV.ad9 ak8:=⟨["_law_box_here", "_law_letters", "_law_rooms", "_law_many", "_law_high", "_law_doors", "_law_k", "_law_start", "_law_goal", "_law_letter", "_law_bits", "_law_begins", "_law_ends"],["_law_box_here"],Zsc,rfl,rfl,λ _ _ _ _ _ _=>bd1 (λ _=>rfl),.inl (by decide +kernel)⟩
def j5:DT ah3 P "_law_letter_signs" DV.ab4 s__law_letter_signs:=⟨["_law_machine_here", "_law_letter", "_law_rooms", "_law_lines", "_law_start", "_law_sign", "_law_goal", "_law_cost"],["_law_machine_here", "_law_letter"],Zsc,rfl,rfl,λ _ _ _ _ _ _=>bd2 (λ _ _=>rfl),.inl (by decide +kernel)⟩
def aJ6:DT ah3 P "_law_sharp" DV.ag5 ap4:=⟨["_law_signs", "_law_size", "_law_found", "_law_i", "_law_line", "_law_j", "_law_best", "_law_k", "_law_here"],["_law_signs"],Zsc,rfl,rfl,λ _ _ _ _ _ _=>bd1 (λ _=>rfl),.inl (by decide +kernel)⟩
def az1:DT ah3 P "_law_makings" DV.ah1 al1:=⟨["_law_box_here", "_law_machine_here", "_law_most", "_law_sharps", "_law_steps", "_law_tables", "_law_steady", "_law_k", "_law_way", "_law_one", "_law_other", "_law_letter"],["_law_box_here", "_law_machine_here", "_law_most", "_law_sharps"],Zsc,rfl,rfl,λ _ _ _ _ _ _=>bd4 (λ _ _ _ _=>rfl),.inl (by decide +kernel)⟩
def bc6:DT ah3 P "_law_led" DV.aj9 aB0:=⟨["_law_makings_here", "_law_copies"],["_law_makings_here", "_law_copies"],Zsc,rfl,rfl,λ _ _ _ _ _ _=>bd2 (λ _ _=>rfl),.inl (by decide +kernel)⟩
def aO6:DT ah3 P "_law_tall" DV.ah9 au6:=⟨["_law_box_here", "_law_letters", "_law_most", "_law_steps", "_law_k"],["_law_box_here", "_law_letters", "_law_most"],Zsc,rfl,rfl,λ _ _ _ _ _ _=>bd3 (λ _ _ _=>rfl),.inl (by decide +kernel)⟩
def bH2:FnScope ["_law_script", "_law_k", "_law_box_here", "_law_machine_here", "_law_makings_here", "_law_great", "_law_n", "_law_recipe", "_law_many"] ["_law_script"] (defScope aJ5):=Zsc
def cd3:mSs ⟨["_law_script", "_law_k", "_law_box_here", "_law_machine_here", "_law_makings_here", "_law_great", "_law_n", "_law_recipe", "_law_many"],defScope aJ5,λ _ _ _=>dt⟩ DV.ah8.body (qv aJ5)=true:=by decide +kernel
def ca1:cy5 "law" aJ5 ["_law_script"]:=λ _ _ _ _ _ _=>bd1 λ _=>rfl
def cq6:DT ah3 P "law" DV.ah8 aJ5:=⟨_,_,bH2,rfl,rfl,ca1,.inl cd3⟩
def ct6:∀ p∈tb,DT ah3 P p.1 p.2.1 p.2.2:=by
 unfold tb;exact fmc aL7 (fmc be7 (fmc bb0 (fmc be1 (fmc aD6 (fmc aQ7 (fmc bZ8 (fmc bB0 (fmc bJ6 (fmc bW6 (fmc bW7 (fmc bi2 (fmc bR5 (fmc az4 (fmc aH1 (fmc bj1 (fmc bu6 (fmc aF6 (fmc az5 (fmc aM9 (fmc aM8 (fmc aQ0 (fmc aY9 (fmc aN7 (fmc ay8 (fmc ba6 (fmc aq3 (fmc ay7 (fmc aw5 (fmc aM7 (fmc aw6 (fmc bd6 (fmc by2 (fmc bj9 (fmc bh9 (fmc at7 (fmc aq5 (fmc aH2 (fmc ba1 (fmc bo8 (fmc bP1 (fmc aF2 (fmc aO8 (fmc aK5 (fmc ax2 (fmc aq6 (fmc ax3 (fmc br7 (fmc aR6 (fmc aE0 (fmc aR7 (fmc aL3 (fmc bc8 (fmc aP9 (fmc az3 (fmc ay6 (fmc j5 (fmc aJ6 (fmc az1 (fmc bc6 (fmc aO6 (fmc cq6 fmn)))))))))))))))))))))))))))))))))))))))))))))))))))))))))))))
def cm4 {l:dD}{mg:yC}(X:K.In h)(G:h.Ns aV mg)(b4:mg "law"=aT (.ref fa))(hD:∀ p∈tb,cv8 K p.1 p.2.2)(hz:∀ x∈bNames,bR K aV x=aT bY)
  {a4:yI} {a6:yE} (gc_LETTERS:bR K aV "LETTERS"=aT (aT (.ref a0))) (gl_LETTERS:K.lookup a0=aT ⟨.type "tuple",a4,.seq #[.str ⟨#[97]⟩ a2,.str ⟨#[98]⟩ a1,.str ⟨#[99]⟩ a3] b0,a6⟩)
  (gc_FREE:bR K aV "FREE"=aT (aT (.int (0) b3)))
  (gc_SOME:bR K aV "SOME"=aT (aT (.int (1) b1)))
  {a5:Tok} (gc_UNBOUND:bR K aV "UNBOUND"=aT (aT (.int (2) a5)))
  {b2:Tok} (gc_NONE:bR K aV "NONE"=aT (aT (.int (3) b2)))
  {J:Tok} (gc_MOST_STEPS_makings:bR K aV "MOST_STEPS_makings"=aT (aT (.int (100) J)))
  {Y:Tok} (gc_LETTER_WEIGHT:bR K aV "LETTER_WEIGHT"=aT (aT (.int (3) Y)))
  {Z:Tok} (gc_MOST_WRITTEN:bR K aV "MOST_WRITTEN"=aT (aT (.int (2000) Z)))
  {y:Tok} (gc_MOST_STEPS_longwords:bR K aV "MOST_STEPS_longwords"=aT (aT (.int (60) y)))
  (hT:∀ x∈ah3,(a8 K x).isSome=cn) (tnd:decide (((bK0 ah3 K).map (·.1)).Nodup)=cn)
  : ∃ fd:bH,(∀(s:ah) (v:Value),ls s fd ⟨[v],[]⟩ [("_law_script",v)])/\∀ base:Heap,K.In base->base.Ns aV mg->BM mg base->bW9 K ah3 base->FnOk l.prog w K mg base CX0 49 fa fd ["_law_script"] (spB ah3 K):=by
 have hP:PrOk (bt9 ah3 P K) (bP7 ah3 K) P mg w:=by
  refine⟨λ f d h=>aW0 (tbl:=tbl) (λ p hp=>?_) f d h,λ x d h=>bn7 (tbl:=ct1) ?_ x d h,λ x hx=>PySem.W.mg_none_of X G (hz x hx),cr3 X G,cp9,dO tnd,λ _ _ h=>(by cases h)⟩
  .obtain⟨r,hr,rfl⟩:=au.mp hp;exact good_of X G hT (hD r hr) (ct6 r hr)
  .unfold ct1;refine fmc ?_ (fmc ?_ (fmc ?_ (fmc ?_ (fmc ?_ (fmc ?_ (fmc ?_ (fmc ?_ (fmc ?_ (fmc ?_ (fmc ?_ (fmc ?_ (fmc ?_ (fmc ?_ fmn)))))))))))))
   .exact bN3 (bK X G gc_LETTERS) gl_LETTERS rfl rfl (show 3<=1000 by decide) (.cons (.str _ _ (by decide)) (.cons (.str _ _ (by decide)) (.cons (.str _ _ (by decide)) (.nil))))
   .exact jQ (bK X G gc_FREE)
   .exact jQ (bK X G gc_SOME)
   .exact jQ (bK X G gc_UNBOUND)
   .exact jQ (bK X G gc_NONE)
   .exact jQ (bK X G gc_MOST_STEPS_makings)
   .exact jQ (bK X G gc_LETTER_WEIGHT)
   .exact jQ (bK X G gc_MOST_WRITTEN)
   .exact jQ (bK X G gc_MOST_STEPS_longwords)
   .obtain⟨_,_,_,_,_,_,_,_,_,_,a,l,_⟩:=hD ("product",DV.ab8,au1) (aC (i:=11) rfl);exact aK9 X G a l
   .obtain⟨_,_,_,_,_,_,_,_,_,_,a,l,_⟩:=hD ("power",DV.ah5,aP6) (aC (i:=12) rfl);exact aK9 X G a l
   .obtain⟨_,_,_,_,_,_,_,_,_,_,a,l,_⟩:=hD ("sign_product",DV.aa5,ai7) (aC (i:=18) rfl);exact aK9 X G a l
   .obtain⟨_,_,_,_,_,_,_,_,_,_,a,l,_⟩:=hD ("signs_of_pair",DV.ac3,ai4) (aC (i:=35) rfl);exact aK9 X G a l
   .obtain⟨_,_,_,_,_,_,_,_,_,_,a,l,_⟩:=hD ("begun_times",DV.ae2,aj0) (aC (i:=41) rfl);exact aK9 X G a l
 refine wl λ _ kk=>?_;obtain⟨f,od,an,sl,oc,kV,dc,pm,cd,ct,a,l0,c,k⟩:=hD ("law",DV.ah8,aJ5) (aC (i:=61) rfl);have e:=b4.symm.trans (bK X G a);cases e;have F:=bE8 (st:=aJ5) l0 c k;refine kk ⟨_,λ s v=>.of_eq rfl,λ base _ _ bm hk=>(bY3 hP (bH1 hT bm hk) 17 (aU9 hP (bH1 hT bm hk) (λ _=>rfl) 17) (d:=DV.ah8) (f := "law") rfl ⟨F,bK X G a,F.binds ca1⟩ bH2 rfl rfl cd3 bq0).imp (λ vs H Q E q=>cj6 (λ ns h=>DV.cr4 (P:=P) 7 ns h) vs H Q E (by6 hT q))⟩
end My
end
end
end
end Internal
open Internal
open PySem PySem.W PyProof.Rows
set_option maxRecDepth 100000 in
set_option maxHeartbeats 0 in
theorem PySem.Challenge.cw_leasttolls_k43_whole_unrolled_words_are_holds : PySem.Challenge.rw_leasttolls_k43_whole_unrolled_words_are.Holds := by
 refine My.GT0.2.2 My.left2 ?_
 delta My.GT0
 dsimp only
 k_fill
 refine L2.bj8 (l:=PySem.Challenge.rw_leasttolls_k43_whole_unrolled_words_are) (n:=63) (k:=49) (x := "_law_script") (sp:=L2.spB My.ah3) My.ah3 rfl (by decide) rfl ⟨rfl,by decide,by decide⟩ (λ w h Y=>⟨PySem.W.km_in_of Y,PySem.W.km_tabs_of Y⟩) (λ w=>?R) (λ w=>?NT) ?F (λ K H a ns hl hB hS hF=>L2.ch0 hl hB hS hF)
 case R=>kernel_rfl
 case NT=>kernel_rfl
 case F =>
  intro w mg fa h KX G hmg
  refine' My.cm4 KX G hmg ?hD ?hz ?gc_LETTERS ?gl_LETTERS ?gc_FREE ?gc_SOME ?gc_UNBOUND ?gc_NONE ?gc_MOST_STEPS_makings ?gc_LETTER_WEIGHT ?gc_MOST_WRITTEN ?gc_MOST_STEPS_longwords ?hT ?tnd
  case hD=>unfold My.tb;repeat' first|exact My.fmn|refine My.fmc ?_ ?_|(dsimp only;exact ⟨_,_,_,_,_,_,_,_,_,_,by k_is,by k_is,by k_is,by k_is⟩)
  case hz=>unfold L2.bNames;repeat' first|exact My.fmn|refine My.fmc ?_ ?_|k_is
  (case gc_LETTERS=>k_is)
  (case gl_LETTERS=>k_is)
  (case gc_FREE=>k_is)
  (case gc_SOME=>k_is)
  (case gc_UNBOUND=>k_is)
  (case gc_NONE=>k_is)
  (case gc_MOST_STEPS_makings=>k_is)
  (case gc_LETTER_WEIGHT=>k_is)
  (case gc_MOST_WRITTEN=>k_is)
  (case gc_MOST_STEPS_longwords=>k_is)
  case hT=>unfold My.ah3;repeat' first|exact My.fmn|refine My.fmc ?_ ?_|kernel_rfl
  (case tnd=>kernel_rfl)
