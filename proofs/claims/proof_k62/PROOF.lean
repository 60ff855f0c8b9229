import PyProof.Rows.All
import Wide.All
import OpenK.AllK
import Wide.FinOn
import PyProof.EqAt
import PyProof.EqKinds
import PyProof.TupleCall
import PyProof.MinMaxWalk
import PyProof.WalkInts
import PyProof.NeKinds
import PyProof.SliceStr2
import PyProof.StrBlockI
import PyProof.MaxThree
import PyProof.ZipIter
import PyProof.Draws
import PyProof.EnumMake
import PyProof.ListMulRoad
import PyProof.Rows.StrRev
import PyProof.DictItems
import PyProof.ListRange
import PyProof.AutoIntG2
import PyProof.FactsAll.int_6
import KE.KMinKey
import PyProof.Rows.TupDisplay
import PyProof.Rows.CatchBare
import KE.KTryMore
import PyProof.RulesAs
import PyProof.StrOps
import KE.IntBitsLaws
import KE.KIntText
import PyProof.CallStr
import PyProof.StrBlockL
import PyProof.StrLawsChain
import PyProof.StrLawsTight
import PyProof.Rows.StrItems
import PySem.Challenge.RW_leasttolls_k62_texts_of_no_set
set_option bootstrap.genMatcherCode false
set_option genSizeOf false
set_option compiler.extract_closed false
set_option Elab.async false
set_option linter.all false
set_option maxRecDepth 100000
set_option maxHeartbeats 4000000
open PySem.W renaming Frag->ac,openSeen->aK,openGood->aL,kitOne->aW,openEnds->bh,tabIn->bo,exmOne->bD,kia_one->bM,findIn->bP,mg_of->bQ,nsIn->bR,CodeHd->bU,keepIn->bZ,KitX->ci,recOk->cn,xlAt->cD,fnOf->cV,OpenLaw->cX,Looks->dB,cellsFrom_some->dJ,looks_findIn->d8,codeIn->eZ,specialIn->fj,takesIn->fY,lookIn->gf,tabObj->gy,mroIn->gS,kitx_tuple->g6,callWith_K->g8,codeRec_of->g9,mg_none_of->ip,kitx_list->iu,plainGet->iJ,codeHdIn->iR,instObj->ja,kla_fn->jz,TabsAt->jD,noTabs->jE,LeftO->jK,WalkO->jL,fnX->kg
open PySem renaming Shared->ae,wpAny_bind->ai,wpAny_pure->az,Program->aD,sizeLine->aM,Around->aN,importedModules->aO,mainGlobals->aV,wpAny_mono->aZ,bootBuiltins->a7,mem_of_lookup->be,starEach->bp,cellsFrom->bq,wpAny_newObj_type->bH,FuncData->bN,NameKind->b8,wpAny_truthy_bool->b9,binaryOp->cg,treeTable->cq,assignEach->cu,wpAny_passesOwn->cz,wpAny_holding->cH,wpAny_call_entry->cJ,wpAny_callSpecial?_slot->cK,wpAny_Call_Name_kw->cU,wpAny_execs_nil->cY,compareOp->c5,behindInMarks->c6,wpAny_pyIter_list->db,foldedSetIterable->dg,isTrue->dD,wpAny_field->dG,sliceBounds->dH,backTo->dS,swapsWith->dT,Arguments->dW,call_meets->dX,pushCells->dY,relabel->d0,ExceptHandler->d5,letOwnedTupleGo->eD,pushCells_keeps->eH,notedBy->eV,wpAny_newFunctionEnv_cells->e6,wpAny_binaryOp_repeat_ref->fe,sizeLine_eq->fg,swappedStores->fu,IsPart->fw,attributeBase->fx,wpAny_comprehension_free->fy,noFill_tuple_add->fD,builtinsNs->fI,assign->fK,wpAny_pyNext_range_end->fL,wpAny_pyIter_rangeiter->fM,codeAny_mono->fN,wpAny_typeOf->fO,typeIs_int->fS,codeAny_compStart_list->fW,wpAny_isTrue_Compare1->fZ,codeAny_call_function->f6,IsRangeIter->gd,strIterType->gk,codeAny_call_builtin->gm,codeAny->gz,Keyword->gA,getItem->gB,callerA->gC,wpAny_standAt->gP,seq_tuple_add->gQ,wpAny_pyIter_tuple->gY,wpAny_pyIter_range->gZ,wpAny_call->g7,typeOf->hR,cameBackBy->im,wpAny_assign_Name->ir,concat_meets->iy,wpAny_sequenceKey->iz,seqIndex_neg->iA,slot_list_getitem->iB,valueAt->iD,wpAny_execs_cons->iH,PassesOwn->iI,Result->iK,noteFrame->iP,seqSlot_of->iT,setFlight->iV,wpAny_Try_except->iW,seqIndex_of->iX,keywordEach->iY,holding->je,BindsTo->jf,argBest->jh,call->jj,IsTupleKey->jk,Paired->jl,wpAny_Name->jm,typeIs_str->js,PlainAttrs->ju,wpAny_rule->jx,quietNames->jB,KeyKind->jM,SumFits->jS,storeName->jU,pyIter->jY,PyData->j7
open List renaming getElem?_eq_some_iff->af,getElem?_eq_getElem->ag,replicate->aj,mem_cons_of_mem->ak,size_toArray->aq,append_assoc->ar,length_append->au,mem_cons_self->aw,mem_cons->ax,length_cons->aA,all_eq_true->aB,append_nil->aF,length_map->aI,mem_append_right->aJ,lookup_cons->aP,getD_eq_getElem?_getD->aQ,getElem?_set_self->aR,getElem?_append_left->aS,getElem?_set_ne->aU,getElem?_map->a9,not_mem_nil->bc,length_singleton->bn,length_set->br,map_cons->bz,range->bB,mem_map->bC,length_take->bE,filterMap_cons->bF,replicate_succ->bG,reverse_cons->bI,map->bJ,mem_of_getElem?->bS,getElem?_append_right->bT,length_drop->bV,getElem_mem->bW,mem_singleton->bX,mem_append->cf,set_set->cj,mem_range->cr,nil_append->cA,map_append->cB,length_nil->cC,mem_append_left->cE,flatten_cons->cF,mem_of_mem_take->cG,cons_append->cL,length_eq_zero_iff->cP,take_append_of_le_length->cS,take_of_length_le->cW,getElem?_toArray->c7,getElem?_eq_none->c8,contains_iff_mem->c9,set_getElem_self->da,mem_iff_getElem->dj,mem_of_mem_drop->dm,drop_eq_getElem_cons->dw,foldl_cons->dC,drop_eq_nil_of_le->dQ,all_cons->d6,nodup_cons->eE,of_mem_zip->eF,find?_cons->eL,mem_map_of_mem->eO,getElem?_range->eQ,map_nil->eU,mem_filterMap->eY,drop_zero->e9,any_cons->fA,getElem?_replicate->fC,map_map->fX,dropLast_eq_take->gb,filterMap->gj,length_pos_iff->gM,length_reverse->gO,sum_cons->gT,length_range->iG,any_eq_true->iQ,lookup->iZ,mem_filter->i9,foldl->jv,forIn_nil->jw,take->jW
open Nat renaming le_trans->al,le_refl->ao,ne_of_lt->aE,lt_of_lt_of_le->aG,lt_irrefl->bK,lt_succ_self->cN,zero_le->cR,lt_succ_of_lt->dM,zero_add->dP,le_succ->d9,le_of_lt->eS,le_of_succ_le->fh,lt_trichotomy->fq,add_comm->fU,lt_of_le_of_lt->ie,lt_or_ge->iE,le_of_not_lt->iO,mul_add->i8,ne_of_gt->jX,mul_comm->jZ,add_zero->j8,pow_succ->j9
open Bool renaming and_eq_true->am,false_ne_true->aC,or_eq_true->aY,false_eq_true->bu,eq_iff_iff->bL,or_eq_false_iff->dk,or_false->dZ,true_and->d7,not_eq_true'->fo,and_eq_true_iff->gc,false_and->jp,and_false->jF,not_true->jQ,false_or->jR,and_true->jT
open PySem.Heap renaming get?_push_of_some->av,lt_size->aH,get?_push_size->aX,size_push->cM,SameBut->eT,get?_update_other->fR,get?_update_self->f7,ExtBut->i7
open Option.some renaming inj->ay
open False renaming elim->a8
open PySem.Str renaming ofString->bf
open PyProof.Rows renaming slot_tuple_getitem->bj,callWith_type1->de,kindOf->dU,envOfC->eG,AllBare->eR,preSum_getD->fz,subscriptTail_builtinR->fP,entry_tuple_getitem->gI,tupleItemsOf_->gR,args_tuple_getitem->hG,IntsAre->jg,Subscript_->jr,StrTab->jC
open PySem.W.OpenRow renaming toRowW->bt
open PySem.Builtin.Str renaming strSliceIndices->bv,tooLong->jJ
open PySem.Builtin.Range renaming rangeSize->bw,small->gL,rangeFitsLong->ji
open PySem.W.RowW renaming records->bA
open PySem.Builtin.SmallTypes renaming nextOf->bO
open Classical renaming propDecidable->cb
open PySem.F renaming plainAttrs_list->ce,slot_tuple_iterator_next->cw,slot_NoneType_hash->dh,args_tuple_add_2->dz,slot_int_rmul->dE,entry_tuple_add->dF,slot_tuple_add->dK,slot_list_append->dL,slot_tuple_mul->dN,attrBase_ValueError->dR,args_tuple_iterator_next_1->eK,entry_tuple_iterator_next->eW,type_list_append->fB,slot_tuple_rmul->fF,args_int_rmul_2->gi,excBase_ValueError->gq,slot_list_count->gu,slot_list_index->gv,slot_int_index->gJ,entry_int_rmul->gK,slot_list_pop->hZ,fills_int_mul->ic
open PySem.W.Looks renaming andThen->cx,now->fm,ld->iU,tag->kl
open PySem.Builtin.Slice renaming slicePlaces->cy,sliceAdjust->dv,sliceApplied->e7,slicePartIndex->jb,sliceFields->jI
open PySem.Builtin.Tuple renaming tupleExact->cI,tupleItemsOf->di,tupleTooMany->e8,tupleIsExact->jA
open PySem.Builtin.Getset_descriptor renaming descrCheckInstance->cO,descrOwnerAndName->cQ,descrGetter->du,descrNameAndClass->fG,descrGetArgs->gp
open Option renaming map_eq_some_iff->cT,map_some->cZ,isSome_iff_exists->fv,isSome_some->ig,getD_none->iM
open Ne renaming symm->dq
open PySem.Builtin.List renaming listTooLong->dA
open PySem.Builtin.ObjectAttr renaming find->dI
open Int renaming mul_le_mul_of_nonneg_left->ed,toNat_of_nonneg->eP,toNat_natCast->fi,ofNat_lt->iC,le_refl->i6,natCast_mul->jc,le_trans->ka
open PySem.SeqAt.EqAt renaming same->et,bool_bool->gr,none_int->gE,none_str->gF,int_none->gG,str_none->gH,int_str->gU,str_int->gW,of_refs->io
open PySem.Txt renaming slice->eJ
open Array renaming length_toList->eM,toList->fJ,getElem?_toList->f8,getElem?_mapIdx->f9,append_assoc->gX
open PySem.Calls renaming Name_function_global->eX,callWith_builtin->fT,evalArgs_plain->gh
open PySem.SeqAt renaming EqAt->fc,RcNeAt->j0,RcAt->kj
open PySem.W.OpenLaw renaming wellSaid->ft
open PySem.Obj renaming mapSeq->fQ,data_mapFields->ii
open PySem.Value renaming isStrOf_shape->gD
open PySem.Heap.SameBut renaming update->gN
open PySem.W.KF renaming slot_gs->ik
open Prod renaming ext->iq
open PyProof.Rows.IsTup renaming new->iL
open PySem.PassesOwn renaming never->jd
open PySem.Walks renaming list->jy,range->kc
open PySem.EqMixed renaming ne_bool_str->jG,ne_str_bool->jH,ne_int_str->jO,ne_str_int->jP
open PySem.Paired renaming length->jN
open PySem.StrLaws renaming found_one->jV
open Prod.mk renaming inj->kb
open PySem.IsRange renaming new->ke
open PySem.Heap.IsSliceOf renaming new->kh
open PySem.Str.mk renaming inj->ki
abbrev yA:=List (PySem.Addr×PySem.Obj)
abbrev yB:=List (PySem.Str×PySem.Addr)
abbrev yC:=PySem.Str->Option PySem.Value
abbrev yD:=List (Option Nat)
abbrev yE:=Array (Option PySem.Value)
abbrev yF:=List (PySem.Addr×PySem.Addr)
abbrev yG:=List PySem.Value
abbrev yH:=List PySem.Str
abbrev yI:=Option PySem.Addr
abbrev yJ:=Array PySem.Value
abbrev yK:=List PySem.Expr
abbrev yL:=List PySem.Stmt
noncomputable section
namespace L2
open PySem PySem.Spec PyProof.Rows
theorem head_of {l:cX}{q:aD}{loose:yH}{H:PySem.W.Hook}{N:Nat}{d:DefRec}{z:List (Str×Expr)}
  (left:jK l.row.prog q loose (λ s=>cD q [] s&&cn (bA (bt l.row)) s) H.obs H.val N)
  (F:PySem.W.defOf q l.row.name=some (d,z)) (hp:l.row.prog.theDef l.row.name=some (d.params,d.body,d.scope)) (hk:PySem.W.kwWritten? d.params.kwonlyargs d.params.kw_defaults=some z) (G:(!l.row.writes||l.row.records.isEmpty)=true)
  (k1:l.row.wellSaid=true) (ok:(PySem.W.chainsOk q&&PySem.W.opensWell l.row.prog&&(PySem.W.frees l.row.toRowW&&l.row.within.isEmpty))=true) (hb:l.row.prog.bare) (hw:l.row.toRowW.promised)
  (call:jL q loose (PySem.W.XL q []) H.says l.row.toRowW d z λ f vs=>jj f vs):l.row.Holds :=
 PySem.W.holds_open left H.of H.keeps (λ s e=>PySem.W.xl_of s (gc.mp e).1) PySem.W.XL.keeps F hp hk (λ s e=>PySem.W.recFacts_of (gc.mp e).2) G k1 ok hb hw call
theorem aX2 {p q:aD}{loose:yH}{z:ae->Bool}{α:Type}{Y:ae->α}{J:World->α}{N:Nat}{w:World}
  (h0:(bh cq p w N).map (λ s=>((aK q loose (aO p.main.body) z true s).1,(aK q loose (aO p.main.body) z true s).2.1,(aK q loose (aO p.main.body) z true s).2.2.1))=some ((aL q loose).1,(aL q loose).2.1,(aL q loose).2.2.1))
  (h1:(bh cq p w N).map (λ s=>(aK q loose (aO p.main.body) z true s).2.2.2)=some (aL q loose).2.2.2)
  (h2:(bh cq p w N).map Y=some (J w)):(bh cq p w N).map (λ s=>((aK q loose (aO p.main.body) z true s),Y s))=some ((aL q loose),J w):=by
 obtain⟨s,a,b⟩:=cT.mp h0
 obtain⟨s1,G,b1⟩:=cT.mp h1
 obtain⟨s',Z,b'⟩:=cT.mp h2
 rw[a]at Z G
 cases Z
 cases G
 obtain⟨c1,F⟩:=kb b
 obtain⟨F,c3⟩:=kb F
 rw[a]
 exact congrArg some (iq (iq c1 (iq F (iq c3 b1))) b')
theorem left_rows {p q:aD}{loose:yH}{z:ae->Bool}{α:Type}{F:ae->α}{G:World->α}{N:Nat}(row:String)
  (a0:∀ w:World,(bh cq p (w.withFollow row false) N).map (λ s=>((aK q loose (aO p.main.body) z true s).1,(aK q loose (aO p.main.body) z true s).2.1,(aK q loose (aO p.main.body) z true s).2.2.1))=some ((aL q loose).1,(aL q loose).2.1,(aL q loose).2.2.1))
  (Y:∀ w:World,(bh cq p (w.withFollow row false) N).map (λ s=>(aK q loose (aO p.main.body) z true s).2.2.2)=some (aL q loose).2.2.2)
  (b0:∀ w:World,(bh cq p (w.withFollow row true) N).map (λ s=>((aK q loose (aO p.main.body) z true s).1,(aK q loose (aO p.main.body) z true s).2.1,(aK q loose (aO p.main.body) z true s).2.2.1))=some ((aL q loose).1,(aL q loose).2.1,(aL q loose).2.2.1))
  (b1:∀ w:World,(bh cq p (w.withFollow row true) N).map (λ s=>(aK q loose (aO p.main.body) z true s).2.2.2)=some (aL q loose).2.2.2)
  (J:∀ w:World,(bh cq p (w.withFollow row false) N).map F=some (G (w.withFollow row false)))
  (b2:∀ w:World,(bh cq p (w.withFollow row true) N).map F=some (G (w.withFollow row true))):jK p q loose z F G N:=λ w=>by
 have e:=PySem.World.withFollow_self w row
 cases hb:w.params.followText row<;>rw[hb]at e
 .have:=aX2 (a0 w) (Y w) (J w)
  rwa [e]at this
 .have:=aX2 (b0 w) (b1 w) (b2 w)
  rwa [e]at this
end L2
end
noncomputable section
namespace My
open PySem L2
noncomputable def nmS:Stmt->Bool
 | .Assign [.Name x _] _ _=>decide (x=("__name__":Str))
 | _=>false
noncomputable def vq:aD:={ PySem.Challenge.pw_leasttolls_k62_texts_of_no_set with main:={ (PySem.Challenge.pw_leasttolls_k62_texts_of_no_set).main with body:=(PySem.Challenge.pw_leasttolls_k62_texts_of_no_set).main.body.filter λ s=>!nmS s } }
set_option maxRecDepth 100000 in
set_option maxHeartbeats 0 in
theorem left0:∀ w:World,(bh cq PySem.Challenge.rw_leasttolls_k62_texts_of_no_set.row.prog (w.withFollow "special-get-raises" false) 6300).map (λ s=>((aK vq ["NoMaking", "NoPaper", "JOINTS"] (aO PySem.Challenge.rw_leasttolls_k62_texts_of_no_set.row.prog.main.body) (λ s=>cD vq [] s&&cn (bA (bt PySem.Challenge.rw_leasttolls_k62_texts_of_no_set.row)) s) true s).1,(aK vq ["NoMaking", "NoPaper", "JOINTS"] (aO PySem.Challenge.rw_leasttolls_k62_texts_of_no_set.row.prog.main.body) (λ s=>cD vq [] s&&cn (bA (bt PySem.Challenge.rw_leasttolls_k62_texts_of_no_set.row)) s) true s).2.1,(aK vq ["NoMaking", "NoPaper", "JOINTS"] (aO PySem.Challenge.rw_leasttolls_k62_texts_of_no_set.row.prog.main.body) (λ s=>cD vq [] s&&cn (bA (bt PySem.Challenge.rw_leasttolls_k62_texts_of_no_set.row)) s) true s).2.2.1))=some ((aL vq ["NoMaking", "NoPaper", "JOINTS"]).1,(aL vq ["NoMaking", "NoPaper", "JOINTS"]).2.1,(aL vq ["NoMaking", "NoPaper", "JOINTS"]).2.2.1):=λ w=>by kernel_rfl
set_option maxRecDepth 100000 in
set_option maxHeartbeats 0 in
theorem left1:∀ w:World,(bh cq PySem.Challenge.rw_leasttolls_k62_texts_of_no_set.row.prog (w.withFollow "special-get-raises" false) 6300).map (λ s=>(aK vq ["NoMaking", "NoPaper", "JOINTS"] (aO PySem.Challenge.rw_leasttolls_k62_texts_of_no_set.row.prog.main.body) (λ s=>cD vq [] s&&cn (bA (bt PySem.Challenge.rw_leasttolls_k62_texts_of_no_set.row)) s) true s).2.2.2)=some (aL vq ["NoMaking", "NoPaper", "JOINTS"]).2.2.2:=λ w=>by kernel_rfl
set_option maxRecDepth 100000 in
set_option maxHeartbeats 0 in
theorem left3:∀ w:World,(bh cq PySem.Challenge.rw_leasttolls_k62_texts_of_no_set.row.prog (w.withFollow "special-get-raises" true) 6300).map (λ s=>((aK vq ["NoMaking", "NoPaper", "JOINTS"] (aO PySem.Challenge.rw_leasttolls_k62_texts_of_no_set.row.prog.main.body) (λ s=>cD vq [] s&&cn (bA (bt PySem.Challenge.rw_leasttolls_k62_texts_of_no_set.row)) s) true s).1,(aK vq ["NoMaking", "NoPaper", "JOINTS"] (aO PySem.Challenge.rw_leasttolls_k62_texts_of_no_set.row.prog.main.body) (λ s=>cD vq [] s&&cn (bA (bt PySem.Challenge.rw_leasttolls_k62_texts_of_no_set.row)) s) true s).2.1,(aK vq ["NoMaking", "NoPaper", "JOINTS"] (aO PySem.Challenge.rw_leasttolls_k62_texts_of_no_set.row.prog.main.body) (λ s=>cD vq [] s&&cn (bA (bt PySem.Challenge.rw_leasttolls_k62_texts_of_no_set.row)) s) true s).2.2.1))=some ((aL vq ["NoMaking", "NoPaper", "JOINTS"]).1,(aL vq ["NoMaking", "NoPaper", "JOINTS"]).2.1,(aL vq ["NoMaking", "NoPaper", "JOINTS"]).2.2.1):=λ w=>by kernel_rfl
set_option maxRecDepth 100000 in
set_option maxHeartbeats 0 in
theorem left4:∀ w:World,(bh cq PySem.Challenge.rw_leasttolls_k62_texts_of_no_set.row.prog (w.withFollow "special-get-raises" true) 6300).map (λ s=>(aK vq ["NoMaking", "NoPaper", "JOINTS"] (aO PySem.Challenge.rw_leasttolls_k62_texts_of_no_set.row.prog.main.body) (λ s=>cD vq [] s&&cn (bA (bt PySem.Challenge.rw_leasttolls_k62_texts_of_no_set.row)) s) true s).2.2.2)=some (aL vq ["NoMaking", "NoPaper", "JOINTS"]).2.2.2:=λ w=>by kernel_rfl
inductive IsL:cX->Prop|mk:IsL PySem.Challenge.rw_leasttolls_k62_texts_of_no_set
theorem bD7 {l:cX}(h:IsL l):PySem.Challenge.rw_leasttolls_k62_texts_of_no_set=l:=by cases h;rfl
noncomputable def lwp:{ l:cX // IsL l }:=by
 refine⟨?p,?h⟩
 case h =>
  have e:PySem.Challenge.rw_leasttolls_k62_texts_of_no_set=?p:=by
   conv=>lhs;reduce
  exact e▸IsL.mk
theorem ws1:ft lwp.1=true:=by k_qdec
theorem ws:ft PySem.Challenge.rw_leasttolls_k62_texts_of_no_set=true:=by
 rw[bD7 lwp.2];exact ws1
end My
end
section
open PySem PySem.W PyProof.Rows
set_option hygiene false in
local macro_rules | `(tactic| o_head $H) => `(tactic| (refine L2.head_of (q := My.vq) (loose := ["NoMaking", "NoPaper", "JOINTS"]) (H := $H) (N := 6300) (L2.left_rows "special-get-raises" My.left0 My.left1 My.left3 My.left4 ?my2 ?my5) (by rfl) (by rfl) (by rfl) rfl (by assumption) (by decide +kernel) ⟨rfl, rfl, rfl, rfl, rfl, by decide +kernel⟩ ?_ ?_; (case my2 => exact myl2); (case my5 => exact myl5)))
set_option maxRecDepth 100000 in
set_option maxHeartbeats 0 in
noncomputable def My.GT0:(L2:Prop) ×' (L5:Prop) ×' { G:Prop // L2->L5->G->PySem.Challenge.rw_leasttolls_k62_texts_of_no_set.Holds }:=by
 refine⟨?L2,?L5,?G,?h⟩
 case h =>
  intro myl2 myl5 g
  w_on;refine holds_law My.ws λ said=>?_;k_head;(focus w_witness2)
  exact g
set_option maxRecDepth 100000 in
set_option maxHeartbeats 0 in
theorem My.left2:My.GT0.1:=λ w=>by kernel_rfl
set_option maxRecDepth 100000 in
set_option maxHeartbeats 0 in
theorem My.left5:My.GT0.2.1:=λ w=>by kernel_rfl
end
noncomputable section
namespace L2
open PySem PySem.Spec PyProof.Rows
noncomputable abbrev Key:=Sum Int Str
noncomputable def bq9:Key->Value->Bool
 | .inl k,v=>Value.isInt k v
 | .inr x,v=>Value.isStrOf x v
noncomputable def bX5 (w:World):Key->Int
 | .inl k=>hashInt k
 | .inr x=>hashStr w x
theorem zl:∀ {k:Key} {v:Value},bq9 k v=true->(∃ i t,k=Sum.inl i/\v=Value.int i t)\/(∃ x t,k=Sum.inr x/\v=Value.str x t)
 | .inl i,v,h=>by
  obtain⟨t,e⟩:=Value.isInt_shape (k:=i) (v:=v) h
  exact .inl ⟨i,t,rfl,e⟩
 | .inr x,v,h=>by
  obtain⟨t,e⟩:=gD (x:=x) (v:=v) h
  exact .inr ⟨x,t,rfl,e⟩
theorem by9 (a b:Int):decide ((Sum.inl a:Key)=Sum.inl b)=(a==b):=by
 by_cases e:a=b
 .subst e;simp
 .have h:¬(Sum.inl a:Key)=Sum.inl b:=λ q=>e (Sum.inl.inj q)
  rw[decide_eq_false h]
  exact(beq_eq_false_iff_ne.mpr e).symm
theorem bM3 (a b:Str):decide ((Sum.inr a:Key)=Sum.inr b)=decide (a=b):=by
 by_cases e:a=b
 .subst e;simp
 .have h:¬(Sum.inr a:Key)=Sum.inr b:=λ q=>e (Sum.inr.inj q)
  rw[decide_eq_false h,decide_eq_false e]
theorem bH8 (a:Int)(b:Str):decide ((Sum.inl a:Key)=Sum.inr b)=false:=decide_eq_false (λ q=>nomatch q)
theorem bK0 (a:Str)(b:Int):decide ((Sum.inr a:Key)=Sum.inl b)=false:=decide_eq_false (λ q=>nomatch q)
noncomputable def ak4 (prog:aD)(w:World):jM prog w Key where
 is:=bq9
 hash:=bX5 w
 inj:=λ v a b ha hb=>by
  rcases zl ha with⟨i,t,rfl,rfl⟩|⟨x,t,rfl,rfl⟩
  .rcases zl hb with⟨j,u,rfl,e⟩|⟨y,u,rfl,e⟩
   .injection e with e1 _;rw[e1]
   .exact nomatch e
  .rcases zl hb with⟨j,u,rfl,e⟩|⟨y,u,rfl,e⟩
   .exact nomatch e
   .injection e with e1 _;rw[e1]
 byValue:=λ k v h=>by
  rcases zl h with⟨i,t,rfl,rfl⟩|⟨x,t,rfl,rfl⟩<;>rfl
 pyHash:=λ hv h=>by
  rcases zl hv with⟨i,t,rfl,rfl⟩|⟨x,t,rfl,rfl⟩
  .exact wpAny_pyHash_int h
  .exact wpAny_pyHash_str h
 eqBool:=λ hu hv h=>by
  rcases zl hu with⟨i,t,rfl,rfl⟩|⟨x,t,rfl,rfl⟩
  .rcases zl hv with⟨j,u,rfl,rfl⟩|⟨y,u,rfl,rfl⟩
   .rw[by9]at h;exact wpAny_eqBool_int h
   .rw[bH8]at h;exact gU i t y u _ _ _ _ h
  .rcases zl hv with⟨j,u,rfl,rfl⟩|⟨y,u,rfl,rfl⟩
   .rw[bK0]at h;exact gW x t j u _ _ _ _ h
   .rw[bM3]at h;exact wpAny_eqBool_str h
 «strs»:=λ k x t v h=>by
  rcases zl h with⟨i,u,rfl,e⟩|⟨y,u,rfl,e⟩
  .exact nomatch e
  .injection e with e1 _
   subst e1
   cases v<;>rfl
noncomputable abbrev FK:=Option Key
noncomputable def fIs:FK->Value->Bool
 | none,v=>match v with|.none=>true|_=>false
 | some k,v=>bq9 k v
noncomputable def fH (w:World):FK->Int
 | none=>0xFCA86420
 | some k=>bX5 w k
theorem zO {v:Value}(h:fIs none v=true):v=.none:=by
 cases v with
 | none=>rfl
 | _=>exact nomatch h
theorem aP4 {P:aD}{w:World}{A:aN}{E:Value->ae->Prop}{s:ae}{Q:Int->ae->Prop}(h:Q 0xFCA86420 { s with toks:=s.toks+1 }):wpAny (model P w) A (PySem.pyHash .none) Q E s:=by
 have hT:s.TypeIs .none "NoneType":=rfl
 unfold PySem.pyHash pyHashByItsType
 refine ai (wpAny_cRoomFor_byValue rfl ?_)
 refine ai (wpAny_specialOf hT dh.lookup ?_)
 show wpAny _ _ (if(some (Value.builtin "NoneType.__hash__")==some Value.none)=true then _ else _) Q E s
 rw[if_neg (by rw[beq_builtin_none];exact aC)]
 refine ai (wpAny_specialOf hT dh.lookup ?_)
 show wpAny _ _ (callSpecialIfBoundUnlessNone? .none "__hash__" _ >>= _) Q E s
 refine ai (wpAny_callSpecialIfBoundUnlessNone?_slot hT dh (cJ dh hT F.entry_NoneType_hash
   (show wpAny _ _ (retInt 0xFCA86420) _ _ s from wpAny_ret_mkInt ?_) (F.args_NoneType_hash_1 _)))
 show wpAny _ _ (if _ then _ else _) Q E _
 rw[if_pos (by decide)]
 exact az h
noncomputable def am0 (prog:aD)(w:World):jM prog w FK where
 is:=fIs
 hash:=fH w
 inj:=λ v a b ha hb=>by
  cases a with
  | none =>
   cases zO ha
   cases b with
   | none=>rfl
   | some k=>rcases zl hb with⟨_,_,_,e⟩|⟨_,_,_,e⟩<;>exact nomatch e
  | some k =>
   cases b with
   | none=>cases zO hb;rcases zl ha with⟨_,_,_,e⟩|⟨_,_,_,e⟩<;>exact nomatch e
   | some j=>exact congrArg some ((ak4 prog w).inj v k j ha hb)
 byValue:=λ k v h=>by
  cases k with
  | none=>cases zO h;rfl
  | some k=>exact(ak4 prog w).byValue k v h
 pyHash:=λ {A E s k v Q} hv h=>by
  cases k with
  | none=>cases zO hv;exact aP4 h
  | some k=>exact(ak4 prog w).pyHash (k:=k) hv h
 eqBool:=λ {A E s a b u v Q} hu hv h=>by
  cases a with
  | none =>
   cases zO hu
   cases b with
   | none=>cases zO hv;exact et _ prog w E Q h
   | some k =>
    rcases zl hv with⟨i,t,rfl,rfl⟩|⟨x,t,rfl,rfl⟩
    .exact gE i t _ _ _ _ h
    .exact gF x t _ _ _ _ h
  | some k =>
   cases b with
   | none =>
    cases zO hv
    rcases zl hu with⟨i,t,rfl,rfl⟩|⟨x,t,rfl,rfl⟩
    .exact gG i t _ _ _ _ h
    .exact gH x t _ _ _ _ h
   | some j =>
    refine(ak4 prog w).eqBool (a:=k) (b:=j) hu hv ?_
    have e:decide (k=j)=decide (some k=some j):=by simp
    rw[e];exact h
 «strs»:=λ k x t v h=>by
  cases k with
  | none=>exact nomatch zO h
  | some k=>exact(ak4 prog w).strs k x t v h
noncomputable abbrev NI:=Sum FK (List FK)
section
variable (P:aD) (w:World)
noncomputable def NIs (h:Heap):NI->Value->Prop
 | .inl f,v=>fIs f v=true
 | .inr l,v=>∃ b,v=.ref b/\jk (am0 P w) h l b
def bV1 (h:Heap)(ks:List NI)(a:Addr):Prop:=∃ o its n,h.get? a=some o/\o.cls=.type "tuple"/\o.data=.seq its n/\jl (NIs P w h) ks its.toList
end
section
variable {P:aD} {w:World} {h h':Heap}
theorem NIs.inj {x y:NI}{v:Value}(hx:NIs P w h x v)(hy:NIs P w h y v):x=y:=by
 cases x with
 | inl f =>
  cases y with
  | inl g=>exact congrArg Sum.inl ((am0 P w).inj v f g hx hy)
  | inr l =>
   obtain⟨b,rfl,_⟩:=hy
   exact absurd ((am0 P w).byValue f _ hx) (by nofun)
 | inr l =>
  obtain⟨b,rfl,hb⟩:=hx
  cases y with
  | inl g=>exact absurd ((am0 P w).byValue g _ hy) (by nofun)
  | inr m =>
   obtain⟨c,e,hc⟩:=hy
   cases e
   exact congrArg Sum.inr (hb.inj hc)
theorem NIs.all_inj:∀ {x y:List NI} {vs:yG},jl (NIs P w h) x vs->jl (NIs P w h) y vs->x=y
 | _,_,_,.nil,.nil=>rfl
 | _,_,_,.cons a p,.cons b q=>by rw[a.inj b,NIs.all_inj p q]
theorem bV1.inj {a:Addr}{x y:List NI}(hx:bV1 P w h x a)(hy:bV1 P w h y a):x=y:=by
 obtain⟨o,i,n,e,_,d,p⟩:=hx
 obtain⟨F,G,z,e',_,d',p'⟩:=hy
 rw[e]at e';cases e'
 rw[d]at d';cases d'
 exact NIs.all_inj p p'
theorem NIs.keep {x:NI}{v:Value}(k:∀ b l,jk (am0 P w) h l b->jk (am0 P w) h' l b)(hx:NIs P w h x v):NIs P w h' x v:=by
 cases x with
 | inl f=>exact hx
 | inr l=>obtain⟨b,e,p⟩:=hx;exact⟨b,e,k _ _ p⟩
end
inductive V where
 | non|bl (b:Bool)|int (i:Int)|str (x:Str)|byt (b:Array UInt8)|flt (b:UInt64)|ref (a:Addr)|ty (n:String)
 deriving DecidableEq
noncomputable def RelV:V->Value->Prop
 | .non,u=>u=Value.none
 | .bl b,u=>u=Value.bool b
 | .int i,u=>∃ t,u=Value.int i t
 | .str x,u=>∃ t,u=Value.str x t
 | .byt b,u=>∃ t,u=Value.bytes b t
 | .flt b,u=>∃ t,u=Value.float b t
 | .ref a,u=>u=Value.ref a
 | .ty n,u=>u=Value.type n
abbrev Vals:List V->List Value->Prop:=jl RelV
theorem Vals.length {z:List V}{us:yG}(r:Vals z us):z.length=us.length:=jN r
theorem Vals.get:∀ {z:List V} {us:yG} {i:Nat} {x:V},Vals z us->z[i]?=some x->∃ u,us[i]?=some u/\RelV x u
 | _,_,_,_,.nil,e=>by simp at e
 | _,_,0,_,.cons r _,e=>by simp at e;subst e;exact⟨_,rfl,r⟩
 | _,_,i+1,x,.cons _ t,e=>by
  obtain⟨u,F,G⟩:=Vals.get (i:=i) (x:=x) t (by simpa using e)
  exact⟨u,by simpa using F,G⟩
theorem Vals.set {x:V}{u:Value}(r:RelV x u):∀ {z:List V} {us:yG} (i:Nat),Vals z us->Vals (z.set i x) (us.set i u)
 | _,_,_,.nil=>.nil
 | _,_,0,.cons _ t=>.cons r t
 | _,_,i+1,.cons q t=>.cons q (Vals.set r i t)
theorem Vals.append:∀ {z ys:List V} {us ws:yG},Vals z us->Vals ys ws->Vals (z++ys) (us++ws)
 | _,_,_,_,.nil,s=>s
 | _,_,_,_,.cons r t,s=>.cons r (Vals.append t s)
theorem Vals.take:∀ {z:List V} {us:yG} (n:Nat),Vals z us->Vals (z.take n) (us.take n)
 | _,_,0,_=>.nil
 | _,_,_+1,.nil=>.nil
 | _,_,n+1,.cons r t=>.cons r (Vals.take n t)
theorem Vals.drop:∀ {z:List V} {us:yG} (n:Nat),Vals z us->Vals (z.drop n) (us.drop n)
 | _,_,0,r=>r
 | _,_,_+1,.nil=>.nil
 | _,_,n+1,.cons _ t=>Vals.drop n t
noncomputable def bP5:Option V->Option Value->Prop
 | some v,some u=>RelV v u
 | none,none=>True
 | _,_=>False
def KV {κ:Type}:List (κ×V)->List (κ×Value)->Prop:=jl λ(p:κ×V) (q:κ×Value)=>p.1=q.1/\RelV p.2 q.2
noncomputable def kV:Key->V
 | .inl i=>.int i
 | .inr x=>.str x
inductive HO where
 | lst (xs:List V)
 | tup (xs:List V)
 | own (x:Addr)
 | xd (fs:List (Str×V))
 | rng (lo hi:Int)
 | frz (o:Obj) (u:HO)
 | tbl (ps:yJ)
 | ext (C:Heap->Prop)
noncomputable abbrev Hp:=Addr->Option HO
noncomputable def fV:FK->V
 | none=>.non
 | some k=>kV k
noncomputable def NAt (H:Hp):NI->V->Prop
 | .inl f,v=>v=fV f
 | .inr l,v=>∃ c,v=.ref c/\H c=some (.tup (l.map fV))
def NK (H:Hp)(k:List NI)(b:Addr):Prop:=∃ xs,H b=some (.tup xs)/\jl (NAt H) k xs
theorem NAt.mono {H H':Hp}{k:NI}{v:V}(F:∀ b z,H b=some (.tup z)->H' b=some (.tup z))(h:NAt H k v):NAt H' k v:=by
 cases k with
 | inl f=>exact h
 | inr l=>obtain⟨c,e,q⟩:=h;exact⟨c,e,F _ _ q⟩
theorem NK.mono {H H':Hp}{k:List NI}{b:Addr}(G:∀ b F,H b=some (.tup F)->H' b=some (.tup F))(h:NK H k b):NK H' k b:=let⟨F,e,p⟩:=h;⟨F,G _ _ e,Paired.mono (λ _ _ z=>z.mono G) p⟩
noncomputable def upd (H:Hp)(a:Addr)(o:HO):Hp:=λ b=>if b=a then some o else H b
theorem zo {H:Hp}{a:Addr}{o:HO}:upd H a o a=some o:=by unfold upd;rw[if_pos rfl]
theorem zn {H:Hp}{a b:Addr}{o:HO}(h:b≠a):upd H a o b=H b:=by unfold upd;rw[if_neg h]
theorem zf {H:Hp}{a b:Addr}{o:HO}(h:H a=some o)(h':H b=none):a≠b:=by
 intro e;subst e;rw[h]at h';cases h'
section
variable (P:aD) (w:World)
noncomputable def ad4 (P:aD)(w:World)(H:Hp)(h:Heap)(a:Addr):HO->Prop
 | .lst xs=>xs.length<=aM/\∃(its:yG) (n:Nat),Vals xs its/\h.get? a=some { cls:=.type "list",data:=.seq its.toArray n }
 | .tup xs=>xs.length<=aM/\∃ its:List Value,Vals xs its/\IsTup h a its.toArray
 | .own _=>∃ o,h.get? a=some o
 | .xd fs=>∃ mA,h.Ns1 a mA/\∀ f,bP5 (fs.lookup f) (mA f)
 | .rng lo hi=>∃ t u v,h.get? a=some { cls:=.type "range",data:=.fields #[.int lo t,.int hi u,.int 1 v] }
 | .frz o u=>h.get? a=some o/\ad4 P w H h a u
 | .tbl ps=>h.get? a=some { cls:=.none,data:=.fields ps }
 | .ext C=>C h/\(∃ o,h.get? a=some o)/\∀ h1 h2:Heap,C h1->(∀ o,h1.get? a=some o->h2.get? a=some o)->C h2
def HOk (H:Hp)(h:Heap):Prop:=∀ a o,H a=some o->ad4 P w H h a o
end
section
variable {P:aD} {w:World} {H H':Hp} {h h':Heap} {a:Addr} {o:HO}
theorem ad4.lt (x:ad4 P w H h a o):a<h.objs.size:=by
 cases o with
 | lst xs=>obtain⟨_,_,_,_,e⟩:=x;exact aH e
 | tup xs=>obtain⟨_,_,_,p⟩:=x;exact p.lt
 | own y=>obtain⟨_,e⟩:=x;exact aH e
 | xd fs=>obtain⟨_,⟨_,_,_,e,_⟩,_⟩:=x;exact aH e
 | rng lo hi=>obtain⟨_,_,_,e⟩:=x;exact aH e
 | frz ob u=>obtain⟨e,_⟩:=x;exact aH e
 | tbl ps=>exact aH (show h.get? a=some _ from x)
 | ext C=>obtain⟨_,⟨_,e⟩,_⟩:=x;exact aH e
theorem ad4.stay (x:ad4 P w H h a o)(k:∀ b u,(b=a\/H b=some (.own a))->h.get? b=some u->h'.get? b=some u)
  (ho:∀ b,H b=some (.own a)->H' b=some (.own a)) (Y:∀ b F,H b=some (.tup F)->H' b=some (.tup F)):ad4 P w H' h' a o:=by
 induction o with
 | lst F=>obtain⟨z,its,n,r,e⟩:=x;exact⟨z,its,n,r,k _ _ (.inl rfl) e⟩
 | tup F=>obtain⟨z,its,r,ob,e,c⟩:=x;exact⟨z,its,r,ob,k _ _ (.inl rfl) e,c⟩
 | own y=>obtain⟨ob,e⟩:=x;exact⟨ob,k _ _ (.inl rfl) e⟩
 | xd fs=>obtain⟨J,⟨od,es,G,e,c⟩,r⟩:=x;exact⟨J,⟨od,es,G,k _ _ (.inl rfl) e,c⟩,r⟩
 | rng lo hi=>obtain⟨t,u,v,e⟩:=x;exact⟨t,u,v,k _ _ (.inl rfl) e⟩
 | frz ob u ih=>obtain⟨e,q⟩:=x;exact⟨k _ _ (.inl rfl) e,ih q⟩
 | tbl ps =>
  have e:h.get? a=some { cls:=.none,data:=.fields ps }:=x
  show h'.get? a=some { cls:=.none,data:=.fields ps }
  exact k a _ (.inl rfl) e
 | ext C=>obtain⟨p,⟨o,e⟩,st⟩:=x;exact⟨st _ _ p λ o q=>k _ _ (.inl rfl) q,⟨o,k _ _ (.inl rfl) e⟩,st⟩
theorem HOk.lt (x:HOk P w H h)(e:H a=some o):a<h.objs.size:=(x a o e).lt
theorem HOk.fresh (x:HOk P w H h)(e:h.objs.size<=a):H a=none:=by
 cases q:H a with
 | none=>rfl
 | some u=>exact absurd (aG (x.lt q) e) (bK _)
theorem HOk.kept (x:HOk P w H h)(k:∀ b u,h.get? b=some u->h'.get? b=some u):HOk P w H h':=λ a o e =>
 (x a o e).stay (λ b u _ q=>k b u q) (λ _ q=>q) λ _ _ q=>q
theorem HOk.laid (x:HOk P w H h)(k:∀ b u,h.get? b=some u->h'.get? b=some u)(hp:h.objs.size<=a)(new:ad4 P w (upd H a o) h' a o):HOk P w (upd H a o) h':=λ b u e=>by
 have hn:=x.fresh hp
 by_cases hb:b=a
 .subst hb;rw[zo]at e;cases e;exact new
 .rw[zn hb]at e
  exact(x b u e).stay (λ c v _ q=>k c v q) (λ c q=>by rw[zn (zf q hn)];exact q) λ c z q=>by rw[zn (zf q hn)];exact q
end
def Rd (H:Hp)(a:Addr)(u:HO):Prop:=H a=some u\/∃ o,H a=some (.frz o u)
theorem Rd.ok {P:aD}{w:World}{H:Hp}{h:Heap}{a:Addr}{u:HO}(r:Rd H a u)(x:HOk P w H h):ad4 P w H h a u:=by
 rcases r with r|⟨o,r⟩
 .exact x a u r
 .obtain⟨_,q⟩:=x a _ r
  exact q
noncomputable def Mut:Option HO->Prop
 | some (.lst _)=>True
 | some (.ext _)=>True
 | _=>False
section
variable {P:aD} {w:World} {H:Hp} {h h':Heap} {x e:Addr} {o':HO}
theorem HOk.write (ok:HOk P w H h)(mu:Mut (H x))(he:e=x\/H e=some (.own x))(k:∀ b u,b≠e->h.get? b=some u->h'.get? b=some u)(Y:∃ u,h'.get? e=some u)
  (new:ad4 P w (upd H x o') h' x o'):HOk P w (upd H x o') h':=λ b u q=>by
 have F:∀ c y,H c=some (.own y)->c≠x:=λ c y r z=>by subst z;rw[r]at mu;exact mu
 have G:∀ c J,H c=some (.tup J)->c≠x:=λ c J r z=>by subst z;rw[r]at mu;exact mu
 by_cases hb:b=x
 .subst hb;rw[zo]at q;cases q;exact new
 .rw[zn hb]at q
  by_cases hbe:b=e
  .have Z:H b=some (.own x):=by
    rcases he with z|z
    .exact absurd (hbe.trans z) hb
    .rw[hbe];exact z
   rw[q]at Z;cases Z
   obtain⟨v,hv⟩:=Y
   exact⟨v,by rw[hbe];exact hv⟩
  .refine(ok b u q).stay (λ c v hc r=>k c v ?_ r) (λ c r=>by rw[zn (F c b r)];exact r) λ c J r=>by rw[zn (G c J r)];exact r
   rcases hc with rfl|hc
   .exact hbe
   .rintro rfl
    rcases he with z|z
    .exact F c b hc z
    .rw[hc]at z;cases z;exact hb rfl
end
structure Un (fs ex:List Addr)(H H':Hp)(h h':Heap):Prop where
 keep:∀ b o,h.get? b=some o->H b=none->b ∉ fs->b ∉ ex->h'.get? b=some o
 slot:∀ b o,h.get? b=some o->H b=none->b∈fs->b ∉ ex->∃ sl,h'.get? b=some { o with slots:=sl }
 free:∀ b o,h.get? b=some o->H b=none->b ∉ ex->H' b=none
 there:∀ b o,h.get? b=some o->b ∉ ex->∃ o',h'.get? b=some o'
 tups:∀ b xs,H b=some (.tup xs)->H' b=some (.tup xs)
 frzs:∀ b o u,H b=some (.frz o u)->H' b=some (.frz o u)
 tbls:∀ b ps,H b=some (.tbl ps)->∃ more,H' b=some (.tbl (ps++more))
section
variable {fs fs' ex ex':List Addr} {H H1 H2:Hp} {h h1 h2 h':Heap} {a x e:Addr} {o:HO}
theorem Un.any (u:Un fs ex H H1 h h1){b:Addr}{ob:Obj}(q:h.get? b=some ob)(n:H b=none)(hx:b ∉ ex):∃ sl,h1.get? b=some { ob with slots:=sl }:=by
 by_cases hb:b∈fs
 .exact u.slot b ob q n hb hx
 .exact⟨ob.slots,u.keep b ob q n hb hx⟩
theorem Un.kept (k:∀ b u,h.get? b=some u->h'.get? b=some u):Un fs ex H H h h' :=
 ⟨λ b ob q _ _ _=>k b ob q,λ b ob q _ _ _=>⟨ob.slots,k b ob q⟩,λ _ _ _ n _=>n,λ b ob q _=>⟨ob,k b ob q⟩,λ _ _ q=>q,λ _ _ _ q=>q,λ _ ps q=>⟨#[],by rw[q];simp⟩⟩
theorem Un.refl:Un fs ex H H h h:=Un.kept λ _ _ q=>q
theorem Un.laid (k:∀ b u,h.get? b=some u->h'.get? b=some u)(hp:h.objs.size<=a)(hn:H a=none):Un fs ex H (upd H a o) h h' where
 keep:=λ b u q _ _ _=>k b u q
 slot:=λ b u q _ _ _=>⟨u.slots,k b u q⟩
 free:=λ b u q n _=>by rw[zn (aE (aG (aH q) hp))];exact n
 there:=λ b u q _=>⟨u,k b u q⟩
 tups:=λ b z q=>by rw[zn (zf q hn)];exact q
 frzs:=λ b u z q=>by rw[zn (zf q hn)];exact q
 tbls:=λ b ps q=>⟨#[],by rw[zn (zf q hn),q];simp⟩
theorem Un.write (mu:Mut (H x))(G:e=x\/H e=some (.own x))(k:∀ b u,b≠e->h.get? b=some u->h'.get? b=some u)(F:∃ u,h'.get? e=some u):Un fs ex H (upd H x o) h h':=by
 have hx:∀ b,H b=none->b≠x:=λ b n z=>by subst z;rw[n]at mu;exact mu
 have hb:∀ b,H b=none->b≠e:=λ b n z=>by
  subst z
  rcases G with r|r
  .exact hx b n r
  .rw[n]at r;cases r
 have hm:∀ b u,H b=some u->¬ Mut (some u)->b≠x:=λ b u q nm z=>by subst z;rw[q]at mu;exact nm mu
 refine⟨λ b u q n _ _=>k b u (hb b n) q,λ b u q n _ _=>⟨u.slots,k b u (hb b n) q⟩,λ b u q n _=>by rw[zn (hx b n)];exact n,λ b u q _=>?_,
  λ b J q=>by rw[zn (hm b _ q λ z=>z)];exact q,λ b u J q=>by rw[zn (hm b _ q λ z=>z)];exact q,λ b ps q=>⟨#[],by rw[zn (hm b _ q λ z=>z),q];simp⟩⟩
 by_cases hbe:b=e
 .subst hbe;exact F
 .exact⟨u,k b u hbe q⟩
end
noncomputable def trk (h:Heap)(H:Hp):List Addr:=(bB h.objs.size).filter λ a=>(H a).isSome
noncomputable def aY2 (h:Heap)(H:Hp):Heap:=PySem.W.hideAll h (trk h H)
theorem aT0 (h:Heap)(H:Hp):(aY2 h H).objs.size=h.objs.size:=PySem.W.hideAll_size _ _
theorem aj0 {h:Heap}{H:Hp}{b:Addr}{o:Obj}(e:h.get? b=some o)(n:H b=none):(aY2 h H).get? b=some o :=
 PySem.W.hideAll_get _ e λ hm=>by
  have q:(H b).isSome=true:=(i9.mp hm).2
  rw[n]at q;simp at q
theorem bp7 {h:Heap}{H:Hp}{b:Addr}{o:Obj}(e:(aY2 h H).get? b=some o):h.get? b=some o/\H b=none:=by
 have e':h.get? b=some o:=PySem.W.of_hideAll (trk h H) e
 refine⟨e',?_⟩
 cases q:H b with
 | none=>rfl
 | some x =>
  have hm:b∈trk h H:=i9.mpr ⟨cr.mpr (aH e'),by simp[q]⟩
  have z:(aY2 h H).get? b=none:=PySem.W.hideAll_none (trk h H) hm
  rw[z]at e;cases e
noncomputable def bu0 (g h:Heap)(L:Addr):List (Addr×Obj):=(bB h.objs.size).filterMap λ a=>if a=L\/(g.get? a).isSome=true then none else(h.get? a).map λ o=>(a,o)
noncomputable def rest (g h:Heap)(L d:Addr):List (Addr×Obj):=(bu0 g h L).filter λ p=>decide (p.1≠d)
structure Mod (K:ac)(mg:yC)(base:Heap):Prop where
 kin:K.In base
 glob:base.Ns aV mg
 blt:∃ mb,base.Ns fI mb/\∀ x:Str,x ≠ "__name__"->mb x=a7 x
 nolimit:base.NoLimit
structure Cx where
 prog:aD
 w:World
 K:ac
 mg:Str->Option Value
 base:Heap
 A:aN
 N:List Str
 s₀:ae
 H₀:Hp
 env:Env
 outer:List Env
 stack:List Env
 ex:List Addr
 fn:Str->Bool
 calm:Bool
 pn:List (Addr×Obj)
 xe:Value->ae->Prop
noncomputable def frs (l:List Env):List Addr:=l.filterMap (·.frame)
noncomputable abbrev Cx.fs (X:Cx):List Addr:=frs X.outer
def Vis (sc:Scope)(x:Str):Prop:=sc.names.lookup x=some .local\/sc.names.lookup x=some .cell\/sc.names.lookup x=some .free
def Loc (sc:Scope)(x:Str):Prop:=sc.names.lookup x=some .local\/sc.names.lookup x=some .cell
def Look (env:Env)(h:Heap)(m:yC)(x:Str)(u:Value):Prop :=
 (env.kindOf x=some .local/\m x=some u)\/((env.kindOf x=some .cell\/env.kindOf x=some .free)/\∃ c,env.cells.lookup x=some c/\h.IsCell c (some u))
structure Cx.Ok (X:Cx):Prop where
 mod:Mod X.K X.mg X.base
 kind:X.env.scope.kind=.function
 glob:X.env.globals=aV
 blt:X.env.builtins=fI
 above:X.s₀.heap.objs.size<=X.env.locals
 inj:∀ x y c,X.env.cells.lookup x=some c->X.env.cells.lookup y=some c->x=y
 has:∀ x,(X.env.kindOf x=some .cell\/X.env.kindOf x=some .free)->∃ c,X.env.cells.lookup x=some c
 cab:∀ x c,X.fn x=true->X.env.cells.lookup x=some c->X.s₀.heap.objs.size<=c
 hd:X.calm=true->X.A.handled=none
 frames:X.A.frames=some X.stack
 stk:X.stack=X.outer\/(X.stack=X.env::X.outer/\X.env.frame=some X.env.locals)
 exf:∀ b∈X.ex,b≠X.env.locals/\∀ x c,X.env.cells.lookup x=some c->c≠b
 bs:∀ b o,X.base.get? b=some o->X.s₀.heap.get? b=some o/\X.H₀ b=none
 bsz:X.base.objs.size<=X.s₀.heap.objs.size
 noex:∀ b o,X.base.get? b=some o->b ∉ X.ex
 exfs:∀ b∈X.ex,b ∉ X.fs
 funs:X.s₀.heap.FunFrames X.base X.outer
 frf:∀ b∈X.fs,X.H₀ b=none
structure Inv (X:Cx)(pins:yA)(W:List (Option V))(H:Hp)(s:ae):Prop where
 ok:X.Ok
 os:s.os=X.s₀.os
 bare:eR s.gens
 base:Un X.fs X.ex X.H₀ H X.s₀.heap s.heap
 loc:∃ m,s.heap.Ns X.env.locals m/\∀(i:Nat) (x:Str) (v:V),X.N[i]?=some x->W[i]?=some (some v)->Vis X.env.scope x->∃ u,RelV v u/\Look X.env s.heap m x u
 cell:∀ x c,X.env.cells.lookup x=some c->∃ v,s.heap.IsCell c v
 free:H X.env.locals=none
 freeC:∀ x c,X.env.cells.lookup x=some c->H c=none
 pin:∀ p∈X.pn++pins,s.heap.get? p.1=some p.2/\H p.1=none/\p.1≠X.env.locals/\p.1 ∉ X.fs/\∀ v,p.2.data≠.cell v
 hok:HOk X.prog X.w H s.heap
 len:W.length=X.N.length
section
variable {X:Cx} {pins:yA} {W:List (Option V)} {H H':Hp} {s:ae} {h':Heap}
theorem Cx.Ok.nofr (ok:X.Ok){b:Addr}{o:Obj}(e:X.base.get? b=some o):b ∉ X.fs:=λ hb=>by
 have:=(ok.funs.mem hb).1
 rw[e]at this;cases this
theorem Inv.bs (I:Inv X pins W H s):∀ b o,X.base.get? b=some o->s.heap.get? b=some o/\H b=none:=λ b o e =>
 ⟨I.base.keep b o (I.ok.bs b o e).1 (I.ok.bs b o e).2 (I.ok.nofr e) (I.ok.noex b o e),I.base.free b o (I.ok.bs b o e).1 (I.ok.bs b o e).2 (I.ok.noex b o e)⟩
theorem Inv.bk (I:Inv X pins W H s):∀ b o,X.base.get? b=some o->s.heap.get? b=some o:=λ b o e=>(I.bs b o e).1
theorem Inv.mod (I:Inv X pins W H s):Mod X.K X.mg X.base:=I.ok.mod
theorem Inv.kIn (I:Inv X pins W H s):X.K.In s.heap:=I.ok.mod.kin.keeps I.bk
theorem Inv.nolimit (I:Inv X pins W H s):s.heap.NoLimit:=I.ok.mod.nolimit.keeps I.bk
theorem Inv.lt (I:Inv X pins W H s):X.env.locals<s.heap.objs.size:=let⟨_,hn,_⟩:=I.loc;hn.lt
theorem Inv.sz (I:Inv X pins W H s):X.s₀.heap.objs.size<=s.heap.objs.size:=al I.ok.above (eS I.lt)
theorem Inv.nofs (I:Inv X pins W H s){a:Addr}(h:s.heap.objs.size<=a):a ∉ X.fs:=λ hb=>by
 obtain⟨_,o,ho,_⟩:=I.ok.funs.mem hb
 exact absurd (aG (aH ho) (al I.sz h)) (bK _)
theorem Inv.cne (I:Inv X pins W H s):∀ x c,X.env.cells.lookup x=some c->c≠X.env.locals:=λ x c e z=>by
 obtain⟨v,o,ho,hd⟩:=I.cell x c e
 obtain⟨m,⟨J,es,Y,G,F,_⟩,_⟩:=I.loc
 rw[z,G]at ho;cases ho;rw[F]at hd;cases hd
theorem Inv.funs (I:Inv X pins W H s):s.heap.FunFrames X.base X.outer:=by
 have all:∀(l:List Env),(∀ b∈frs l,b∈X.fs)->X.s₀.heap.FunFrames X.base l->s.heap.FunFrames X.base l:=by
  intro l
  induction l with
  | nil=>intro _ _;trivial
  | cons env r ih =>
   intro hs hl
   obtain⟨hk,⟨L,o,hf,hn,ho,hd⟩,hr⟩:=hl
   have F:L∈X.fs:=hs L (by unfold frs;rw[bF,hf];exact aw)
   obtain⟨sl,e⟩:=I.base.slot L o ho (I.ok.frf L F) F λ z=>I.ok.exfs L z F
   exact⟨hk,⟨L,_,hf,hn,e,hd⟩,ih (λ b hb=>hs b (by unfold frs;rw[bF,hf];exact ak _ hb)) hr⟩
 exact all X.outer (λ _ hb=>hb) I.ok.funs
theorem Inv.stack (I:Inv X pins W H s):s.heap.FunFrames X.base X.stack:=by
 rcases I.ok.stk with e|⟨e,hf⟩
 .rw[e];exact I.funs
 .rw[e]
  obtain⟨m,hn,_⟩:=I.loc
  refine .cons (by rw[I.ok.kind];decide) hf hn ?_ I.funs
  exact Heap.get?_none_of_le (al I.ok.bsz I.ok.above)
theorem Inv.stkSub (I:Inv X pins W H s):∀ b∈frs X.stack,b∈X.env.locals::X.fs:=λ b hb=>by
 rcases I.ok.stk with e|⟨e,hf⟩
 .rw[e]at hb;exact ak _ hb
 .rw[e]at hb
  unfold frs at hb
  rw[bF,hf]at hb
  exact hb
theorem Inv.stkFree (I:Inv X pins W H s):∀ b∈frs X.stack,H b=none:=λ b hb=>by
 rcases ax.mp (I.stkSub b hb)with e|hb
 .rw[e];exact I.free
 .obtain⟨_,o,ho,_⟩:=I.ok.funs.mem hb
  exact I.base.free b o ho (I.ok.frf b hb) λ z=>I.ok.exfs b z hb
theorem Inv.step {g':Array GenState}{t':Nat}{d':Drawn}{ch:List Addr}(I:Inv X pins W H s)
  (G:∀ b∈ch,(b∈X.ex\/X.s₀.heap.objs.size<=b)/\b≠X.env.locals/\(∀ x c,X.env.cells.lookup x=some c->c≠b)/\∀ p∈X.pn++pins,p.1≠b)
  (keep:∀ b o,b≠X.env.locals->b ∉ X.fs->b ∉ ch->s.heap.get? b=some o->H b=none->h'.get? b=some o)
  (slot:∀ b o,b≠X.env.locals->b∈X.fs->b ∉ ch->s.heap.get? b=some o->H b=none->∃ sl,h'.get? b=some { o with slots:=sl }) (free:∀ b o,b ∉ ch->s.heap.get? b=some o->H b=none->H' b=none)
  (there:∀ b o,b ∉ ch->s.heap.get? b=some o->∃ o',h'.get? b=some o')
  (tups:∀ b Z,H b=some (.tup Z)->H' b=some (.tup Z)) (frzs:∀ b o u,H b=some (.frz o u)->H' b=some (.frz o u)) (tbls:∀ b ps,H b=some (.tbl ps)->∃ a1,H' b=some (.tbl (ps++a1)))
  (ns:∀ m,s.heap.Ns X.env.locals m->h'.Ns X.env.locals m) (hok:HOk X.prog X.w H' h') (hg:eR g') :
  Inv X pins W H' { s with heap:=h',gens:=g',drawn:=d',toks:=t' }:=by
 have a0:∀ b o,X.s₀.heap.get? b=some o->b≠X.env.locals:=λ b o e=>aE (aG (aH e) I.ok.above)
 have Y:∀ b o,X.s₀.heap.get? b=some o->b ∉ X.ex->b ∉ ch:=λ b o e hx hb=>by
  rcases(G b hb).1 with z|z
  .exact hx z
  .exact absurd (aG (aH e) z) (bK _)
 have F:∀ x c,X.env.cells.lookup x=some c->∀ v,s.heap.IsCell c v->h'.IsCell c v:=λ x c e v ⟨o,ho,hd⟩=>by
  have J:c ∉ ch:=λ z=>(G c z).2.2.1 x c e rfl
  by_cases hc:c∈X.fs
  .obtain⟨sl,q⟩:=slot c o (I.cne x c e) hc J ho (I.freeC x c e)
   exact⟨_,q,hd⟩
  .exact⟨o,keep c o (I.cne x c e) hc J ho (I.freeC x c e),hd⟩
 refine⟨I.ok,I.os,hg,⟨λ b o e n hb hx=>?_,λ b o e n hb hx=>?_,λ b o e n hx=>?_,λ b o e hx=>?_,λ b Z e=>tups b Z (I.base.tups b Z e),λ b o Z e=>frzs b o Z (I.base.frzs b o Z e),λ b ps e=>?_⟩,?_,λ x c e=>?_,?_,λ x c e=>?_,λ p hp=>?_,hok,I.len⟩
 .exact keep b o (a0 b o e) hb (Y b o e hx) (I.base.keep b o e n hb hx) (I.base.free b o e n hx)
 .obtain⟨sl,e1⟩:=I.base.slot b o e n hb hx
  obtain⟨a2,e2⟩:=slot b _ (a0 b o e) hb (Y b o e hx) e1 (I.base.free b o e n hx)
  exact⟨a2,e2⟩
 .obtain⟨o',e1⟩:=I.base.there b o e hx
  exact free b o' (Y b o e hx) e1 (I.base.free b o e n hx)
 .obtain⟨o',e1⟩:=I.base.there b o e hx
  exact there b o' (Y b o e hx) e1
 .obtain⟨m1,e1⟩:=I.base.tbls b ps e
  obtain⟨m2,e2⟩:=tbls b _ e1
  exact⟨m1++m2,by rw[e2,gX]⟩
 .obtain⟨m,hn,hl⟩:=I.loc
  refine⟨m,ns m hn,λ i x v e1 e2 e3=>?_⟩
  obtain⟨u,r,l⟩:=hl i x v e1 e2 e3
  refine⟨u,r,?_⟩
  rcases l with l|⟨k,c,e,z⟩
  .exact .inl l
  .exact .inr ⟨k,c,e,F x c e _ z⟩
 .obtain⟨v,z⟩:=I.cell x c e
  exact⟨v,F x c e v z⟩
 .obtain⟨m,⟨o,_,_,ho,_⟩,_⟩:=I.loc
  exact free _ o (λ z=>(G _ z).2.1 rfl) ho I.free
 .obtain⟨v,o,ho,hd⟩:=I.cell x c e
  exact free c o (λ z=>(G c z).2.2.1 x c e rfl) ho (I.freeC x c e)
 .obtain⟨e,n,ne,nf,d⟩:=I.pin p hp
  have J:p.1 ∉ ch:=λ z=>(G p.1 z).2.2.2 p hp rfl
  exact⟨keep p.1 p.2 ne nf J e n,free p.1 p.2 J e n,ne,nf,d⟩
theorem Inv.un {t':Nat}(I:Inv X pins W H s)(u:Un X.fs [] H H' s.heap h')(hok:HOk X.prog X.w H' h'):Inv X pins W H' { s with heap:=h',toks:=t' }:=by
 obtain⟨m,⟨o,es,ep,ho,r⟩,_⟩:=id I.loc
 obtain⟨sl,Y⟩:=u.any ho I.free (by simp)
 exact I.step (g':=s.gens) (d':=s.drawn) (ch:=[]) (λ _ z=>nomatch z) (λ b o _ hb _ e n=>u.keep b o e n hb (by simp)) (λ b o _ hb _ e n=>u.slot b o e n hb (by simp)) (λ b o _ e n=>u.free b o e n (by simp)) (λ b o _ e=>u.there b o e (by simp)) u.tups u.frzs u.tbls (λ m' hm=>by
  obtain⟨o',J,G,F,Z⟩:=hm
  rw[ho]at F;cases F
  exact⟨_,J,G,Y,Z⟩) hok I.bare
theorem Inv.call {g':Array GenState}{t':Nat}{d':Drawn}{ch:List Addr}(I:Inv X pins W H s)(u:Un (frs X.stack) ch H H' s.heap h')(hok:HOk X.prog X.w H' h')(hg:eR g')
  (G:∀ b∈ch,(b∈X.ex\/X.s₀.heap.objs.size<=b)/\b≠X.env.locals/\(∀ x c,X.env.cells.lookup x=some c->c≠b)/\∀ p∈X.pn++pins,p.1≠b) :
  Inv X pins W H' { s with heap:=h',gens:=g',drawn:=d',toks:=t' }:=by
 obtain⟨m,⟨o,es,ep,ho,r⟩,_⟩:=id I.loc
 obtain⟨sl,J⟩:=u.any ho I.free λ z=>(G _ z).2.1 rfl
 exact I.step (ch:=ch) G (λ b o J hb hc e n=>u.keep b o e n (λ z=>(ax.mp (I.stkSub b z)).elim J hb) hc) (λ b o _ _ hc e n=>u.any e n hc) (λ b o hc e n=>u.free b o e n hc) (λ b o hc e=>u.there b o e hc) u.tups u.frzs u.tbls (λ m' hm=>by
  obtain⟨o',Z,Y,F,r'⟩:=hm
  rw[ho]at F;cases F
  exact⟨_,Z,Y,J,r'⟩) hok hg
theorem Inv.turned {t':Nat}{it:Addr}(I:Inv X pins W H s)(k:∀ b o,b≠it->s.heap.get? b=some o->h'.get? b=some o)(hn:H it=none)(G:it≠X.env.locals)
  (Y:it∈X.ex\/X.s₀.heap.objs.size<=it) (Z:∀ x c,X.env.cells.lookup x=some c->c≠it) (J:∀ p∈X.pn++pins,p.1≠it):Inv X pins W H { s with heap:=h',toks:=t' }:=by
 have F:∀ b u,H b=some u->b≠it:=λ b u e z=>by rw[z,hn]at e;cases e
 refine I.step (g':=s.gens) (d':=s.drawn) (ch:=[it]) (λ b hb=>?_) (λ b o _ _ hc e _=>k b o (λ z=>hc (by simp[z])) e) (λ b o _ _ hc e _=>⟨o.slots,k b o (λ z=>hc (by simp[z])) e⟩) (λ _ _ _ _ n=>n)
  (λ b o hc e=>⟨o,k b o (λ z=>hc (by simp[z])) e⟩) (λ _ _ e=>e) (λ _ _ _ e=>e) (λ b ps e=>⟨#[],by rw[e];simp⟩) (λ m hm=>?_) (λ b u e=>?_) I.bare
 .have e:b=it:=by simpa using hb
  subst e
  exact⟨Y,G,Z,J⟩
 .obtain⟨o,es,ep,ho,r⟩:=hm
  exact⟨o,es,ep,k _ o (dq G) ho,r⟩
 .refine(I.hok b u e).stay (λ c v hc q=>k c v ?_ q) (λ _ q=>q) λ _ _ q=>q
  rcases hc with z|z
  .rw[z];exact F b u e
  .exact F c _ z
theorem Inv.tok (I:Inv X pins W H s)(t:Nat):Inv X pins W H { s with toks:=t }:=I.un (h':=s.heap) (t':=t) Un.refl I.hok
theorem Inv.kept {t':Nat}(I:Inv X pins W H s)(k:∀ b u,s.heap.get? b=some u->h'.get? b=some u):Inv X pins W H { s with heap:=h',toks:=t' }:=I.un (Un.kept k) (I.hok.kept k)
theorem Inv.laid {a:Addr}{o:HO}{t':Nat}(I:Inv X pins W H s)(k:∀ b u,s.heap.get? b=some u->h'.get? b=some u)(hp:s.heap.objs.size<=a)(new:ad4 X.prog X.w (upd H a o) h' a o) :
  Inv X pins W (upd H a o) { s with heap:=h',toks:=t' }:=I.un (Un.laid k hp (I.hok.fresh hp)) (I.hok.laid k hp new)
theorem Inv.write {x e:Addr}{o:HO}{t':Nat}(I:Inv X pins W H s)(mu:Mut (H x))(F:e=x\/H e=some (.own x))(k:∀ b u,b≠e->s.heap.get? b=some u->h'.get? b=some u)(z:∃ u,h'.get? e=some u)
  (new:ad4 X.prog X.w (upd H x o) h' x o):Inv X pins W (upd H x o) { s with heap:=h',toks:=t' }:=I.un (Un.write mu F k z) (I.hok.write mu F k z new)
theorem Inv.pins_of {F:yA}(I:Inv X pins W H s)(h:∀ p∈F,s.heap.get? p.1=some p.2/\H p.1=none/\p.1≠X.env.locals/\p.1 ∉ X.fs/\∀ v,p.2.data≠.cell v):Inv X F W H s :=
 ⟨I.ok,I.os,I.bare,I.base,I.loc,I.cell,I.free,I.freeC,λ p hp=>(cf.mp hp).elim (λ z=>I.pin p (cE _ z)) (h p),I.hok,I.len⟩
theorem au1 {N:yH}(hN:N.Nodup){i j:Nat}{x:Str}(a:N[i]?=some x)(b:N[j]?=some x):i=j:=by
 obtain⟨z,e1⟩:=af.mp a
 obtain⟨F,e2⟩:=af.mp b
 exact(List.getElem_inj hN).mp (e1.trans e2.symm)
theorem aw9 {M:Model}{A:aN}{E:Value->ae->Prop}{i:Nat}{x:Str}{v:V}{u:Value}{Q:Unit->ae->Prop}(I:Inv X pins W H s)(hN:X.N.Nodup)(hi:X.N[i]?=some x)(hx:Loc X.env.scope x)(r:RelV v u)
  (h:∀ s',Inv X pins (W.set i (some v)) H s'->(∃ a,eT a s.heap s'.heap/\(a=X.env.locals\/X.env.cells.lookup x=some a))->Q () s') (hf:X.fn x=true\/X.env.scope.names.lookup x=some .local:=by first|exact .inl rfl|exact .inr rfl|assumption):wpAny M A (jU X.env x u) Q E s:=by
 obtain⟨m,hn,hl⟩:=id I.loc
 have a2:(X.env.scope.kind==.class||(X.env.scope.kind==.module&&X.env.locals != X.env.globals))=false:=by rw[I.ok.kind];rfl
 have a0:i < W.length:=by rw[I.len];exact(af.mp hi).1
 have cne:=I.cne
 have F:∀ {a:Addr} {h':Heap},(∃ o,s.heap.get? a=some o/\H a=none)->eT a s.heap h'->HOk X.prog X.w H h':=λ {a h'} ha hs b ob e=>by
  obtain⟨_,_,G⟩:=ha
  refine(I.hok b ob e).stay (λ c w' hc q=>(hs.2 c ?_).trans q) (λ _ q=>q) λ _ _ q=>q
  rintro rfl
  rcases hc with rfl|hc
  .rw[G]at e;cases e
  .rw[G]at hc;cases hc
 rcases hx with hk|hk
 .refine wpAny_storeName_local hk hn (λ h' a4 hs=>?_) a2
  obtain⟨oL,_,_,a3,_⟩:=id hn
  refine h _ ⟨I.ok,I.os,I.bare,⟨λ b o e n hb hx=>?_,λ b o e n hb hx=>?_,I.base.free,λ b o e hx=>?_,I.base.tups,I.base.frzs,I.base.tbls⟩,⟨_,a4,λ j y v' e1 e2 e3=>?_⟩,λ y c e=>?_,I.free,I.freeC,λ p hp=>?_,F ⟨oL,a3,I.free⟩ hs,by simpa using I.len⟩ ⟨_,hs,.inl rfl⟩
  .exact(hs.2 b (aE (aG (aH e) I.ok.above))).trans (I.base.keep b o e n hb hx)
  .obtain⟨sl,e1⟩:=I.base.slot b o e n hb hx
   exact⟨sl,(hs.2 b (aE (aG (aH e) I.ok.above))).trans e1⟩
  .obtain⟨o',e1⟩:=I.base.there b o e hx
   exact⟨o',(hs.2 b (aE (aG (aH e) I.ok.above))).trans e1⟩
  .by_cases hj:j=i
   .subst hj
    rw[hi]at e1;cases e1
    rw[aR a0]at e2
    cases e2
    exact⟨u,r,.inl ⟨hk,by simp⟩⟩
   .rw[aU (dq hj)]at e2
    obtain⟨u',r',q⟩:=hl j y v' e1 e2 e3
    refine⟨u',r',?_⟩
    rcases q with⟨k,e⟩|⟨k,c,e,z⟩
    .refine .inl ⟨k,?_⟩
     have:y≠x:=λ e=>hj (au1 hN e1 (e▸hi))
     simp[this,e]
    .exact .inr ⟨k,c,e,z.sameBut hs (cne y c e)⟩
  .obtain⟨w',z⟩:=I.cell y c e
   exact⟨w',z.sameBut hs (cne y c e)⟩
  .obtain⟨e,n,ne,nf,d⟩:=I.pin p hp
   exact⟨(hs.2 p.1 ne).trans e,n,ne,nf,d⟩
 .have J:X.fn x=true:=by
   rcases hf with z|z
   .exact z
   .rw[z]at hk;cases hk
  obtain⟨c,hc⟩:=I.ok.has x (.inl hk)
  obtain⟨w',z⟩:=I.cell x c hc
  refine wpAny_storeName_cell I.ok.kind hk hc z (λ h' a1 hs=>?_)
  obtain⟨oc,Z,Y⟩:=id z
  refine h { s with heap:=h' } ⟨I.ok,I.os,I.bare,⟨λ b o e n hb hx=>?_,λ b o e n hb hx=>?_,I.base.free,λ b o e hx=>?_,I.base.tups,I.base.frzs,I.base.tbls⟩,⟨m,hn.sameBut hs (dq (cne x c hc)),λ j y v' e1 e2 e3=>?_⟩,λ y c' e=>?_,I.free,I.freeC,λ p hp=>?_,F ⟨oc,Z,I.freeC x c hc⟩ hs,by simpa using I.len⟩ ⟨c,hs,.inr hc⟩
  .exact(hs.2 b (aE (aG (aH e) (I.ok.cab x c J hc)))).trans (I.base.keep b o e n hb hx)
  .obtain⟨sl,e1⟩:=I.base.slot b o e n hb hx
   exact⟨sl,(hs.2 b (aE (aG (aH e) (I.ok.cab x c J hc)))).trans e1⟩
  .obtain⟨o',e1⟩:=I.base.there b o e hx
   exact⟨o',(hs.2 b (aE (aG (aH e) (I.ok.cab x c J hc)))).trans e1⟩
  .by_cases hj:j=i
   .subst hj
    rw[hi]at e1;cases e1
    rw[aR a0]at e2
    cases e2
    exact⟨u,r,.inr ⟨.inl hk,c,hc,a1⟩⟩
   .rw[aU (dq hj)]at e2
    obtain⟨u',r',q⟩:=hl j y v' e1 e2 e3
    refine⟨u',r',?_⟩
    rcases q with q|⟨k,c',e,z'⟩
    .exact .inl q
    .refine .inr ⟨k,c',e,z'.sameBut hs ?_⟩
     rintro rfl
     exact hj (au1 hN e1 (I.ok.inj _ _ _ e hc▸hi))
  .by_cases hcc:c'=c
   .subst hcc;exact⟨_,a1⟩
   .obtain⟨w2,z2⟩:=I.cell y c' e
    exact⟨w2,z2.sameBut hs hcc⟩
  .obtain⟨e,n,ne,nf,d⟩:=I.pin p hp
   refine⟨(hs.2 p.1 ?_).trans e,n,ne,nf,d⟩
   intro q
   rw[q,Z]at e
   have q':oc=p.2:=ay e
   exact d w' (by rw[<-q'];exact Y)
theorem aj1 {M:Model}{A:aN}{E:Value->ae->Prop}{i:Nat}{x:Str}{v:V}{u:Value}{Q:Unit->ae->Prop}(I:Inv X pins W H s)(hN:X.N.Nodup)(z:X.N[i]?=some x)(hx:Loc X.env.scope x)(r:RelV v u)
  (h:∀ s',Inv X pins (W.set i (some v)) H s'->Q () s') (hf:X.fn x=true\/X.env.scope.names.lookup x=some .local:=by first|exact .inl rfl|exact .inr rfl|assumption):wpAny M A (jU X.env x u) Q E s :=
 aw9 I hN z hx r (λ s' F _=>h s' F) hf
theorem Inv.call' {s':ae}{ch:List Addr}(I:Inv X pins W H s)(ho:s'.os=s.os)(u:Un (frs X.stack) ch H H' s.heap s'.heap)(hok:HOk X.prog X.w H' s'.heap)(hg:eR s'.gens)
  (z:∀ b∈ch,(b∈X.ex\/X.s₀.heap.objs.size<=b)/\b≠X.env.locals/\(∀ x c,X.env.cells.lookup x=some c->c≠b)/\∀ p∈X.pn++pins,p.1≠b):Inv X pins W H' s':=by
 obtain⟨h',g',d',t',F⟩:=s'
 have e:F=s.os:=ho
 subst e
 exact I.call (g':=g') (t':=t') (d':=d') u hok hg z
end
abbrev XK:=Value->Option Addr->Hp->Prop
noncomputable abbrev St:=List (Option V)
abbrev VK:=V->Hp->Prop
abbrev TE:=St->Hp->VK->Prop
abbrev TT:=St->Hp->(Bool->Hp->Prop)->Prop
abbrev TA:=St->Hp->(List V->Hp->Prop)->Prop
structure Ends where
 nx:St->Hp->Prop
 rt:VK
 bk:St->Hp->Prop:=λ _ _=>False
 ct:St->Hp->Prop:=λ _ _=>False
abbrev TS:=Ends->St->Hp->Prop
def EP (X:Cx)(pins:yA)(W:St)(Q:VK)(u:Value)(s':ae):Prop:=∃ v H',Inv X pins W H' s'/\RelV v u/\Q v H'
def TP (X:Cx)(pins:yA)(W:St)(Q:Bool->Hp->Prop)(b:Bool)(s':ae):Prop:=∃ H',Inv X pins W H' s'/\Q b H'
def AP (X:Cx)(pins:yA)(W:St)(Q:List V->Hp->Prop)(us:yG)(s':ae):Prop:=∃ vs H',Inv X pins W H' s'/\Vals vs us/\Q vs H'
def SP (X:Cx)(pins:yA)(D:Ends)(f:Flow)(s':ae):Prop :=
 match f with
 | .next=>∃ W' H',Inv X pins W' H' s'/\D.nx W' H'
 | .brk=>∃ W' H',Inv X pins W' H' s'/\D.bk W' H'
 | .cont=>∃ W' H',Inv X pins W' H' s'/\D.ct W' H'
 | .ret u=>∃ v W' H',Inv X pins W' H' s'/\RelV v u/\D.rt v H'
def PE (X:Cx)(e:Expr)(t:TE):Prop :=
 ∀(pins:yA) (s:ae) (W:St) (H:Hp) (Q:VK),Inv X pins W H s->t W H Q->wpAny (model X.prog X.w) X.A (eval e X.env) (EP X pins W Q) X.xe s
def PT (X:Cx)(e:Expr)(t:TT):Prop :=
 ∀(pins:yA) (s:ae) (W:St) (H:Hp) (Q:Bool->Hp->Prop),Inv X pins W H s->t W H Q->wpAny (model X.prog X.w) X.A (dD e X.env (eval e X.env)) (TP X pins W Q) X.xe s
def PW (X:Cx)(e:Expr)(t:TT):Prop :=
 ∀(whole:Sem Value) (pins:yA) (s:ae) (W:St) (H:Hp) (Q:Bool->Hp->Prop),Inv X pins W H s->t W H Q->wpAny (model X.prog X.w) X.A (dD e X.env whole) (TP X pins W Q) X.xe s
theorem PW.pt {X:Cx}{e:Expr}{t:TT}(h:PW X e t):PT X e t:=h _
def PA (X:Cx)(es:yK)(t:TA):Prop :=
 ∀(pos:Pos) (pins:yA) (s:ae) (W:St) (H:Hp) (Q:List V->Hp->Prop),Inv X pins W H s->t W H Q->wpAny (model X.prog X.w) X.A (spliced (dS pos (bp es X.env))) (AP X pins W Q) X.xe s
def PS (X:Cx)(st:Stmt)(t:TS):Prop :=
 ∀(pins:yA) (s:ae) (W:St) (H:Hp) (D:Ends),Inv X pins W H s->t D W H->wpAny (model X.prog X.w) X.A (exec st X.env) (SP X pins D) X.xe s
def PSs (X:Cx)(st:yL)(t:TS):Prop :=
 ∀(pins:yA) (s:ae) (W:St) (H:Hp) (D:Ends),Inv X pins W H s->t D W H->wpAny (model X.prog X.w) X.A (execs st X.env) (SP X pins D) X.xe s
theorem thn {α:Type}{t:Sem α}{Q z:α->ae->Prop}{M:Model}{A:aN}{E:Value->ae->Prop}{s:ae}(h:wpAny M A t Q E s)(F:∀ a s,Q a s->z a s):wpAny M A t z E s:=aZ h F λ _ _ x=>x
section
variable {X:Cx}
theorem bin {a b:Expr}{J tb:TE}(ha:PE X a J)(hb:PE X b tb){z:yA}{s:ae}{W:St}{H:Hp}{R:V->V->Hp->Prop}(I:Inv X z W H s)(h:J W H λ x G=>tb W G λ y F=>R x y F)
  {α:Type} {Q:α->ae->Prop} {f:Value->Value->Sem α}
  (hf:∀ v u s2 x y F,Inv X z W F s2->RelV x v->RelV y u->R x y F->wpAny (model X.prog X.w) X.A (f v u) Q X.xe s2) :
  wpAny (model X.prog X.w) X.A (eval a X.env) (λ v s₁=>wpAny (model X.prog X.w) X.A (eval b X.env) (λ u Y=>wpAny (model X.prog X.w) X.A (f v u) Q X.xe Y) X.xe s₁) X.xe s:=by
 refine thn (ha z s W H _ I h) λ v s1 ⟨x,G,Z,r1,q1⟩=>?_
 refine thn (hb z s1 W G _ Z q1) λ u s2 ⟨y,F,I2,r2,q2⟩=>?_
 exact hf v u s2 x y F I2 r1 r2 q2
def bi2 (i:Nat):TE:=λ W H Q=>∃ v,W[i]?=some (some v)/\Q v H
def tC (v:V):TE:=λ _ H Q=>Q v H
theorem av4 {i:Nat}{x:Str}{pos:Pos}(hN:X.N[i]?=some x)(hv:Vis X.env.scope x)(hd:(x==("__debug__":Str))=false:=by decide)(hcd:(x==("__classdict__":Str))=false:=by decide):PE X (.Name x pos) (bi2 i):=by
 intro z s W H Q I h
 obtain⟨v,e,h⟩:=h
 obtain⟨m,hn,hl⟩:=I.loc
 obtain⟨u,r,l⟩:=hl i x v hN e hv
 have fin:EP X z W Q u s:=⟨v,H,I,r,h⟩
 rcases l with⟨hk,hm⟩|⟨hk,c,hc,hcell⟩
 .exact jm (wpAny_loadName_local I.ok.kind hk hn hm fin) hd
 .rcases hk with hk|hk
  .exact jm (wpAny_loadName_cell I.ok.kind hk hc hcell fin) hd
  .exact jm (wpAny_loadName_free I.ok.kind hk hc hcell fin hcd) hd
theorem aP7 {i j pos}:PE X (.Constant (.int i) j pos) (tC (.int i)):=λ _ _ _ H _ I h=>wpAny_Constant_int ⟨.int i,H,I.tok _,⟨_,rfl⟩,h⟩
theorem bq0 {b j pos}:PE X (.Constant (.bool b) j pos) (tC (.bl b)):=λ _ _ _ H _ I h=>Constant_bool ⟨.bl b,H,I,rfl,h⟩
theorem bK3 {j pos}:PE X (.Constant .none j pos) (tC .non):=λ _ _ _ H _ I h=>Constant_none ⟨.non,H,I,rfl,h⟩
theorem ay0 {x j pos}:PE X (.Constant (.str x) j pos) (tC (.str x)):=λ _ _ _ H _ I h=>Calls.Constant_str ⟨.str x,H,I.tok _,⟨_,rfl⟩,h⟩
def Gl (X:Cx)(x:Str):Prop:=X.env.kindOf x=some .globalImplicit
theorem as2 {E:Value->ae->Prop}{z:yA}{s:ae}{W:St}{H:Hp}{x:Str}{u:Value}{pos:Pos}{Q:Value->ae->Prop}(I:Inv X z W H s)(hg:Gl X x)(hm:X.mg x=some u)(h:Q u s)
  (hd:(x==("__debug__":Str))=false:=by decide):wpAny (model X.prog X.w) X.A (eval (.Name x pos) X.env) Q E s :=
 eX I.ok.kind hg (Calls.loadGlobal_global (by rw[I.ok.glob];exact I.mod.glob.keeps I.bk) hm h) hd
theorem aA3 {E:Value->ae->Prop}{z:yA}{s:ae}{W:St}{H:Hp}{x:Str}{u:Value}{pos:Pos}{Q:Value->ae->Prop}(I:Inv X z W H s)(hg:Gl X x)(hm:X.mg x=none)(hv:a7 x=some u)(h:Q u s)
  (hn:x ≠ "__name__":=by decide) (hd:(x==("__debug__":Str))=false:=by decide):wpAny (model X.prog X.w) X.A (eval (.Name x pos) X.env) Q E s:=by
 obtain⟨mb,F,G⟩:=I.mod.blt
 exact eX I.ok.kind hg (Calls.loadGlobal_builtin (by rw[I.ok.glob];exact I.mod.glob.keeps I.bk) hm (by rw[I.ok.blt];exact F.keeps I.bk) ((G x hn).trans hv) h) hd
theorem ai4 {x:Str}{v:V}{u:Value}{pos:Pos}(hg:Gl X x)(hm:X.mg x=some u)(r:RelV v u)(hd:(x==("__debug__":Str))=false:=by decide):PE X (.Name x pos) (tC v) :=
 λ _ _ _ H _ I h=>as2 I hg hm ⟨v,H,I,r,h⟩ hd
theorem aQ8 {x:Str}{v:V}{u:Value}{pos:Pos}(hg:Gl X x)(hm:X.mg x=none)(hv:a7 x=some u)(r:RelV v u)(hn:x ≠ "__name__":=by decide)(hd:(x==("__debug__":Str))=false:=by decide):PE X (.Name x pos) (tC v) :=
 λ _ _ _ H _ I h=>aA3 I hg hm hv ⟨v,H,I,r,h⟩ hn hd
variable {a b:Expr} {ta tb:TE} {pos:Pos}
def PC (X:Cx)(op:CmpOp)(a b:Expr)(t:TE):Prop :=
 ∀(pins:yA) (s:ae) (W:St) (H:Hp) (Q:VK),Inv X pins W H s->t W H Q ->
  wpAny (model X.prog X.w) X.A (eval a X.env) (λ v s₁=>wpAny (model X.prog X.w) X.A (eval b X.env) (λ u s₂=>wpAny (model X.prog X.w) X.A (c5 op v u) (EP X pins W Q) X.xe s₂) X.xe s₁) X.xe s
theorem aF9 (b:Expr){op:CmpOp}(h:op≠.In)(z:op≠.NotIn):c6 op b=false:=by
 have e1:(op==CmpOp.In)=false:=by cases op<;>first|rfl|exact absurd rfl h
 have e2:(op==CmpOp.NotIn)=false:=by cases op<;>first|rfl|exact absurd rfl z
 cases b<;>simp[c6,e1,e2]
def bZ7 (ta:TE):TE:=λ W H Q=>ta W H λ x H1=>Q (.bl (decide (x=.non))) H1
theorem RelV.none_iff {x:V}{v:Value}(r:RelV x v):(v==Value.none)=decide (x=.non):=by
 cases x with
 | non=>cases r;rfl
 | bl _=>cases r;rfl
 | int _=>obtain⟨t,rfl⟩:=r;rfl
 | str _=>obtain⟨t,rfl⟩:=r;rfl
 | byt _=>obtain⟨t,rfl⟩:=r;rfl
 | flt _=>obtain⟨t,rfl⟩:=r;rfl
 | ref _=>cases r;rfl
 | ty _=>cases r;rfl
theorem bi5 {j pos'}(ha:PE X a ta):PC X .Is a (.Constant .none j pos') (bZ7 ta):=by
 intro z s W H Q I h
 refine thn (ha z s W H _ I h) λ v s1 ⟨x,J,F,r1,G⟩=>?_
 exact Constant_none (is_none_gen ⟨.bl _,J,F,by rw[r1.none_iff];rfl,G⟩)
def tB (t:TE):TT:=λ W H Q=>t W H λ x H1=>∃ c,x=.bl c/\Q c H1
theorem bB6 {op:CmpOp}{t:TE}(h:PC X op a b t)(F:c6 op b=false:=by first|exact aF9 _ (by decide) (by decide)|rfl):PE X (.Compare a [op] [b] pos) t:=λ z s W H Q I hw=>wpAny_Compare1 (h z s W H Q I hw) F
theorem bN5 {op:CmpOp}{t:TE}(h:PC X op a b t)(F:c6 op b=false:=by first|exact aF9 _ (by decide) (by decide)|rfl):PT X (.Compare a [op] [b] pos) (tB t):=by
 intro z s W H Q I hw
 refine fZ (thn (h z s W H _ I hw) λ v s1 F=>thn F λ u s2 Z=>thn Z λ c s3 ⟨x,Y,G,r1,J⟩=>?_) F
 obtain⟨d,rfl,q⟩:=J
 cases r1
 exact b9 ⟨Y,G,q⟩
theorem aS9 {e:Expr}{t:TE}(h:PE X e t)(G:∀ z,dD e X.env z=(do let v <- z;standAt e.pos;je [v] (truthy v)):=by intro _;rfl):PT X e (tB t):=by
 intro F s W H Q I hw
 refine isTrue_plain (thn (h F s W H _ I hw) λ v s1 ⟨x,Z,J,r1,Y⟩=>?_) (G _)
 obtain⟨d,rfl,q⟩:=Y
 cases r1
 exact b9 ⟨Z,J,q⟩
variable {tA tB':TT} {rest:yK}
def bZ2 (t u:TT):TT:=λ W H Q=>t W H λ c H1=>if c=true then u W H1 Q else Q false H1
def tOr (t u:TT):TT:=λ W H Q=>t W H λ c H1=>if c=true then Q true H1 else u W H1 Q
def ca2 (t:TT):TT:=λ W H Q=>t W H λ c H1=>Q (!c) H1
theorem bq4 (ha:PT X a tA):PW X (.BoolOp .And [a] pos) tA:=by
 intro F z s W H Q I h
 refine isTrue_and (thn (ha z s W H Q I h) λ c s1 e=>?_)
 cases c with
 | true=>exact isTrue_and_nil e
 | false=>exact e
theorem bz6 (ha:PT X a tA):PW X (.BoolOp .Or [a] pos) tA:=by
 intro F z s W H Q I h
 refine isTrue_or (thn (ha z s W H Q I h) λ c s1 e=>?_)
 cases c with
 | false=>exact isTrue_or_nil e
 | true=>exact e
theorem bh3 (ha:PT X a tA)(hb:PW X (.BoolOp .And (b::rest) pos) tB'):PW X (.BoolOp .And (a::b::rest) pos) (bZ2 tA tB'):=by
 intro Y z s W H Q I h
 refine isTrue_and (thn (ha z s W H _ I h) λ c s1 ⟨J,F,G⟩=>?_)
 cases c with
 | true=>exact hb Y z s1 W J Q F G
 | false=>exact⟨J,F,G⟩
theorem bB8 (ha:PT X a tA)(hb:PW X (.BoolOp .Or (b::rest) pos) tB'):PW X (.BoolOp .Or (a::b::rest) pos) (tOr tA tB'):=by
 intro Y z s W H Q I h
 refine isTrue_or (thn (ha z s W H _ I h) λ c s1 ⟨J,F,G⟩=>?_)
 cases c with
 | true=>exact⟨J,F,G⟩
 | false=>exact hb Y z s1 W J Q F G
theorem bj8 (ha:PT X a tA):PT X (.UnaryOp .Not a pos) (ca2 tA):=by
 intro z s W H Q I h
 exact isTrue_not (ha z s W H (λ c F=>Q (!c) F) I h)
def bL6 (ta tb:TE):TE:=λ W H Q=>ta W H λ x H1=>∃ c,x=.bl c/\if c=true then tb W H1 Q else Q (.bl false) H1
def ca0 (ta tb:TE):TE:=λ W H Q=>ta W H λ x H1=>∃ c,x=.bl c/\if c=true then Q (.bl true) H1 else tb W H1 Q
def bF3 (ta:TE):TE:=λ W H Q=>ta W H λ x H1=>∃ c,x=.bl c/\Q (.bl (!c)) H1
theorem bh4 {op}{t:TE}(h:PE X a t):PE X (.BoolOp op [a] pos) t:=λ z s W H Q I hw=>BoolOp_one (h z s W H Q I hw)
theorem bl8 (ha:PE X a ta)(hb:PE X (.BoolOp .And (b::rest) pos) tb):PE X (.BoolOp .And (a::b::rest) pos) (bL6 ta tb):=by
 intro z s W H Q I h
 refine BoolOp_and (thn (ha z s W H _ I h) λ v s1 ⟨x,J,G,r1,F⟩=>?_)
 obtain⟨c,rfl,F⟩:=F
 cases r1
 refine b9 ?_
 cases c with
 | true=>exact hb z s1 W J Q G F
 | false=>exact⟨.bl false,J,G,rfl,F⟩
theorem bz3 (ha:PE X a ta)(hb:PE X (.BoolOp .Or (b::rest) pos) tb):PE X (.BoolOp .Or (a::b::rest) pos) (ca0 ta tb):=by
 intro z s W H Q I h
 refine BoolOp_or (thn (ha z s W H _ I h) λ v s1 ⟨x,J,G,r1,F⟩=>?_)
 obtain⟨c,rfl,F⟩:=F
 cases r1
 refine b9 ?_
 cases c with
 | false=>exact hb z s1 W J Q G F
 | true=>exact⟨.bl true,J,G,rfl,F⟩
theorem bl9 (ha:PE X a ta):PE X (.UnaryOp .Not a pos) (bF3 ta):=by
 intro z s W H Q I h
 refine UnaryOp_ (thn (ha z s W H _ I h) λ v s1 ⟨x,J,G,r1,F⟩=>?_)
 obtain⟨c,rfl,F⟩:=F
 cases r1
 exact not_of (b9 ⟨.bl (!c),J,G,rfl,F⟩)
def tIf (t:TT)(ta tb:TE):TE:=λ W H Q=>t W H λ c H1=>if c=true then ta W H1 Q else tb W H1 Q
theorem be3 {c:Expr}(hc:PT X c tA)(ha:PE X a ta)(hb:PE X b tb):PE X (.IfExp c a b pos) (tIf tA ta tb):=by
 intro z s W H Q I h
 refine wpAny_IfExp (thn (hc z s W H _ I h) λ d s1 ⟨J,F,G⟩=>?_)
 cases d with
 | true=>exact ha z s1 W J Q F G
 | false=>exact hb z s1 W J Q F G
end
def SqL (K:ac)(H:Hp)(a:Addr)(xs:List V):Prop :=
 Rd H a (.lst xs) \/
  ∃(o:Obj) (its:yJ) (n:Nat),K.lookup a=some o/\o.cls=.type "list"/\o.dict=none/\o.data=.seq its n/\its.size<=aM/\Vals xs its.toList
def SqT (K:ac)(H:Hp)(a:Addr)(xs:List V):Prop :=
 Rd H a (.tup xs) \/
  ∃(o:Obj) (its:yJ) (n:Nat),K.lookup a=some o/\o.cls=.type "tuple"/\o.data=.seq its n/\its.size<=aM/\Vals xs its.toList
noncomputable def cb2:Value->Option V
 | .none=>some .non
 | .bool b=>some (.bl b)
 | .int i _=>some (.int i)
 | .str x _=>some (.str x)
 | .bytes b _=>some (.byt b)
 | .float b _=>some (.flt b)
 | .ref a=>some (.ref a)
 | .type n=>some (.ty n)
 | _=>none
theorem RelV.abs {x:V}{u:Value}(r:RelV x u):cb2 u=some x:=by
 cases x with
 | non=>cases r;rfl
 | bl _=>cases r;rfl
 | int _=>obtain⟨t,rfl⟩:=r;rfl
 | str _=>obtain⟨t,rfl⟩:=r;rfl
 | byt _=>obtain⟨t,rfl⟩:=r;rfl
 | flt _=>obtain⟨t,rfl⟩:=r;rfl
 | ref _=>cases r;rfl
 | ty _=>cases r;rfl
theorem RelV.inj {x y:V}{u:Value}(r:RelV x u)(q:RelV y u):x=y:=ay (r.abs.symm.trans q.abs)
theorem Vals.inj:∀ {z ys:List V} {us:yG},Vals z us->Vals ys us->z=ys
 | _,_,_,.nil,.nil=>rfl
 | _,_,_,.cons r t,.cons r' t'=>by rw[r.inj r',Vals.inj t t']
section
variable {X:Cx} {pins:yA} {W:St} {H:Hp} {s:ae} {a:Addr} {xs ys:List V}
theorem SqL.of {K:ac}(h:H a=some (.lst xs)):SqL K H a xs:=.inl (.inl h)
theorem SqT.of {K:ac}(h:H a=some (.tup xs)):SqT K H a xs:=.inl (.inl h)
theorem Inv.list (I:Inv X pins W H s)(h:SqL X.K H a xs):∃ its:List Value,Vals xs its/\PlainL s.heap a its.toArray/\xs.length<=aM:=by
 rcases h with h|⟨o,its,n,hk,hc,hd,hs,hz,r⟩
 .obtain⟨z,its,n,r,e⟩:=h.ok I.hok
  exact⟨its,r,⟨_,n,e,rfl,rfl,rfl⟩,z⟩
 .refine⟨its.toList,r,⟨o,n,I.kIn a o hk,hc,hd,by simpa using hs⟩,?_⟩
  have e:=r.length
  simp only[eM]at e
  omega
theorem Inv.tuple (I:Inv X pins W H s)(h:SqT X.K H a xs):∃ its:List Value,Vals xs its/\IsTup s.heap a its.toArray/\xs.length<=aM:=by
 rcases h with h|⟨o,its,n,hk,hc,hs,hz,r⟩
 .obtain⟨z,its,r,p⟩:=h.ok I.hok
  exact⟨its,r,p,z⟩
 .refine⟨its.toList,r,⟨o,I.kIn a o hk,hc,n,by simpa using hs⟩,?_⟩
  have e:=r.length
  simp only[eM]at e
  omega
theorem Inv.list_inj (I:Inv X pins W H s)(h:SqL X.K H a xs)(h':SqL X.K H a ys):xs=ys:=by
 obtain⟨its,r,⟨o,n,e,_,_,d⟩,_⟩:=I.list h
 obtain⟨its',z,⟨G,F,e',_,_,d'⟩,_⟩:=I.list h'
 rw[e]at e';cases e'
 rw[d]at d'
 injection d' with d1 _
 have:its=its':=by simpa using congrArg fJ d1
 subst this
 exact r.inj z
theorem Inv.tuple_inj (I:Inv X pins W H s)(h:SqT X.K H a xs)(h':SqT X.K H a ys):xs=ys:=by
 obtain⟨its,r,⟨o,e,_,n,d⟩,_⟩:=I.tuple h
 obtain⟨its',z,⟨G,e',_,F,d'⟩,_⟩:=I.tuple h'
 rw[e]at e';cases e'
 rw[d]at d'
 injection d' with d1 _
 have:its=its':=by simpa using congrArg fJ d1
 subst this
 exact r.inj z
end
noncomputable abbrev Cx.wish (X:Cx)(E:Value->ae->Prop):Cx:={ X with xe:=E }
noncomputable abbrev Cx.nox (X:Cx):Cx:=X.wish λ _ _=>False
theorem Cx.Ok.wish {X:Cx}(ok:X.Ok)(E:Value->ae->Prop):(X.wish E).Ok :=
 ⟨ok.mod,ok.kind,ok.glob,ok.blt,ok.above,ok.inj,ok.has,ok.cab,ok.hd,ok.frames,ok.stk,ok.exf,ok.bs,ok.bsz,ok.noex,ok.exfs,ok.funs,ok.frf⟩
theorem Cx.Ok.unwish {X:Cx}{E:Value->ae->Prop}(ok:(X.wish E).Ok):X.Ok :=
 ⟨ok.mod,ok.kind,ok.glob,ok.blt,ok.above,ok.inj,ok.has,ok.cab,ok.hd,ok.frames,ok.stk,ok.exf,ok.bs,ok.bsz,ok.noex,ok.exfs,ok.funs,ok.frf⟩
section
variable {X:Cx} {pins:yA} {W:St} {H:Hp} {s:ae} {E:Value->ae->Prop}
theorem Inv.wish (I:Inv X pins W H s)(E:Value->ae->Prop):Inv (X.wish E) pins W H s:=⟨I.ok.wish E,I.os,I.bare,I.base,I.loc,I.cell,I.free,I.freeC,I.pin,I.hok,I.len⟩
theorem Inv.unwish (I:Inv (X.wish E) pins W H s):Inv X pins W H s:=⟨I.ok.unwish,I.os,I.bare,I.base,I.loc,I.cell,I.free,I.freeC,I.pin,I.hok,I.len⟩
theorem SP.unwish {D:Ends}{f:Flow}{s':ae}(h:SP (X.wish E) pins D f s'):SP X pins D f s':=by
 cases f with
 | next=>obtain⟨W',H',I,q⟩:=h;exact⟨W',H',I.unwish,q⟩
 | brk=>obtain⟨W',H',I,q⟩:=h;exact⟨W',H',I.unwish,q⟩
 | cont=>obtain⟨W',H',I,q⟩:=h;exact⟨W',H',I.unwish,q⟩
 | ret u=>obtain⟨v,W',H',I,r,q⟩:=h;exact⟨v,W',H',I.unwish,r,q⟩
theorem PT.nox {e:Expr}{t:TT}(h:PT X.nox e t):PT X e t:=λ F s W H Q I hw =>
 aZ (h F s W H Q (I.wish _) hw) (λ _ _ ⟨H',G,q⟩=>⟨H',G.unwish,q⟩) λ _ _ z=>a8 z
theorem PSs.nox {st:yL}{t:TS}(h:PSs X.nox st t):PSs X st t:=λ F s W H D I hw =>
 aZ (h F s W H D (I.wish _) hw) (λ _ _ q=>q.unwish) λ _ _ z=>a8 z
end
section
variable {X:Cx} {st:Stmt} {rest:yL} {t u:TS} {e:Expr} {te:TE} {pos:Pos}
def bL0:TS:=λ D W H=>D.nx W H
noncomputable def bU0 (t u:TS):TS:=λ D W H=>t { D with nx:=u D } W H
theorem as9:PSs X [] bL0:=λ _ _ W H _ I h=>cY ⟨W,H,I,h⟩
theorem zu (F:PS X st t)(G:PSs X rest u):PSs X (st::rest) (bU0 t u):=by
 intro z s W H D I h
 refine iH (thn (F z s W H { D with nx:=u D } I h) λ f s1 q=>?_)
 cases f with
 | next =>
  obtain⟨W',H',J,q⟩:=q
  exact G z s1 W' H' D J q
 | ret v=>exact q
 | brk=>exact q
 | cont=>exact q
theorem an9 (F:PS X st t):PSs X [st] t:=by
 intro z s W H D I h
 refine iH (thn (F z s W H D I h) λ f s1 q=>?_)
 cases f with
 | next=>exact cY q
 | ret v=>exact q
 | brk=>exact q
 | cont=>exact q
theorem Inv.quiet {z:yA}{W:St}{H:Hp}{s:ae}(I:Inv X z W H s):interactive X.env=false:=by simp[interactive,I.ok.kind]
def bN9 (te:TE):TS:=λ D W H=>te W H λ _ H1=>D.nx W H1
theorem aD7 (F:PE X e te)(hs:dT e none pos.line X.env=pure false:=by rfl):PS X (.Expr e pos) (bN9 te):=by
 intro z s W H D I h
 exact wpAny_Expr_any (thn (F z s W H _ I h) λ v s1 ⟨x,Y,G,r1,J⟩=>⟨W,Y,G,J⟩) I.quiet hs
def bY9 (te:TE):TS:=λ D W H=>te W H D.rt
theorem ar2 (F:PE X e te):PS X (.Return (some e) pos) (bY9 te):=by
 intro z s W H D I h
 exact wpAny_Return_some (thn (F z s W H _ I h) λ v s1 ⟨x,Y,G,r1,J⟩=>⟨x,W,Y,G,r1,J⟩)
def bZ3 (c:TT)(t u:TS):TS:=λ D W H=>c W H λ b H1=>if b=true then t D W H1 else u D W H1
theorem aN7 {c:Expr}{a b:yL}{G:TT}(hc:PT X c G)(ha:PSs X a t)(hb:PSs X b u):PS X (.If c a b pos) (bZ3 G t u):=by
 intro z s W H D I h
 refine wpAny_If (thn (hc z s W H _ I h) λ d s1 ⟨Y,F,J⟩=>?_)
 cases d with
 | true=>exact ha z s1 W Y D F J
 | false=>exact hb z s1 W Y D F J
def bk3:TS:=λ _ _ _=>False
theorem be9:PS X st bk3:=λ _ _ _ _ _ _ h=>h.elim
theorem qg {z:yL}:PSs X z bk3:=λ _ _ _ _ _ _ h=>h.elim
end
abbrev TG:=V->St->Hp->(St->Hp->Prop)->Prop
abbrev TGs:=List V->St->Hp->(St->Hp->Prop)->Prop
def PG (X:Cx)(target:Expr)(t:TG):Prop :=
 ∀(pins:yA) (s:ae) (W:St) (H:Hp) (v:V) (u:Value) (Q:St->Hp->Prop),Inv X pins W H s->RelV v u->t v W H Q ->
  wpAny (model X.prog X.w) X.A (fK target X.env u) (λ _ s'=>∃ W' H',Inv X pins W' H' s'/\Q W' H') X.xe s
def PGs (X:Cx)(ts:yK)(t:TGs):Prop :=
 ∀(pins:yA) (s:ae) (W:St) (H:Hp) (vs:List V) (us:yG) (Q:St->Hp->Prop),Inv X pins W H s->Vals vs us->t vs W H Q ->
  wpAny (model X.prog X.w) X.A (assignInOrder ((cu ts X.env).map (·.2)) us) (λ _ s'=>∃ W' H',Inv X pins W' H' s'/\Q W' H') X.xe s
abbrev bO9:=V->V->V->Hp->(Hp->Prop)->Prop
def bU4 (X:Cx)(t:bO9):Prop :=
 ∀(pins:yA) (s:ae) (W:St) (H:Hp) (o i v:V) (ov iv u:Value) (Q:Hp->Prop),Inv X pins W H s->RelV o ov->RelV i iv->RelV v u->t o i v H Q ->
  wpAny (model X.prog X.w) X.A (setItem ov iv u) (λ _ s'=>∃ H',Inv X pins W H' s'/\Q H') X.xe s
section
variable {X:Cx} {pos:Pos}
def ax2 (i:Nat):TG:=λ v W H Q=>Q (W.set i (some v)) H
theorem aP6 {i:Nat}{x:Str}(hN:X.N.Nodup)(F:X.N[i]?=some x)(hx:Loc X.env.scope x)(hf:X.fn x=true\/X.env.scope.names.lookup x=some .local:=by first|exact .inl rfl|exact .inr rfl|assumption):PG X (.Name x pos) (ax2 i):=by
 intro z s W H v u Q I r h
 exact ir (aj1 I hN F hx r (λ s' G=>⟨_,H,G,h⟩) hf)
def bZ8:TGs:=λ vs W H Q=>vs=[]/\Q W H
def bI5 (t:TG)(u:TGs):TGs:=λ vs W H Q=>∃ v r,vs=v::r/\t v W H λ W' H'=>u r W' H' Q
theorem bs8:PGs X [] bZ8:=by
 intro z s W H vs us Q I r h
 obtain⟨e,h⟩:=h
 subst e
 cases r
 exact assignInOrder_nil ⟨W,H,I,h⟩
theorem aZ9 {e:Expr}{es:yK}{t:TG}{u:TGs}(J:PG X e t)(Z:PGs X es u)
  (hs:(cu (e::es) X.env).map (·.2)=fK e X.env::(cu es X.env).map (·.2):=by rfl):PGs X (e::es) (bI5 t u):=by
 intro z s W H vs us Q I r h
 obtain⟨v,vr,e1,h⟩:=h
 subst e1
 cases r with
 | cons r rr =>
  rw[hs]
  refine assignInOrder_cons (thn (J z s W H _ _ _ I r h) λ _ s1 ⟨W1,Y,F,G⟩=>?_)
  exact Z z s1 W1 Y _ _ Q F rr G
def bT5 (K:ac)(n:Nat)(t:TGs):TG:=λ v W H Q=>∃ a xs,v=.ref a/\SqT K H a xs/\xs.length=n/\t xs W H Q
theorem bE3 {es:yK}{k:Nat}{t:TGs}{n:Nat}(hc:X.calm=true)(h:PGs X es t)
  (hn:(cu es X.env).length=n:=by rfl) (F:(cu es X.env).findIdx? (·.1)=none:=by rfl):PG X (.Tuple es k pos) (bT5 X.K n t):=by
 intro z s W H v u Q I r hw
 obtain⟨a,Y,e1,hq,hl,hw⟩:=hw
 subst e1
 cases r
 obtain⟨its,G,Z,hz⟩:=I.tuple hq
 refine assign_Tuple_tuple (I.ok.hd hc) Z (by simp[hn,<-hl,G.length]) F λ h' hx=>?_
 have J:Inv X z W H { s with heap:=h' }:=I.kept (t':=s.toks) λ b o e=>hx b o (aE (aH e)) e
 exact h z _ W H Y _ Q J (by simpa using G) hw
def bX9 (to ti:TE)(t:bO9):TG:=λ v W H Q=>to W H λ o H1=>ti W H1 λ i H2=>t o i v H2 λ H3=>Q W H3
theorem bA3 {o i:Expr}{J Y:TE}{t:bO9}(ho:PE X o J)(hi:PE X i Y)(hs:bU4 X t)
  (ha:∀ v,fK (.Subscript o i pos) X.env v=(do
   let F <- je [v] (eval o X.env)
   let G <- je [v,F] (eval i X.env)
   standAt pos
   je [v,F,G] (setItem F G v)
   release [v,F,G] []):=by intro _;rfl):PG X (.Subscript o i pos) (bX9 J Y t):=by
 intro z s W H v u Q I r h
 rw[ha]
 refine ai (cH (thn (ho z s W H _ I h) λ F s1 ⟨x,H1,Z,r1,q1⟩=>?_))
 refine ai (cH (thn (hi z s1 W H1 _ Z q1) λ G s2 ⟨y,H2,I2,r2,q2⟩=>?_))
 refine ai (gP (ai (cH (thn (hs z s2 W H2 x y v F G u _ I2 r1 r2 r q2) λ _ s3 ⟨H3,I3,q3⟩=>?_))))
 exact wpAny_release ⟨W,H3,I3,q3⟩
def ba4 (te:TE)(g:TG):TS:=λ D W H=>te W H λ x H1=>g x W H1 D.nx
theorem aN6 {tg e:Expr}{F:TE}{g:TG}(J:PE X e F)(hg:PG X tg g)(hs:swapsWithSole [tg] e pos.line X.env=pure false:=by rfl)(hw:fu [tg] e X.env=pure none:=by rfl)
  (Z:(cu [tg] X.env).map (·.2)=[fK tg X.env]:=by rfl):PS X (.Assign [tg] e pos) (ba4 F g):=by
 intro z s W H D I h
 refine wpAny_Assign_stores (thn (J z s W H _ I h) λ v s1 ⟨x,H1,G,r1,Y⟩=>?_) hs hw
 rw[Z]
 exact thn (hg z s1 W H1 x v _ G r1 Y) λ _ s2 q=>q
theorem aI4 {i:Nat}{x:Str}{e:Expr}{G:TE}{z:Pos}(hN:X.N.Nodup)(hi:X.N[i]?=some x)(hx:Loc X.env.scope x)(he:PE X e G)(hs:dT e (some (.Name x z)) pos.line X.env=pure false:=by rfl)(hf:X.fn x=true\/X.env.scope.names.lookup x=some .local:=by first|exact .inl rfl|exact .inr rfl|assumption) :
  PS X (.Assign [.Name x z] e pos) (ba4 G (ax2 i)):=by
 intro F s W H D I h
 refine wpAny_Assign_Name (thn (he F s W H _ I h) λ v s1 ⟨y,H1,J,r1,Z⟩=>?_) hs
 exact aj1 J hN hi hx r1 (λ s2 Y=>⟨_,H1,Y,Z⟩) hf
end
section
variable {X:Cx} {pos:Pos}
def bk8 (c:TT)(tb:TS):TS:=λ D W H=>∃ Ww:Nat->St->Hp->Prop,(∃ m,Ww m W H)/\∀ m W H,Ww m W H ->
 c W H λ b H1=>if b=true then ∃ N:St->Hp->Prop,(∀ W' H',N W' H'->∃ m',m'<m/\Ww m' W' H')/\tb { D with nx:=N,ct:=N,bk:=D.nx } W H1 else D.nx W H1
theorem aY4 {c:Expr}{body:yL}{tc:TT}{tb:TS}(hp:iI (model X.prog X.w) X.A X.env X.xe)(hc:PT X c tc)(hb:PSs X body tb):PS X (.While c body [] pos) (bk8 tc tb):=by
 intro z s W H D I h
 obtain⟨Ww,⟨m0,w0⟩,turn⟩:=h
 refine wpAny_While (codeAny_whileLoop (λ n s'=>∃ W' H',Inv X z W' H' s'/\Ww n W' H') ?_ m0 ⟨W,H,I,w0⟩)
 rintro n s1 ⟨W1,H1,I1,w1⟩
 refine cz hp (thn (hc z s1 W1 H1 _ I1 (turn n W1 H1 w1)) λ b s2 ⟨H2,I2,q2⟩=>?_)
 cases b with
 | true =>
  obtain⟨N,hN,q2⟩:=q2
  rw[if_pos rfl]
  refine cz hp (thn (hb z s2 W1 H2 _ I2 q2) λ f s3 G=>?_)
  cases f with
  | next =>
   obtain⟨W3,F,Z,J⟩:=G
   obtain⟨m',hm,Y⟩:=hN W3 F J
   exact⟨m',hm,W3,F,Z,Y⟩
  | cont =>
   obtain⟨W3,F,Z,J⟩:=G
   obtain⟨m',hm,Y⟩:=hN W3 F J
   exact⟨m',hm,W3,F,Z,Y⟩
  | brk=>exact G
  | ret v=>exact G
 | false =>
  rw[if_neg aC]
  exact cY ⟨W1,H2,I2,q2⟩
end
structure It where
 go:Nat->Hp->Prop
 yld:Nat->Hp->V->Hp->Prop
 stop:Nat->Hp->Prop
def FpOk (X:Cx)(pins:yA)(H:Hp)(b:Addr):Prop :=
 H b=none/\b≠X.env.locals/\b ∉ X.fs/\(b∈X.ex\/X.s₀.heap.objs.size<=b)/\(∀ x c,X.env.cells.lookup x=some c->c≠b)/\∀ p∈X.pn++pins,p.1≠b
theorem Inv.fpOk {X:Cx}{F:yA}{W:St}{H H':Hp}{s:ae}{b:Addr}(I:Inv X F W H s)(hb:s.heap.objs.size<=b)(hn:H' b=none):FpOk X F H' b:=by
 refine⟨hn,jX (aG I.lt hb),I.nofs hb,.inr (al I.sz hb),λ x c e z=>?_,λ p hp z=>?_⟩
 .obtain⟨v,q⟩:=I.cell x c e
  exact absurd (aG q.lt (by rw[z];exact hb)) (bK _)
 .exact absurd (aG (aH (I.pin p hp).1) (by rw[z];exact hb)) (bK _)
structure Turn (P:aD)(w:World)(K:ac)(tg:Expr)(J:It)(fp:List Addr)(it:Addr)(tn:Nat->Heap->Prop):Prop where
 mem:it∈fp
 obj:∀ i h,tn i h->∀ b∈fp,∃ o,h.get? b=some o/\∀ v,o.data≠.cell v
 keep:∀ i h h',tn i h->(∀ b∈fp,∀ o,h.get? b=some o->h'.get? b=some o)->tn i h'
 item:∀(X:Cx),X.prog=P->X.w=w->X.K=K->X.calm=true->∀(i:Nat) (pins:yA) (s:ae) (W:St) (H:Hp) (E:Value->ae->Prop),Inv X pins W H s->(∀ b∈fp,FpOk X pins H b)->tn i s.heap->J.go i H ->
  wpAny (model P w) X.A (pyNext (.ref it)) (λ r s1=>∃ u,r=some u /\
   wpAny (model P w) X.A (eD tg (.ref it) u) (λ _ s2=>∃ x H',Inv X pins W H' s2/\RelV x u/\J.yld i H x H'/\tn (i+1) s2.heap/\∀ b∈fp,H' b=none) E s1) E s
 done:∀(X:Cx),X.prog=P->X.w=w->X.K=K->X.calm=true->∀(i:Nat) (pins:yA) (s:ae) (W:St) (H:Hp) (E:Value->ae->Prop),Inv X pins W H s->(∀ b∈fp,FpOk X pins H b)->tn i s.heap->J.stop i H ->
  wpAny (model P w) X.A (pyNext (.ref it)) (λ r s1=>r=none/\Inv X pins W H s1) E s
 self:∀(A:aN) (i:Nat) (s:ae) (Q:Value->ae->Prop) (E:Value->ae->Prop),tn i s.heap->Q (.ref it) s->wpAny (model P w) A (jY (.ref it)) Q E s
abbrev TI:=St->Hp->(It->Hp->Prop)->Prop
def PIE (X:Cx)(pins:yA)(W:St)(tg:Expr)(R:It->Hp->Prop)(itv:Value)(s2:ae):Prop :=
 ∃(it:Addr) (fp:List Addr) (tn:Nat->Heap->Prop) (J:It) (H':Hp),itv=.ref it/\Inv X pins W H' s2/\Turn X.prog X.w X.K tg J fp it tn/\tn 0 s2.heap/\(∀ b∈fp,FpOk X pins H' b)/\R J H'
def PI (X:Cx)(tg iter:Expr)(wi:TI):Prop :=
 ∀(pins:yA) (s:ae) (W:St) (H:Hp) (R:It->Hp->Prop),Inv X pins W H s->wi W H R ->
  wpAny (model X.prog X.w) X.A (eval iter X.env) (λ v s1=>wpAny (model X.prog X.w) X.A (jY v) (PIE X pins W tg R) X.xe s1) X.xe s
theorem aX7 {M : Model} {A : Around} {E : Value -> Shared -> Prop} {s : Shared} {tg : Expr} {it : Addr} {u : Value} {o : Obj} {n : String} {vs : Array Value} {Q : Unit -> Shared -> Prop} (ho : s.heap.get? it = some o) (hc : o.cls = .type n) (hd : o.data = .fields vs)
    (hn : ["enumerate", "zip", "dict_itemiterator", "dict_reverseitemiterator", "odict_iterator", "itertools.zip_longest", "itertools.pairwise"].contains n = false) (hQ : Q () s) : wpAny M A (eD tg (.ref it) u) Q E s := by
  unfold eD
  cases tg <;> first
    | exact az hQ
    | (cases u <;> first
        | exact az hQ
        | (refine ai (wpAny_load ho ?_)
           rw[hc, hd]
           show wpAny M A (if(["enumerate", "zip", "dict_itemiterator", "dict_reverseitemiterator", "odict_iterator", "itertools.zip_longest", "itertools.pairwise"].contains n && vs[0]? == some (rawInt _)) = true then _ else _) Q E s
           rw[if_neg (by intro h; rw[hn, jp]at h; cases h)]
           exact az hQ))
noncomputable def Itl (K:ac)(a:Addr):It :=
 ⟨λ i H=>∃ xs x,SqL K H a xs/\xs[i]?=some x,λ i H x H'=>H'=H/\∀ xs,SqL K H a xs->xs[i]?=some x,λ i H=>∃ xs,SqL K H a xs/\xs.length<=i⟩
noncomputable def Itt (K:ac)(a:Addr):It :=
 ⟨λ i H=>∃ xs x,SqT K H a xs/\xs[i]?=some x,λ i H x H'=>H'=H/\∀ xs,SqT K H a xs->xs[i]?=some x,λ i H=>∃ xs,SqT K H a xs/\xs.length<=i⟩
noncomputable def Itr (lo:Int)(n:Nat):It:=⟨λ i _=>i<n,λ i H x H'=>H'=H/\x=.int (lo+i),λ i _=>n<=i⟩
theorem aR0 {P:aD}{w:World}{K:ac}{tg:Expr}(a it:Addr):Turn P w K tg (Itl K a) [it] it (λ i h=>h.IsListIter it a i) where
 mem:=by simp
 obj:=λ i h st b hb=>by
  have e:b=it:=by simpa using hb
  subst e
  obtain⟨o,e,c,d⟩:=st
  exact⟨o,e,λ v z=>by rw[d]at z;cases z⟩
 keep:=λ i h h' st k=>st.at λ o e=>k it (by simp) o e
 item:=by
  intro X hP hw hK hc i F s W H E I hf st hg
  subst hP hw hK
  obtain⟨xs,x,hq,hx⟩:=hg
  obtain⟨its,rv,p,hz⟩:=I.list hq
  obtain⟨u,hu,ru⟩:=rv.get hx
  obtain⟨f0,f1,f2,Y,Z,J⟩:=hf it (by simp)
  refine wpAny_pyNext_list_item st p.isList (x:=u) (by simpa using hu) λ h' G sb=>?_
  have I1:Inv X F W H { s with heap:=h' }:=I.turned (t':=s.toks) (λ b o hb e=>(sb.2 b hb).trans e) f0 f1 Y Z J
  obtain⟨o,e,c,d⟩:=id G
  exact⟨u,rfl,aX7 (s:={ s with heap:=h' }) e c d (by decide) ⟨x,H,I1,ru,⟨rfl,λ ys hy=>by rw[I.list_inj hy hq];exact hx⟩,G,λ b hb=>(hf b hb).1⟩⟩
 done:=by
  intro X hP hw hK hc i F s W H E I hf st hg
  subst hP hw hK
  obtain⟨xs,hq,hx⟩:=hg
  obtain⟨its,rv,p,hz⟩:=I.list hq
  obtain⟨f0,f1,f2,Y,Z,J⟩:=hf it (by simp)
  have hl:=rv.length
  exact wpAny_pyNext_list_end (I.ok.hd hc) st p.isList (by simp;omega) λ h' eb=>⟨rfl,I.turned (t':=s.toks) (λ b o hb e=>eb b o hb e) f0 f1 Y Z J⟩
 self:=λ _ _ _ _ _ st h=>wpAny_pyIter_listiter st h
theorem aJ9 {P:aD}{w:World}{K:ac}{tg:Expr}(a it:Addr):Turn P w K tg (Itt K a) [it] it (λ i h=>h.IsTupleIter it a i) where
 mem:=by simp
 obj:=λ i h st b hb=>by
  have e:b=it:=by simpa using hb
  subst e
  obtain⟨o,e,c,d⟩:=st
  exact⟨o,e,λ v z=>by rw[d]at z;cases z⟩
 keep:=λ i h h' st k=>st.at λ o e=>k it (by simp) o e
 item:=by
  intro X hP hw hK hc i F s W H E I hf st hg
  subst hP hw hK
  obtain⟨xs,x,hq,hx⟩:=hg
  obtain⟨its,rv,p,hz⟩:=I.tuple hq
  obtain⟨u,hu,ru⟩:=rv.get hx
  obtain⟨f0,f1,f2,Y,Z,J⟩:=hf it (by simp)
  refine wpAny_pyNext_tuple_item st (show s.heap.IsTuple a its.toArray from p) (x:=u) (by simpa using hu) λ h' G sb=>?_
  have I1:Inv X F W H { s with heap:=h' }:=I.turned (t':=s.toks) (λ b o hb e=>(sb.2 b hb).trans e) f0 f1 Y Z J
  obtain⟨o,e,c,d⟩:=id G
  exact⟨u,rfl,aX7 (s:={ s with heap:=h' }) e c d (by decide) ⟨x,H,I1,ru,⟨rfl,λ ys hy=>by rw[I.tuple_inj hy hq];exact hx⟩,G,λ b hb=>(hf b hb).1⟩⟩
 done:=by
  intro X hP hw hK hc i F s W H E I hf st hg
  subst hP hw hK
  obtain⟨xs,hq,hx⟩:=hg
  obtain⟨its,rv,p,hz⟩:=I.tuple hq
  obtain⟨f0,f1,f2,Y,Z,J⟩:=hf it (by simp)
  have hl:=rv.length
  exact wpAny_pyNext_tuple_end (I.ok.hd hc) st (show s.heap.IsTuple a its.toArray from p) (by simp;omega) λ h' eb=>⟨rfl,I.turned (t':=s.toks) (λ b o hb e=>eb b o hb e) f0 f1 Y Z J⟩
 self:=λ _ _ _ _ _ st h=>wpAny_pyIter_tupleiter st h
theorem aK0 {P:aD}{w:World}{K:ac}{tg:Expr}(it:Addr)(J:Int)(n:Nat):Turn P w K tg (Itr J n) [it] it (λ i h=>gd h it (J+(i:Nat)*1) ((n:Int) - (i:Nat)) 1) where
 mem:=by simp
 obj:=λ i h st b hb=>by
  have e:b=it:=by simpa using hb
  subst e
  exact⟨_,st,λ v z=>by
   have z':Data.fields _=Data.cell v:=z
   cases z'⟩
 keep:=λ i h h' st k=>k it (by simp) _ st
 item:=by
  intro X hP hw hK hc i F s W H E I hf st hg
  subst hP hw hK
  obtain⟨f0,f1,f2,Z,f4,Y⟩:=hf it (by simp)
  have Ww:=kc (prog:=X.prog) (w:=X.w) (I.ok.hd hc) it J 1 n
  refine Ww.item i s _ _ hg st λ v h' tk hv G kk=>?_
  obtain⟨t,rfl⟩:=hv
  have I1:Inv X F W H { s with heap:=h',toks:=tk }:=I.turned (λ b o hb e=>kk b o (by simpa using hb) e) f0 f1 Z f4 Y
  refine⟨_,rfl,aX7 (s:={ s with heap:=h',toks:=tk }) (n := "range_iterator") G rfl rfl (by decide) ⟨.int (J+i),H,I1,⟨t,?_⟩,⟨rfl,rfl⟩,G,λ b hb=>(hf b hb).1⟩⟩
  rw[Int.mul_one]
 done:=by
  intro X hP hw hK hc i F s W H E I hf st hg
  subst hP hw hK
  obtain⟨f0,f1,f2,Z,f4,Y⟩:=hf it (by simp)
  exact fL (I.ok.hd hc) st (by have:n<=i:=hg;omega) λ h' eb=>⟨rfl,I.turned (t':=s.toks) (λ b o hb e=>eb b o hb e) f0 f1 Z f4 Y⟩
 self:=λ _ _ _ _ _ st h=>fM st h
section
variable {X:Cx} {tg:Expr}
def bp1 (K:ac)(tl:TE):TI:=λ W H R=>tl W H λ x H1=>∃ a,x=.ref a/\(∃ xs,SqL K H1 a xs)/\R (Itl K a) H1
def bS4 (K:ac)(tl:TE):TI:=λ W H R=>tl W H λ x H1=>∃ a,x=.ref a/\(∃ xs,SqT K H1 a xs)/\R (Itt K a) H1
theorem bn0 {l:Expr}{G:TE}(hl:PE X l G):PI X tg l (bp1 X.K G):=by
 intro z s W H R I h
 refine thn (hl z s W H _ I h) λ v s1 ⟨x,Y,F,r1,J⟩=>?_
 obtain⟨a,e,⟨Z,hq⟩,q⟩:=J
 subst e
 cases r1
 obtain⟨its,rv,p,hz⟩:=F.list hq
 refine db p.isList ?_
 refine⟨s1.heap.objs.size,[s1.heap.objs.size],_,_,Y,rfl,F.kept (t':=s1.toks) λ b o e=>av _ e,aR0 a _,⟨_,aX _ rfl,rfl,rfl⟩,λ b hb=>?_,q⟩
 have e:b=s1.heap.objs.size:=by simpa using hb
 subst e
 exact F.fpOk (ao _) (F.hok.fresh (ao _))
theorem bA1 {l:Expr}{G:TE}(hl:PE X l G):PI X tg l (bS4 X.K G):=by
 intro z s W H R I h
 refine thn (hl z s W H _ I h) λ v s1 ⟨x,Y,F,r1,J⟩=>?_
 obtain⟨a,e,⟨Z,hq⟩,q⟩:=J
 subst e
 cases r1
 obtain⟨its,rv,p,hz⟩:=F.tuple hq
 refine gY (show s1.heap.IsTuple a its.toArray from p) ?_
 refine⟨s1.heap.objs.size,[s1.heap.objs.size],_,_,Y,rfl,F.kept (t':=s1.toks) λ b o e=>av _ e,aJ9 a _,⟨_,aX _ rfl,rfl,rfl⟩,λ b hb=>?_,q⟩
 have e:b=s1.heap.objs.size:=by simpa using hb
 subst e
 exact F.fpOk (ao _) (F.hok.fresh (ao _))
theorem bf2 {G:yA}{W:St}{H:Hp}{s:ae}{R:It->Hp->Prop}{E:Value->ae->Prop}{z F:Int}{t u v:Tok}{tk:Nat}(I:Inv X G W H s)(Z:-(2^62)<=z)(h2:z<2^62)(Y:-(2^62)<=F)(h4:F<2^62)
  (q:R (Itr z (F - z).toNat) H):wpAny (model X.prog X.w) X.A (jY (.ref s.heap.objs.size)) (PIE X G W tg R) E { s with heap:=s.heap.push { cls:=.type "range",data:=.fields #[.int z t,.int F u,.int 1 v] },toks:=tk }:=by
 refine gZ (ke ..) (small_one Z h2 Y h4) ?_
 have J:Inv X G W H { s with heap:=s.heap.push { cls:=.type "range",data:=.fields #[.int z t,.int F u,.int 1 v] },toks:=tk }:=I.kept λ b o e=>av _ e
 refine⟨(s.heap.push { cls:=.type "range",data:=.fields #[.int z t,.int F u,.int 1 v] }).objs.size,[(s.heap.push { cls:=.type "range",data:=.fields #[.int z t,.int F u,.int 1 v] }).objs.size],_,_,H,rfl,
  J.kept (t':=tk) λ b o e=>av _ e,aK0 _ z (F - z).toNat,?_,λ b hb=>?_,q⟩
 .have e1:z+((0:Nat):Int)*1=z:=by simp
  have e2:(((F - z).toNat:Nat):Int) - ((0:Nat):Int)=bw z F 1:=by rw[rangeSize_one];split<;>omega
  show gd _ _ (z+((0:Nat):Int)*1) ((((F - z).toNat:Nat):Int) - ((0:Nat):Int)) 1
  rw[e1,e2]
  exact aX _ rfl
 .have e:b=(s.heap.push { cls:=.type "range",data:=.fields #[.int z t,.int F u,.int 1 v] }).objs.size:=by simpa using hb
  subst e
  exact J.fpOk (ao _) (J.hok.fresh (ao _))
def bA9 (ta:TA):TI:=λ W H R=>ta W H λ vs H1=>∃ j:Int,vs=[.int j]/\-(2^62)<=j/\j<2^62/\R (Itr 0 j.toNat) H1
theorem aO0 {a:Expr}{G:TA}{p pos:Pos}(hg:Gl X "range")(hm:X.mg "range"=none)(ha:PA X [a] G)(hs:bp [a] X.env=[(false,eval a X.env)]:=by rfl):PI X tg (.Call (.Name "range" p) [a] [] pos) (bA9 G):=by
 intro z s W H R I h
 refine Call_ (aA3 I hg hm boot_range (de (thn (ha pos z s W H _ I h) λ us s1 ⟨vs,Y,J,r1,F⟩=>?_) hs rfl))
 obtain⟨j,e,F,q2,q⟩:=F
 subst e
 cases r1 with
 | cons r rr =>
  cases rr
  obtain⟨t,rfl⟩:=r
  exact call_range_1 (bf2 J (by omega) (by omega) F q2 (by simpa using q))
def bT2 (wi:TI)(g:TG)(tb:TS):TS:=λ D W H=>wi W H λ J H1=>∃ Ww:Nat->Nat->St->Hp->Prop,(∃ m,Ww 0 m W H1)/\∀ i m W H,Ww i m W H ->
 (J.stop i H/\D.nx W H)\/(J.go i H/\∃ N:St->Hp->Prop,(∀ W' H',N W' H'->∃ m',m'<m/\Ww (i+1) m' W' H')/\∀ x H',J.yld i H x H'->g x W H' λ W2 H2=>tb { D with nx:=N,ct:=N,bk:=D.nx } W2 H2)
noncomputable def aw0 (fp:List Addr)(h:Heap):List (Addr×Obj):=fp.filterMap λ b=>(h.get? b).map λ o=>(b,o)
theorem qI {z:List Addr}{h:Heap}{b:Addr}{o:Obj}(hb:b∈z)(e:h.get? b=some o):(b,o)∈aw0 z h:=eY.mpr ⟨b,hb,by rw[e];rfl⟩
theorem aX3 {z:List Addr}{h:Heap}{p:Addr×Obj}(hp:p∈aw0 z h):p.1∈z/\h.get? p.1=some p.2:=by
 obtain⟨b,hb,e⟩:=eY.mp hp
 cases q:h.get? b with
 | none=>rw[q]at e;cases e
 | some o =>
  rw[q]at e
  have e':(b,o)=p:=ay e
  subst e'
  exact⟨hb,q⟩
theorem Inv.pinned {F:yA}{W:St}{H:Hp}{s:ae}{G:List Addr}(I:Inv X F W H s)(hf:∀ b∈G,FpOk X F H b)(ho:∀ b∈G,∃ o,s.heap.get? b=some o/\∀ v,o.data≠.cell v):Inv X (F++aw0 G s.heap) W H s :=
 I.pins_of λ p hp=>(cf.mp hp).elim (λ z=>I.pin p (aJ _ z)) λ z=>by
  obtain⟨hb,e⟩:=aX3 z
  obtain⟨J,Z,Y,_⟩:=hf p.1 hb
  obtain⟨o,e',d⟩:=ho p.1 hb
  rw[e]at e';cases e'
  exact⟨e,J,Z,Y,d⟩
theorem Inv.unpinned {z F:yA}{W:St}{H:Hp}{s:ae}(I:Inv X (z++F) W H s):Inv X z W H s:=I.pins_of λ p hp=>I.pin p (aJ _ (cE _ hp))
theorem bj3 {iter:Expr}{body:yL}{wi:TI}{g:TG}{tb:TS}{pos:Pos}(hp:iI (model X.prog X.w) X.A X.env X.xe)(hc:X.calm=true)(hi:PI X tg iter wi)(hg:PG X tg g)(hb:PSs X body tb)
  (hs:∀ x,dg iter X.env x=pure x:=by intro _;rfl):PS X (.For tg iter body [] pos) (bT2 wi g tb):=by
 intro z s W H D I h
 refine wpAny_For (thn (hi z s W H _ I h) λ v s1 h1=>thn h1 λ a6 s2 h2=>?_) hs
 obtain⟨it,fp,tn,J,H2,e,I2,T,a3,f2,Ww,⟨m0,w0⟩,turn⟩:=h2
 subst e
 have F:∀ {H':Hp},(∀ b∈fp,H' b=none)->∀ b∈fp,FpOk X z H' b:=λ hn b hb=>⟨hn b hb,(f2 b hb).2⟩
 refine codeAny_forLoop_any (λ n s'=>∃ i W' H',Inv X z W' H' s'/\tn i s'.heap/\(∀ b∈fp,H' b=none)/\Ww i n W' H') ?_ m0 ⟨0,W,H2,I2,a3,λ b hb=>(f2 b hb).1,w0⟩
 rintro n s3 ⟨i,W3,H3,I3,a2,a1,w3⟩
 rcases turn i n W3 H3 w3 with⟨stop,qn⟩|⟨go,N,hN,step⟩
 .refine cz hp (thn (T.done X rfl rfl rfl hc i z s3 W3 H3 X.xe I3 (F a1) a2 stop) λ r s4 ⟨hr,I4⟩=>?_)
  subst hr
  exact cY ⟨W3,H3,I4,qn⟩
 .refine cz hp (thn (T.item X rfl rfl rfl hc i z s3 W3 H3 X.xe I3 (F a1) a2 go) λ r s4 ⟨u,hr,h4⟩=>?_)
  subst hr
  refine cz hp (thn h4 λ _ s5 ⟨x,H5,I5,r5,y5,a0,a5⟩=>?_)
  have a4:=I5.pinned (F a5) (T.obj _ _ a0)
  refine cz hp (thn (hg _ s5 W3 H5 x u _ a4 r5 (step x H5 y5)) λ _ s6 ⟨W6,H6,I6,q6⟩=>?_)
  refine cz hp (thn (hb _ s6 W6 H6 _ I6 q6) λ f s7 Z=>?_)
  have again:∀ {W7:St} {G:Hp},Inv X (z++aw0 fp s5.heap) W7 G s7->N W7 G->∃ m,m<n/\∃ i W' H',Inv X z W' H' s7/\tn i s7.heap/\(∀ b∈fp,H' b=none)/\Ww i m W' H':=λ {W7 G} Y n7=>by
   obtain⟨m',hm,w7⟩:=hN W7 G n7
   refine⟨m',hm,i+1,W7,G,Y.unpinned,T.keep _ _ _ a0 λ b hb o e=>(Y.pin (b,o) (aJ _ (aJ _ (qI hb e)))).1,λ b hb=>?_,w7⟩
   obtain⟨o,e,d⟩:=T.obj _ _ a0 b hb
   exact(Y.pin (b,o) (aJ _ (aJ _ (qI hb e)))).2.1
  cases f with
  | next=>obtain⟨W7,G,Y,n7⟩:=Z;exact again Y n7
  | cont=>obtain⟨W7,G,Y,n7⟩:=Z;exact again Y n7
  | brk=>obtain⟨W7,G,Y,Z⟩:=Z;exact⟨W7,G,Y.unpinned,Z⟩
  | ret v=>obtain⟨x7,W7,G,Y,r7,Z⟩:=Z;exact⟨x7,W7,G,Y.unpinned,r7,Z⟩
end
abbrev R2:=V->V->Hp->VK->Prop
def OpR (X:Cx)(f:Value->Value->Sem Value)(r:R2):Prop :=
 ∀(pins:yA) (s:ae) (W:St) (H:Hp) (x y:V) (v u:Value) (Q:VK),Inv X pins W H s->RelV x v->RelV y u->r x y H Q ->
  wpAny (model X.prog X.w) X.A (f v u) (EP X pins W Q) X.xe s
def UnR (X:Cx)(f:Value->Sem Value)(r:V->Hp->VK->Prop):Prop :=
 ∀(pins:yA) (s:ae) (W:St) (H:Hp) (x:V) (v:Value) (Q:VK),Inv X pins W H s->RelV x v->r x H Q ->
  wpAny (model X.prog X.w) X.A (f v) (EP X pins W Q) X.xe s
def ac4 (X:Cx)(f:Value)(r:List V->Hp->VK->Prop):Prop :=
 ∀(pins:yA) (s:ae) (W:St) (H:Hp) (xs:List V) (us:yG) (Q:VK),Inv X pins W H s->Vals xs us->r xs H Q ->
  wpAny (model X.prog X.w) X.A (call f us) (EP X pins W Q) X.xe s
def tOp (r:R2)(ta tb:TE):TE:=λ W H Q=>ta W H λ x H1=>tb W H1 λ y H2=>r x y H2 Q
def tUn (r:V->Hp->VK->Prop)(ta:TE):TE:=λ W H Q=>ta W H λ x H1=>r x H1 Q
def rI (Cc:Int->Int->Prop)(g:Int->Int->V):R2:=λ x y H Q=>∃ i j,x=.int i/\y=.int j/\Cc i j/\Q (g i j) H
def rI0 (g:Int->Int->V):R2:=λ x y H Q=>∃ i j,x=.int i/\y=.int j/\Q (g i j) H
def rU (g:Int->V):V->Hp->VK->Prop:=λ x H Q=>∃ i,x=.int i/\Q (g i) H
section
variable {X:Cx} {a b c:Expr} {ta tb tc:TE} {pos:Pos}
theorem bP8 (ha:PE X a ta)(hb:PE X b tb){z:yA}{s:ae}{W:St}{H:Hp}{R:V->V->Hp->Prop}(I:Inv X z W H s)
  (h:ta W H λ x G=>tb W G λ y F=>R x y F) {Q:Value->ae->Prop} {f:Value->Value->Sem Value}
  (hf:∀ v u s2 x y F,Inv X z W F s2->RelV x v->RelV y u->R x y F->wpAny (model X.prog X.w) X.A (f v u) Q X.xe s2) :
  wpAny (model X.prog X.w) X.A (eval a X.env) (λ v s₁=>wpAny (model X.prog X.w) X.A (eval b X.env) (λ u J=>wpAny (model X.prog X.w) X.A (f v u) Q X.xe J) X.xe s₁) X.xe s:=by
 refine thn (ha z s W H _ I h) λ v s1 ⟨x,G,Y,r1,q1⟩=>?_
 refine thn (hb z s1 W G _ Y q1) λ u s2 ⟨y,F,Z,r2,q2⟩=>?_
 exact hf v u s2 x y F Z r1 r2 q2
theorem by8 {op:Operator}{r:R2}(ho:OpR X (cg op) r)(ha:PE X a ta)(hb:PE X b tb):PE X (.BinOp a op b pos) (tOp r ta tb):=by
 intro z s W H Q I h
 exact wpAny_BinOp (bP8 ha hb I h λ v u s2 x y J F G Y q=>ho z s2 W J x y v u Q F G Y q)
theorem bS3 {op:UnaryOp}{r:V->Hp->VK->Prop}(ho:UnR X (unaryOp op) r)(ha:PE X a ta):PE X (.UnaryOp op a pos) (tUn r ta):=by
 intro z s W H Q I h
 exact UnaryOp_ (thn (ha z s W H _ I h) λ v s1 ⟨x,J,F,r1,G⟩=>ho z s1 W J x v Q F r1 G)
theorem opI {f:Value->Value->Sem Value}{Cc:Int->Int->Prop}{g:Int->Int->Int}
  (z:∀(i j:Int) (t u:Tok) (s:ae) (Q:Value->ae->Prop) (E:Value->ae->Prop),Cc i j->Q (.int (g i j) s.toks) { s with toks:=s.toks+1 }->wpAny (model X.prog X.w) X.A (f (.int i t) (.int j u)) Q E s) :
  OpR X f (rI Cc λ i j=>.int (g i j)):=by
 intro F s W H x y v u Q I J G h
 obtain⟨i,j,rfl,rfl,hc,q⟩:=h
 obtain⟨t,rfl⟩:=J
 obtain⟨t',rfl⟩:=G
 exact z i j t t' s _ _ hc ⟨.int (g i j),H,I.tok _,⟨_,rfl⟩,q⟩
theorem bY8 {f:Value->Value->Sem Value}{g:Int->Int->Int}
  (z:∀(i j:Int) (t u:Tok) (s:ae) (Q:Value->ae->Prop) (E:Value->ae->Prop),Q (.int (g i j) s.toks) { s with toks:=s.toks+1 }->wpAny (model X.prog X.w) X.A (f (.int i t) (.int j u)) Q E s) :
  OpR X f (rI0 λ i j=>.int (g i j)):=by
 intro F s W H x y v u Q I J G h
 obtain⟨i,j,rfl,rfl,q⟩:=h
 obtain⟨t,rfl⟩:=J
 obtain⟨t',rfl⟩:=G
 exact z i j t t' s _ _ ⟨.int (g i j),H,I.tok _,⟨_,rfl⟩,q⟩
theorem bV3 {f:Value->Value->Sem Value}{g:Int->Int->Bool}
  (z:∀(i j:Int) (t u:Tok) (s:ae) (Q:Value->ae->Prop) (E:Value->ae->Prop),Q (.bool (g i j)) s->wpAny (model X.prog X.w) X.A (f (.int i t) (.int j u)) Q E s) :
  OpR X f (rI0 λ i j=>.bl (g i j)):=by
 intro F s W H x y v u Q I J G h
 obtain⟨i,j,rfl,rfl,q⟩:=h
 obtain⟨t,rfl⟩:=J
 obtain⟨t',rfl⟩:=G
 exact z i j t t' s _ _ ⟨.bl (g i j),H,I,rfl,q⟩
def cc0 (i j:Int):Prop:=0<=j/\j<=1000000/\i.natAbs<2^64
def bP0 (i j:Int):Prop:=(-(2^64)<i/\i<2^64)\/(-(2^64)<j/\j<2^64)
theorem bP0.ok {i j:Int}(h:bP0 i j):IntMulOk i j:=by
 rcases h with⟨F,z⟩|⟨F,z⟩
 .exact .of_left (intBits_le_64 F z)
 .exact .of_right (intBits_le_64 F z)
theorem bO1:OpR X (cg .Add) (rI0 λ i j=>.int (i+j)):=bY8 λ _ _ _ _ _ _ _ q=>add_int q
theorem bM6:OpR X (cg .Sub) (rI0 λ i j=>.int (i - j)):=bY8 λ _ _ _ _ _ _ _ q=>sub_int q
theorem bM1:OpR X (cg .Mod) (rI (λ _ j=>0<j) λ i j=>.int (i % j)):=opI λ i j _ _ _ _ _ hc q=>by
 have z:(0:Int)<j:=hc
 exact mod_int' (by omega) (by rw[Int.fmod_eq_emod_of_nonneg i (by omega)];exact q)
theorem bA8:OpR X (cg .Pow) (rI cc0 λ i j=>.int (i^j.toNat)):=opI λ _ _ _ _ _ _ _ hc q=>pow_int_small hc.1 hc.2.1 hc.2.2 q
theorem unI {f:Value->Sem Value}{g:Int->Int}
  (z:∀(i:Int) (t:Tok) (s:ae) (Q:Value->ae->Prop) (E:Value->ae->Prop),Q (.int (g i) s.toks) { s with toks:=s.toks+1 }->wpAny (model X.prog X.w) X.A (f (.int i t)) Q E s) :
  UnR X f (rU λ i=>.int (g i)):=by
 intro F s W H x v Q I G h
 obtain⟨i,rfl,q⟩:=h
 obtain⟨t,rfl⟩:=G
 exact z i t s _ _ ⟨.int (g i),H,I.tok _,⟨_,rfl⟩,q⟩
theorem bI4:UnR X (unaryOp .USub) (rU λ i=>.int (-i)):=unI λ _ _ _ _ _ q=>neg_int q
end
noncomputable def ca9:V->V->Bool
 | .non,.non=>true|.non,.int _=>true|.int _,.non=>true|.non,.bl _=>true|.bl _,.non=>true|.non,.str _=>true|.str _,.non=>true
 | .int _,.int _=>true|.bl _,.bl _=>true|.str _,.str _=>true|.byt _,.byt _=>true
 | .int _,.str _=>true|.str _,.int _=>true|.bl _,.str _=>true|.str _,.bl _=>true
 | _,_=>false
def rNe:R2:=λ x y H Q=>ca9 x y=true/\Q (.bl (!decide (x=y))) H
theorem aO7 {i j:Int}:decide (V.int i=V.int j)=(i==j):=by
 rw[bL]
 simp
theorem bG9 {i j:Bool}:decide (V.bl i=V.bl j)=(i==j):=by
 rw[bL]
 simp
theorem bt2 {i j:Str}:decide (V.str i=V.str j)=(i==j):=by
 rw[bL]
 simp
theorem bn4 {i j:Array UInt8}:decide (V.byt i=V.byt j)=(i.toList==j.toList):=by
 rw[bL]
 cases i
 cases j
 simp
section
variable {X:Cx} {a b c:Expr} {ta tb tc:TE} {pos:Pos}
theorem zW {z:yA}{W:St}{H:Hp}{s:ae}{Q:VK}{k F:Bool}(I:Inv X z W H s)(q:Q (.bl k) H)(e:k=F):EP X z W Q (.bool F) s:=by
 subst e
 exact⟨.bl k,H,I,rfl,q⟩
theorem bW6:OpR X (c5 .NotEq) rNe:=by
 intro G s W H x y v u Q I F z h
 obtain⟨hs,q⟩:=h
 cases x with
 | non =>
  cases F
  cases y with
  | non=>cases z;exact PySem.EqNone.ne_none_none (zW I q (by simp))
  | bl j=>cases z;exact PySem.EqNone.ne_none_bool (zW I q (by simp))
  | int j=>obtain⟨t',rfl⟩:=z;exact PySem.EqNone.ne_none_int (zW I q (by simp))
  | str j=>obtain⟨t',rfl⟩:=z;exact PySem.EqNone.ne_none_str (zW I q (by simp))
  | _=>exact absurd (show false=true from hs) aC
 | bl i =>
  cases F
  cases y with
  | non=>cases z;exact PySem.EqNone.ne_bool_none (zW I q (by simp))
  | bl j=>cases z;exact ne_bool (zW I q (congrArg not bG9))
  | str j=>obtain⟨t',rfl⟩:=z;exact jG (zW I q (by simp))
  | _=>exact absurd (show false=true from hs) aC
 | int i =>
  obtain⟨t,rfl⟩:=F
  cases y with
  | non=>cases z;exact PySem.EqNone.ne_int_none (zW I q (by simp))
  | int j=>obtain⟨t',rfl⟩:=z;exact ne_int (zW I q (congrArg not aO7))
  | str j=>obtain⟨t',rfl⟩:=z;exact jO (zW I q (by simp))
  | _=>exact absurd (show false=true from hs) aC
 | str i =>
  obtain⟨t,rfl⟩:=F
  cases y with
  | non=>cases z;exact PySem.EqNone.ne_str_none (zW I q (by simp))
  | bl j=>cases z;exact jH (zW I q (by simp))
  | int j=>obtain⟨t',rfl⟩:=z;exact jP (zW I q (by simp))
  | str j=>obtain⟨t',rfl⟩:=z;exact ne_str (zW I q (congrArg not bt2))
  | _=>exact absurd (show false=true from hs) aC
 | byt i =>
  obtain⟨t,rfl⟩:=F
  cases y with
  | byt j=>obtain⟨t',rfl⟩:=z;exact PySem.W.ne_bytes (zW I q (congrArg not bn4))
  | _=>exact absurd (show false=true from hs) aC
 | _=>cases y<;>exact absurd (show false=true from hs) aC
theorem bV4:OpR X (c5 .Lt) (rI0 λ i j=>.bl (decide (i<j))):=bV3 λ _ _ _ _ _ _ _ q=>lt_int q
theorem bU2:OpR X (c5 .LtE) (rI0 λ i j=>.bl (decide (i<=j))):=bV3 λ _ _ _ _ _ _ _ q=>le_int q
theorem bQ8:OpR X (c5 .Gt) (rI0 λ i j=>.bl (decide (j<i))):=bV3 λ _ _ _ _ _ _ _ q=>gt_int q
theorem aX0 {op:CmpOp}{r:R2}(ho:OpR X (c5 op) r)(ha:PE X a ta)(hb:PE X b tb)(hm:c6 op b=false):PE X (.Compare a [op] [b] pos) (tOp r ta tb):=by
 intro z s W H Q I h
 exact wpAny_Compare1 (bP8 ha hb I h λ v u s2 x y J F G Y q=>ho z s2 W J x y v u Q F G Y q) hm
def bB0 (t:TE):TT:=λ W H Q=>t W H λ x H'=>∃ k,x=.bl k/\Q k H'
theorem aB5 {op:CmpOp}{r:R2}(ho:OpR X (c5 op) r)(ha:PE X a ta)(hb:PE X b tb)(hm:c6 op b=false):PT X (.Compare a [op] [b] pos) (bB0 (tOp r ta tb)):=by
 intro F s W H Q I h
 refine fZ (thn (ha F s W H _ I h) λ v s1 ⟨x,H1,G,r1,Y⟩=>thn (hb F s1 W H1 _ G Y) λ u s2 ⟨y,H2,J,r2,q2⟩ =>
  thn (ho F s2 W H2 x y v u _ J r1 r2 q2) λ c s3 ⟨z,Z,I3,r3,k,e,q3⟩=>?_) hm
 subst e
 cases r3
 exact b9 ⟨Z,I3,q3⟩
theorem al7:(aM:Nat)<2^63:=by rw[fg];decide
theorem aL9:OpR X (cg .Add) (λ x y H Q=>∃ i j,x=.str i/\y=.str j/\i.length+j.length<=aM/\Q (.str (i++j)) H):=by
 intro z s W H x y v u Q I F G h
 obtain⟨i,j,rfl,rfl,hz,q⟩:=h
 obtain⟨t,rfl⟩:=F
 obtain⟨t',rfl⟩:=G
 exact add_str (λ t' tk=>⟨.str (i++j),H,I.tok _,⟨_,rfl⟩,q⟩) hz
theorem qQ {x:V}{us:yG}(r:Vals [x] us):∃ u,us=[u]/\RelV x u:=by
 cases r with
 | cons r1 r2=>cases r2;exact⟨_,rfl,r1⟩
theorem aP2 {x y:V}{us:yG}(r:Vals [x,y] us):∃ u z,us=[u,z]/\RelV x u/\RelV y z:=by
 cases r with
 | cons r1 r2 =>
  cases r2 with
  | cons r3 r4=>cases r4;exact⟨_,_,rfl,r1,r3⟩
theorem bg9:ac4 X (.builtin "abs") (λ F H Q=>∃ i,F=[.int i]/\Q (.int (if i<0 then -i else i)) H):=by
 intro z s W H F us Q I r h
 obtain⟨i,rfl,q⟩:=h
 obtain⟨u,rfl,t,rfl⟩:=qQ r
 exact call_abs_int λ u tk=>⟨.int (if i<0 then -i else i),H,I.tok _,⟨_,rfl⟩,q⟩
theorem aW1 (hc:X.calm=true):ac4 X (.builtin "max") (λ F H Q=>∃ i j,F=[.int i,.int j]/\Q (.int (if j > i then j else i)) H):=by
 intro z s W H F us Q I r h
 obtain⟨i,j,rfl,q⟩:=h
 obtain⟨u,G,rfl,⟨t,rfl⟩,⟨t',rfl⟩⟩:=aP2 r
 refine max_two_ints (I.ok.hd hc) λ h' tk k=>⟨_,H,I.kept k,?_,q⟩
 by_cases hj:j > i
 .rw[if_pos hj,if_pos hj];exact⟨_,rfl⟩
 .rw[if_neg hj,if_neg hj];exact⟨_,rfl⟩
theorem aQ7 (hc:X.calm=true):ac4 X (.builtin "min") (λ F H Q=>∃ i j,F=[.int i,.int j]/\Q (.int (if j<i then j else i)) H):=by
 intro z s W H F us Q I r h
 obtain⟨i,j,rfl,q⟩:=h
 obtain⟨u,G,rfl,⟨t,rfl⟩,⟨t',rfl⟩⟩:=aP2 r
 refine min_two_ints (I.ok.hd hc) λ h' tk k=>⟨_,H,I.kept k,?_,q⟩
 by_cases hj:j<i
 .rw[if_pos hj,if_pos hj];exact⟨_,rfl⟩
 .rw[if_neg hj,if_neg hj];exact⟨_,rfl⟩
theorem aP0:ac4 X (.type "int") (λ z H Q=>(∃ i,z=[.int i]/\Q (.int i) H)\/∃ k,z=[.bl k]/\Q (.int (if k then 1 else 0)) H):=by
 intro F s W H z us Q I r h
 rcases h with⟨i,rfl,q⟩|⟨k,rfl,q⟩
 .obtain⟨u,rfl,t,rfl⟩:=qQ r
  exact call_int_int ⟨.int i,H,I,⟨_,rfl⟩,q⟩
 .obtain⟨u,rfl,r1⟩:=qQ r
  cases r1
  exact call_int_bool ⟨.int (if k then 1 else 0),H,I.tok _,⟨_,rfl⟩,q⟩
end
structure ObjM (h:Heap)(x dx Cc:Addr)(mA:yC):Prop where
 obj:h.get? x=some (ja Cc dx)
 ns:h.Ns1 dx mA
 ne:dx≠x
theorem aS0 {h:Heap}{J:Addr}{G:yC}(n:h.Ns1 J G):∃ od,h.get? J=some od/\∀ name,gf name od=some (G name):=by
 obtain⟨o,es,Z,ho,hd,hk,_,hm⟩:=n
 refine⟨o,ho,λ name=>?_⟩
 have e:=hm name
 unfold nsFind findBy at e
 rw[<-Array.find?_toList]at e
 unfold gf
 rw[hd]
 dsimp only
 split
 .rename_i y q
  rw[q]at e
  exact congrArg some e
 .rename_i q
  rw[q]at e
  have a:es.toList.any (·.refKey)=false:=by
   rw[List.any_eq_false]
   intro y hy
   obtain⟨z,t,F⟩:=hk y (Array.mem_toList_iff.mp hy)
   simp[DictEntry.refKey,F]
  have Y:¬ es.toList.any (·.refKey)=true:=by rw[a];exact aC
  rw[if_neg Y]
  exact congrArg some e
theorem ObjM.look {h:Heap}{x z Cc:Addr}{F:yC}(I:ObjM h x z Cc F):∃ od,PySem.W.InstAt h x (ja Cc z) Cc (some od)/\∀ name,gf name od=some (F name) :=
 let⟨od,ho,hl⟩:=aS0 I.ns
 ⟨od,⟨I.obj,rfl,rfl,ho⟩,hl⟩
section
variable {prog:aD} {w:World} {A:aN} {E:Value->ae->Prop} {s:ae} {K:ac} {x dx Cc f:Addr} {mA:yC} {name:Str} {v:Value}
end
section
variable {P:aD} {w:World} {H H':Hp} {h h':Heap} {a Cc dx:Addr} {fs fs':List (Str×V)}
end
structure Cls (K:ac)(Cc:Addr):Prop where
 pg:iJ K Cc Str.empty=true
 hd:PySem.W.hasDictIn K Cc=true
 po:PySem.W.plainOver K Cc=true
 sa:bP K (.ref Cc) "__setattr__"=some (some (.builtin "object.__setattr__"))
theorem Cls.get {K:ac}{Cc:Addr}(c:Cls K Cc)(f:Str):iJ K Cc f=true:=c.pg
section
variable {X:Cx} {pins:yA} {W:St} {H:Hp} {s:ae} {a Cc dx:Addr} {fs:List (Str×V)} {f:Str} {v:V} {A:aN} {E:Value->ae->Prop}
end
section
variable {X:Cx} {o e value:Expr} {f:Str} {pos pos' tpos:Pos} {ta tv:TE}
end
section
variable {X:Cx} {pins:yA} {W:St} {H:Hp} {s:ae} {A:aN} {E:Value->ae->Prop} {Q:Value->ae->Prop} {c:Value} {b:Bool}
inductive TyOf (K:ac)(H:Hp):V->Value->Prop where
 | non:TyOf K H .non (.type "NoneType")
 | bl (x:Bool):TyOf K H (.bl x) (.type "bool")
 | int (i:Int):TyOf K H (.int i) (.type "int")
 | str (x:Str):TyOf K H (.str x) (.type "str")
 | flt (x:UInt64):TyOf K H (.flt x) (.type "float")
 | lst {a:Addr} {xs:List V} (e:H a=some (.lst xs)):TyOf K H (.ref a) (.type "list")
 | frz {a:Addr} {o:Obj} {xs:List V} (e:H a=some (.frz o (.lst xs))):TyOf K H (.ref a) (.type "list")
 | tup {a:Addr} {xs:List V} (e:H a=some (.tup xs)):TyOf K H (.ref a) (.type "tuple")
theorem qB {x:V}{u t:Value}(I:Inv X pins W H s)(F:RelV x u)(J:TyOf X.K H x t)(e:aW X.K t c=some b)(h:∀ tk,Q (.bool b) { s with toks:=tk }) :
  wpAny (model X.prog X.w) A (call (.builtin "isinstance") [u,c]) Q E s:=by
 cases J with
 | non=>cases(show u=Value.none from F);exact bM PySem.W.kitx_none I.kIn True.intro e (λ z=>nomatch z) h
 | bl y=>cases(show u=Value.bool y from F);exact bM PySem.W.kitx_bool I.kIn True.intro e (λ z=>nomatch z) h
 | int i=>obtain⟨t,q⟩:=(show ∃ t,u=Value.int i t from F);cases q;exact bM PySem.W.kitx_int I.kIn True.intro e (λ z=>nomatch z) h
 | str y=>obtain⟨t,q⟩:=(show ∃ t,u=Value.str y t from F);cases q;exact bM PySem.W.kitx_str I.kIn True.intro e (λ z=>nomatch z) h
 | flt y=>obtain⟨t,q⟩:=(show ∃ t,u=Value.float y t from F);cases q;exact bM PySem.W.kitx_float I.kIn True.intro e (λ z=>nomatch z) h
 | @lst a xs ea =>
  cases(show u=Value.ref a from F)
  obtain⟨_,_,n,_,G⟩:=(show ad4 X.prog X.w H s.heap a (.lst xs)from I.hok a _ ea)
  exact bM iu I.kIn ⟨_,G,rfl⟩ e (λ z=>nomatch z) h
 | @frz a ob xs ea =>
  cases(show u=Value.ref a from F)
  obtain⟨_,_,_,n,_,G⟩:=(show ad4 X.prog X.w H s.heap a (.frz ob (.lst xs))from I.hok a _ ea)
  exact bM iu I.kIn ⟨_,G,rfl⟩ e (λ z=>nomatch z) h
 | @tup a xs ea =>
  cases(show u=Value.ref a from F)
  obtain⟨_,_,_,p⟩:=(show ad4 X.prog X.w H s.heap a (.tup xs)from I.hok a _ ea)
  obtain⟨o,G,Y,_⟩:=p
  exact bM g6 I.kIn ⟨o,G,Y⟩ e (λ z=>nomatch z) h
end
structure Room (k:Nat)(A:aN):Prop where
 hd:A.handled=none
 dp:A.depth+3*k+5<recursionLimit
 un:A.units+16*k+200<cLine
theorem Room.mono {j k:Nat}{A:aN}(r:Room k A)(h:j<=k):Room j A:=⟨r.hd,by have:=r.dp;omega,by have:=r.un;omega⟩
theorem Room.deeper {k:Nat}{A:aN}(r:Room (k+1) A)(env:Env):Room k (A.deeper env) :=
 ⟨r.hd,by have:=r.dp;show A.depth+1+3*k+5<_;omega,by have:=r.un;show A.units+3+16*k+200<_;omega⟩
theorem Room.in1 {k:Nat}{A:aN}(r:Room (k+1) A):Room k A.in1 :=
 ⟨r.hd,by have:=r.dp;show A.depth+3*k+5<_;omega,by have:=r.un;show A.units+1+16*k+200<_;omega⟩
theorem Room.depth {k:Nat}{A:aN}(r:Room k A):A.depth<recursionLimit:=by have:=r.dp;omega
theorem Room.units {k:Nat}{A:aN}(r:Room k A):A.units+64<cLine:=by have:=r.un;omega
theorem Room.units0 {k:Nat}{A:aN}(r:Room k A):A.units<cLine:=by have:=r.un;omega
def aY1:TA:=λ _ H Q=>Q [] H
def an3 (ta:TE)(tr:TA):TA:=λ W H Q=>ta W H λ x H1=>tr W H1 λ xs H2=>Q (x::xs) H2
section
variable {X:Cx} {e:Expr} {es:yK} {te:TE} {t:TA} {pos:Pos}
theorem ac5:PA X [] aY1:=λ _ _ _ _ H Q I h=>Calls.spliced_nil ⟨[],H,I,.nil,h⟩
theorem zt (ha:PE X e te)(hr:PA X es t)(hs:bp (e::es) X.env=(false,eval e X.env)::bp es X.env:=by rfl):PA X (e::es) (an3 te t):=by
 intro pos z s W H Q I h
 rw[hs]
 show wpAny _ _ (spliced ((false,eval e X.env)::dS pos (bp es X.env))) _ _ s
 refine Calls.spliced_cons (thn (ha z s W H _ I h) λ u s1 ⟨x,H1,F,r1,J⟩=>?_)
 exact thn (hr pos z s1 W H1 _ F J) λ us s2 ⟨Y,H2,G,Z,q2⟩=>⟨x::Y,H2,G,.cons r1 Z,q2⟩
def ca6 (t:TA):TE:=λ W H Q=>t W H λ xs H1=>xs.length<=aM/\∀ p,H1 p=none->Q (.ref p) (upd H1 p (.tup xs))
def cb0 (t:TA):TE:=λ W H Q=>t W H λ xs H1=>xs.length<=aM/\∀ p,H1 p=none->Q (.ref p) (upd H1 p (.lst xs))
theorem bK9 {x1}(h:PA X es t):PE X (.Tuple es x1 pos) (ca6 t):=by
 intro F s W H Q I hq
 refine wpAny_Tuple_spliced (thn (h pos F s W H _ I hq) λ us s1 ⟨Y,G,J,r,z,q⟩=>⟨by rw[<-r.length];exact z,?_⟩)
 have hf:G s1.heap.objs.size=none:=J.hok.fresh (ao _)
 refine⟨.ref s1.heap.objs.size,upd G s1.heap.objs.size (.tup Y),J.laid (t':=s1.toks) (λ b u e=>av _ e) (ao _) ?_,rfl,q _ hf⟩
 exact⟨z,us,r,⟨_,aX _ rfl,rfl,_,rfl⟩⟩
theorem aq9 (h:PA X es t):PE X (.List es pos) (cb0 t):=by
 intro F s W H Q I hq
 refine wpAny_List_spliced (thn (h pos F s W H _ I hq) λ us s1 ⟨Y,G,J,r,z,q⟩=>⟨by rw[<-r.length];exact z,?_⟩)
 have hf:G s1.heap.objs.size=none:=J.hok.fresh (ao _)
 refine⟨.ref s1.heap.objs.size,upd G s1.heap.objs.size (.lst Y),J.laid (t':=s1.toks) (λ b u e=>av _ e) (ao _) ?_,rfl,q _ hf⟩
 exact⟨z,us,0,r,aX _ rfl⟩
end
abbrev Sp:=List V->Hp->VK->XK->Prop
abbrev CXT:=List Env->Hp->ae->XK->Value->ae->Prop
structure Env0 (P:aD)(w:World)(K:ac)(mg:yC)(base:Heap)(A:aN)(outer:List Env)(s:ae)(H:Hp):Prop where
 frames:A.frames=some outer
 mod:Mod K mg base
 bs:∀ b o,base.get? b=some o->s.heap.get? b=some o/\H b=none
 bsz:base.objs.size<=s.heap.objs.size
 funs:s.heap.FunFrames base outer
 frf:∀ b∈frs outer,H b=none
 hok:HOk P w H s.heap
 bare:eR s.gens
def CE (outer:List Env)(P:aD)(w:World)(H:Hp)(s:ae)(Q:VK)(u:Value)(s':ae):Prop :=
 ∃ v H',s'.os=s.os/\eR s'.gens/\Un (frs outer) [] H H' s.heap s'.heap/\HOk P w H' s'.heap/\RelV v u/\Q v H'
def CR (CX:CXT)(outer:List Env)(P:aD)(w:World)(H:Hp)(s:ae)(Q:VK)(E:XK)(r:iK)(s':ae):Prop :=
 match r with
 | .ok (.ret u)=>CE outer P w H s Q u s'
 | .ok _=>False
 | .error e=>CX outer H s E e s'
structure FnOk (P:aD)(w:World)(K:ac)(mg:yC)(base:Heap)(CX:CXT)(k:Nat)(f:Addr)(fd:bN)(ps:yH)(sp:Sp):Prop where
 len:∀ vs H Q E,sp vs H Q E->vs.length=ps.length
 run:∀(A:aN) (outer:List Env) (s:ae) (H:Hp) (args:Args) (us:yG) (vs:List V) (Q:VK) (E:XK),Room k A->Env0 P w K mg base A outer s H->jf s fd args (ps.zip us)->Vals vs us->sp vs H Q E ->
  gz (model P w) A (.call (.ref f) args) (CR CX outer P w H s Q E) s
theorem FnOk.imp {P:aD}{w:World}{K:ac}{J:yC}{base:Heap}{Y:CXT}{k:Nat}{f:Addr}{Z:bN}{ps:yH}{sp G:Sp}(F:FnOk P w K J base Y k f Z ps sp)
  (h:∀ vs H Q E,G vs H Q E->sp vs H Q E):FnOk P w K J base Y k f Z ps G :=
 ⟨λ vs H Q E q=>F.len vs H Q E (h _ _ _ _ q),λ A z s H args us vs Q E hr he hb hv hs=>F.run A z s H args us vs Q E hr he hb hv (h _ _ _ _ hs)⟩
section
variable {X:Cx} {pins:yA} {W:St} {H:Hp} {s s':ae}
theorem Inv.env0 (I:Inv X pins W H s):Env0 X.prog X.w X.K X.mg X.base X.A X.stack s H :=
 ⟨I.ok.frames,I.ok.mod,I.bs,al I.ok.bsz I.sz,I.stack,I.stkFree,I.hok,I.bare⟩
theorem Inv.after {Q:VK}{u:Value}(I:Inv X pins W H s)(h:CE X.stack X.prog X.w H s Q u s'):EP X pins W Q u s':=by
 obtain⟨v,H',os,bare,un,hok,r,q⟩:=h
 obtain⟨hh,g,d,t,F⟩:=s'
 obtain rfl:F=s.os:=os
 exact⟨v,H',I.call (h':=hh) (g':=g) (d':=d) (t':=t) (ch:=[]) un hok bare (λ b z=>absurd z (by simp)),r,q⟩
end
def aK5 (sp:Sp)(dvs:List V)(E:XK)(t:TA):TE:=λ W H Q=>t W H λ vs H1=>sp (vs++dvs) H1 Q E
def Binds (K:ac)(fd:bN)(ps:yH)(ds:yG):Prop :=
 ∀(s:ae) (us:yG),K.In s.heap->(us++ds).length=ps.length->jf s fd ⟨us,[]⟩ (ps.zip (us++ds))
theorem Binds.all {K:ac}{z:bN}{ps:yH}(h:∀ us:List Value,us.length=ps.length->bindArgs z ⟨us,[]⟩=pure (ps.zip us)):Binds K z ps []:=λ s us _ hl=>by
 rw[aF]at hl ⊢
 exact .of_eq (h us hl)
def af9 (CX:CXT)(X:Cx)(E:XK):Prop:=∀(pins:yA) (W:St) (H:Hp) (s:ae) (e:Value) (s':ae),Inv X pins W H s->CX X.stack H s E e s'->X.xe e s'
section
variable {X:Cx} {CX:CXT} {k:Nat} {f Cc:Addr} {fd:bN} {ps:yH} {sp:Sp} {dvs:List V} {ds:yG} {E:XK} {x m:Str} {p pos apos:Pos} {e o:Expr} {es:yK} {ta:TE} {t:TA}
theorem bi3 {z:yA}{W:St}{H:Hp}{s:ae}{Q:VK}{us:yG}{vs:List V}(F:FnOk X.prog X.w X.K X.mg X.base CX k f fd ps sp)(hr:Room k X.A)(hb:Binds X.K fd ps ds)(hd:Vals dvs ds)(hx:af9 CX X E)
  (I:Inv X z W H s) (r:Vals vs us) (h:sp (vs++dvs) H Q E):wpAny (model X.prog X.w) X.A (call (.ref f) us) (EP X z W Q) X.xe s:=by
 have G:Vals (vs++dvs) (us++ds):=r.append hd
 have hl:(us++ds).length=ps.length:=by rw[<-G.length];exact F.len _ _ _ _ h
 refine g7 (fN (F.run X.A X.stack s H ⟨us,[]⟩ (us++ds) (vs++dvs) Q E hr I.env0 (hb s us I.kIn hl) G h) λ r s' hq=>?_)
 cases r with
 | error e=>exact hx z W H s e s' I hq
 | ok fl =>
  cases fl with
  | ret u=>exact I.after hq
  | next=>exact a8 hq
  | brk=>exact a8 hq
  | cont=>exact a8 hq
theorem aW4 (F:FnOk X.prog X.w X.K X.mg X.base CX k f fd ps sp)(hr:Room k X.A)(hg:Gl X x)(hm:X.mg x=some (.ref f))(hk:bZ X.K (.ref f)=true)(hb:Binds X.K fd ps ds)(hd:Vals dvs ds)(hx:af9 CX X E)
  (ha:PA X (e::es) t) (G:(x==("__debug__":Str))=false:=by decide) (Z:bp (e::es) X.env=(false,eval e X.env)::bp es X.env:=by rfl) (J:(dS pos (bp es X.env)).any (·.1)=false:=by rfl) :
  PE X (.Call (.Name x p) (e::es) [] pos) (aK5 sp dvs E t):=by
 intro z s W H Q I h
 refine cU (as2 I hg hm ?_ G)
 refine g8 (h₀:=X.base) I.ok.mod.kin hk (thn (ha pos z s W H _ I h) λ us s1 ⟨vs,H1,Y,r,q⟩=>⟨Y.kIn,?_⟩) Z J
 exact bi3 F hr hb hd hx Y r q
theorem aZ5 (F:FnOk X.prog X.w X.K X.mg X.base CX k f fd ps sp)(hr:Room k X.A)(hg:Gl X x)(hm:X.mg x=some (.ref f))(hk:bZ X.K (.ref f)=true)(hb:Binds X.K fd ps ds)(hd:Vals dvs ds)(hx:af9 CX X E)
  (z:(x==("__debug__":Str))=false:=by decide):PE X (.Call (.Name x p) [] [] pos) (aK5 sp dvs E aY1):=by
 intro G s W H Q I h
 refine cU (as2 I hg hm ?_ z)
 exact PySem.W.callWith_K0 I.kIn hk (bi3 (us:=[]) F hr hb hd hx I .nil h)
structure Mk (K:ac)(Cc f:Addr):Prop where
 makes:PySem.W.makesIn K Cc=true
 init:bP K (.ref Cc) "__init__"=some (some (.ref f))
 fn:PySem.W.isFn K (.ref f)=true
 kp:bZ K (.ref Cc)=true
end
section
variable {X:Cx} {CX:CXT} {k:Nat} {f Cc:Addr} {fd:bN} {ps ks:yH} {sp:Sp} {E:XK} {x m:Str} {p pos apos kpos:Pos} {e o:Expr} {es:yK} {kws:List gA} {te ta:TE} {t tk:TA} {nm:Option Str}
variable {g:List Value->List Value->List Value} {gV:List V->List V->List V}
end
structure FnScope (N P:yH)(sc:Scope):Prop where
 kind:sc.kind=.function
 co:sc.isCoroutine=false
 gen:sc.isGenerator=false
 nd:N.Nodup
 pre:N.take P.length=P
 par:∀ x∈P,sc.names.lookup x=some .local\/sc.names.lookup x=some .cell
 nofree:∀ y∈sc.names,y.2≠.free
theorem ax1 {dU:Str->Option b8}{x:Str}:∀ {binds:List (Str×Value)} {m:yC},(∀ v,(x,v) ∉ binds)->bindL dU binds m x=m x
 | [],_,_=>rfl
 | (n,v)::r,m,h=>by
  unfold bindL
  rw[ax1 λ w hw=>h w (ak _ hw)]
  split
  .have:x≠n:=by rintro rfl;exact h v aw
   simp[this]
  .rfl
theorem ax0 {dU:Str->Option b8}{x:Str}:∀ {binds:List (Str×Value)} {m:yC},(∀ v,(x,v) ∉ binds)->bindC dU binds m x=m x
 | [],_,_=>rfl
 | (n,v)::r,m,h=>by
  unfold bindC
  rw[ax0 λ w hw=>h w (ak _ hw)]
  split
  .rfl
  .have:x≠n:=by rintro rfl;exact h v aw
   simp[this]
theorem ax3 {dU:Str->Option b8}{x:Str}{v:Value}:∀ {P:yH} {vs:yG} {i:Nat} {m:yC},P.Nodup->P[i]?=some x->vs[i]?=some v->dU x=some .local ->
  bindL dU (P.zip vs) m x=some v
 | [],_,_,_,_,h,_,_=>by simp at h
 | _::_,[],_,_,_,_,h,_=>by simp at h
 | p::P,w::vs,0,m,nd,h1,h2,hk=>by
  simp at h1 h2;subst h1;subst h2
  show bindL dU ((p,w)::P.zip vs) m p=_
  unfold bindL
  rw[ax1 λ v hv=>(eE.mp nd).1 (eF hv).1,if_pos hk]
  simp
 | p::P,w::vs,i+1,m,nd,h1,h2,hk=>by
  show bindL dU ((p,w)::P.zip vs) m x=_
  unfold bindL
  exact ax3 (i:=i) (eE.mp nd).2 (by simpa using h1) (by simpa using h2) hk
theorem ay1 {dU:Str->Option b8}{x:Str}{v:Value}:∀ {P:yH} {vs:yG} {i:Nat} {m:yC},P.Nodup->P[i]?=some x->vs[i]?=some v->dU x≠some .local ->
  bindC dU (P.zip vs) m x=some v
 | [],_,_,_,_,h,_,_=>by simp at h
 | _::_,[],_,_,_,_,h,_=>by simp at h
 | p::P,w::vs,0,m,nd,h1,h2,hk=>by
  simp at h1 h2;subst h1;subst h2
  show bindC dU ((p,w)::P.zip vs) m p=_
  unfold bindC
  rw[ax0 λ v hv=>(eE.mp nd).1 (eF hv).1,if_neg hk]
  simp
 | p::P,w::vs,i+1,m,nd,h1,h2,hk=>by
  show bindC dU ((p,w)::P.zip vs) m x=_
  unfold bindC
  exact ay1 (i:=i) (eE.mp nd).2 (by simpa using h1) (by simpa using h2) hk
noncomputable def qr (N:yH)(vs:List V):St:=vs.map some++aj (N.length - vs.length) none
noncomputable def ai8 (CX:CXT)(P:aD)(w:World)(K:ac)(mg:yC)(base:Heap)(N:yH)(qual:Str)(scope:Scope)(f:Addr)(cd:Value)(A:aN)(outer:List Env)(s:ae)(H:Hp)(E:XK):Cx where
 prog:=P
 w:=w
 K:=K
 mg:=mg
 base:=base
 A:=A.deeper (eG qual scope s.heap.objs.size f cd)
 N:=N
 s₀:=s
 H₀:=H
 env:=eG qual scope s.heap.objs.size f cd
 outer:=outer
 stack:=eG qual scope s.heap.objs.size f cd::outer
 ex:=[]
 calm:=true
 fn:=λ _=>true
 pn:=[]
 xe:=λ e s'=>wpAny (model P w) (A.deeper (eG qual scope s.heap.objs.size f cd)) (leaving (eG qual scope s.heap.objs.size f cd) e) (λ _ s''=>CX outer H s E e s'') (λ e' s''=>CX outer H s E e' s'') s'
theorem aj2 {sc:Scope}{n:Nat}{x:Str}(h:sc.names.lookup x=some .cell):∃ c,(bq n sc.names []).lookup x=some c:=by
 have q:=dJ sc.names n [] (.inl h)
 exact fv.mp q
theorem az1 {CX:CXT}{P:aD}{w:World}{K:ac}{mg:yC}{base:Heap}{N ps:yH}{qual:Str}{scope:Scope}{f:Addr}{cd:Value}{A:aN}{F:List Env}{s s1:ae}{H:Hp}{E:XK}{us:yG}{vs:List V}
  (S:FnScope N ps scope) (hd:A.handled=none) (J:Env0 P w K mg base A F s H) (hl:vs.length=ps.length) (r:Vals vs us)
  (x:InCallC s s.heap.objs.size (bindL (eG qual scope s.heap.objs.size f cd).kindOf (ps.zip us) λ _=>none) (bq (s.heap.objs.size+1) scope.names []) (bindC (eG qual scope s.heap.objs.size f cd).kindOf (ps.zip us) λ _=>none) s1) :
  Inv (ai8 CX P w K mg base N qual scope f cd A F s H E) [] (qr N vs) H s1:=by
 have a0:ps.length<=N.length:=by have:=congrArg List.length S.pre;rw[bE]at this;omega
 obtain⟨h1,tk,rfl,hk⟩:=x.done
 have Y:∀ b:Addr,b ∉ (ai8 CX P w K mg base N qual scope f cd A F s H E).ex:=λ b z=>absurd (show b∈([]:List Addr)from z) (by simp)
 refine⟨⟨J.mod,S.kind,rfl,rfl,ao _,λ y z c h1 G=>?_,λ y hy=>?_,λ y c _ h=>?_,λ _=>hd,Around.frames_deeper J.frames,.inr ⟨rfl,rfl⟩,λ b z=>absurd z (Y b),J.bs,J.bsz,λ b _ _=>Y b,λ b z=>absurd z (Y b),J.funs,J.frf⟩,
  rfl,J.bare,Un.kept hk,⟨_,x.toInCall.ns,λ i y v h1 G h3=>?_⟩,λ y c h=>⟨_,x.cell y c h⟩,J.hok.fresh (ao _),λ y c h=>?_,λ p hp=>absurd (show p∈([]:yA)from hp) (by simp),J.hok.kept hk,?_⟩
 .exact name_of_addr x.apart (be h1) (be G)
 .have hy:scope.names.lookup y=some .cell\/scope.names.lookup y=some .free:=hy
  rcases hy with hy|hy
  .exact aj2 hy
  .exact absurd rfl (S.nofree _ (be hy))
 .exact eS (x.above y c (be h))
 .have hi:i<vs.length:=by
   unfold qr at G
   by_cases hi:i<vs.length
   .exact hi
   .rw[bT (by simpa using hi)]at G
    rw[fC]at G
    split at G<;>cases G
  have ha:vs[i]?=some v:=by
   unfold qr at G
   rw[aS (by simpa using hi),a9]at G
   cases e:vs[i]? with
   | none=>rw[e]at G;cases G
   | some a=>rw[e]at G;cases G;rfl
  obtain⟨u,hu,rv⟩:=r.get ha
  have hp:ps[i]?=some y:=by
   rw[<-S.pre,List.getElem?_take_of_lt (by omega)];exact h1
  have Z:ps.Nodup:=by rw[<-S.pre];exact S.nd.sublist (List.take_sublist _ _)
  refine⟨u,rv,?_⟩
  rcases S.par y (bS hp)with k|k
  .exact .inl ⟨k,ax3 Z hp hu k⟩
  .obtain⟨c,e⟩:=aj2 (n:=s.heap.objs.size+1) k
   refine .inr ⟨.inl k,c,e,?_⟩
   have q:=x.cell y c e
   rw[ay1 Z hp hu (by show scope.names.lookup y≠_;rw[k];decide)]at q
   exact q
 .exact J.hok.fresh (eS (x.above y c (be h)))
 .unfold qr
  show _=N.length
  rw[au,aI,List.length_replicate]
  omega
theorem bF4 {CX:CXT}{P:aD}{w:World}{K:ac}{mg:yC}{base:Heap}{k:Nat}{f:Addr}{name qual:Str}{params:dW}{body:yL}{scope:Scope}{dV kV a0 pm F ct oc:Value}{an od:yI}
  {a1:yE} {N ps:yH} {sp:Sp} (lk:K.lookup f=some ⟨oc,od,.func (cV name qual params body scope dV kV a0 pm an F ct),a1⟩) (hcd:eZ K F qual=true) (S:FnScope N ps scope)
  (len:∀ vs H Q E,sp vs H Q E->vs.length=ps.length)
  (Y:∀(A:aN) (z:List Env) (s:ae) (H:Hp) (vs:List V) (Q:VK) (E:XK),Room k (A.deeper (eG qual scope s.heap.objs.size f F))->sp vs H Q E ->
   ∃ t,PSs (ai8 CX P w K mg base N qual scope f F A z s H E) body t/\t { nx:=λ _ H'=>Q .non H',rt:=Q } (qr N vs) H) :
  FnOk P w K mg base CX (k+1) f (cV name qual params body scope dV kV a0 pm an F ct) ps sp:=by
 refine⟨len,λ A z s H args us vs Q E hr e0 hb r Z=>?_⟩
 have hl:=len _ _ _ _ Z
 have KX:K.In s.heap:=e0.mod.kin.keeps λ b o e=>(e0.bs b o e).1
 have a2:s.heap.NoLimit:=e0.mod.nolimit.keeps λ b o e=>(e0.bs b o e).1
 have G:∀ y∈ps.zip us,scope.names.lookup y.1=some .local\/(scope.names.lookup y.1=some .cell/\((bq (s.heap.objs.size+1) scope.names []).lookup y.1).isSome=true):=λ⟨n,v⟩ hy=>by
  rcases S.par n (eF hy).1 with q|q
  .exact .inl q
  .exact .inr ⟨q,dJ _ _ _ (.inl q)⟩
 refine f6 hr.depth (KX _ _ lk) rfl S.co S.gen rfl (g9 KX hcd) (hb _ _ _ _ ?_)
 refine e6 S.kind G λ env he s1 x=>?_
 subst he
 refine⟨a2.keeps x.toInCall.keep,codeAny_func ?_⟩
 obtain⟨t,ht,hq⟩:=Y A z s H vs Q E (hr.deeper _) Z
 have I:Inv (ai8 CX P w K mg base N qual scope f F A z s H E) [] (qr N vs) H s1:=az1 S hr.hd e0 hl r x
 refine aZ (ht [] s1 (qr N vs) H _ I hq) (λ fl s' hs=>?_) λ e s' hs=>hs
 have fin:∀ {W':St} {H':Hp} {v:V} {u:Value},Inv (ai8 CX P w K mg base N qual scope f F A z s H E) [] W' H' s'->RelV v u->Q v H'->CE z P w H s Q u s' :=
  λ {W' H' v u} J rv q=>⟨v,H',J.os,J.bare,J.base,J.hok,rv,q⟩
 cases fl with
 | ret u =>
  obtain⟨v,W',H',J,rv,q⟩:=hs
  exact fin J rv q
 | next =>
  obtain⟨W',H',J,q⟩:=hs
  exact fin (v:=V.non) (u:=Value.none) J rfl q
 | brk =>
  obtain⟨_,_,_,q⟩:=hs
  exact a8 q
 | cont =>
  obtain⟨_,_,_,q⟩:=hs
  exact a8 q
section
variable {X:Cx} {x:Str} {p pos:Pos} {e:Expr} {es:yK} {t:TA} {id T:String} {r:List V->Hp->VK->Prop}
def tCB (r:List V->Hp->VK->Prop)(t:TA):TE:=λ W H Q=>t W H λ vs H1=>r vs H1 Q
theorem ag2 (hc:ac4 X (.builtin id) r)(hg:Gl X x)(hm:X.mg x=none)(hv:a7 x=some (.builtin id))(ha:PA X (e::es) t)(hn:x ≠ "__name__":=by decide)(F:(x==("__debug__":Str))=false:=by decide)
  (J:bp (e::es) X.env=(false,eval e X.env)::bp es X.env:=by rfl) (G:(dS pos (bp es X.env)).any (·.1)=false:=by rfl):PE X (.Call (.Name x p) (e::es) [] pos) (tCB r t):=by
 intro z s W H Q I h
 refine cU (aA3 I hg hm hv ?_ hn F)
 exact PyProof.Rows.callWith_builtin1 (thn (ha pos z s W H _ I h) λ us s1 ⟨vs,H1,Y,r1,Z⟩=>hc z s1 W H1 vs us Q Y r1 Z) J G
theorem al1 (hc:ac4 X (.type T) r)(hg:Gl X x)(hm:X.mg x=none)(hv:a7 x=some (.type T))(ha:PA X (e::es) t)(hn:x ≠ "__name__":=by decide)(F:(x==("__debug__":Str))=false:=by decide)
  (J:bp (e::es) X.env=(false,eval e X.env)::bp es X.env:=by rfl) (G:(dS pos (bp es X.env)).any (·.1)=false:=by rfl):PE X (.Call (.Name x p) (e::es) [] pos) (tCB r t):=by
 intro z s W H Q I h
 refine cU (aA3 I hg hm hv ?_ hn F)
 exact de (thn (ha pos z s W H _ I h) λ us s1 ⟨vs,H1,Y,r1,Z⟩=>hc z s1 W H1 vs us Q Y r1 Z) J G
end
end L2
end
noncomputable section
namespace HT
open PySem PyProof.Rows
section
open PySem.SeqAt
open PySem.AutoSeq1 (wpAny_loadPart')
open PySem.MeetsSeq PySem.MeetsSeq2 PySem.MeetsSeq3
end
section
variable {prog:aD} {w:World} {A:aN} {E:Value->ae->Prop} {s:ae}
theorem cat_tup {t b:Addr}{vs ws:yG}{Q:Value->ae->Prop}(ht:IsTup s.heap t vs.toArray)(hb:IsTup s.heap b ws.toArray)(hv:vs≠[])
  (h1:ws=[]->Q (.ref t) s) (h2:ws≠[]->Q (.ref s.heap.objs.size) { s with heap:=s.heap.push { cls:=.type "tuple",data:=.seq (vs++ws).toArray } })
  (a0:vs.length+ws.length<=aM):wpAny (model prog w) A (cg .Add (.ref t) (.ref b)) Q E s:=by
 obtain⟨⟨cls,dd,data,sl⟩,ho,hc,n,hd⟩:=id ht
 obtain⟨⟨a1,Y,Z,J⟩,z,G,n2,F⟩:=id hb
 simp only at hc hd G F
 subst hc hd G F
 have e:vs.toArray++ws.toArray=(vs++ws).toArray:=by simp
 by_cases hw:ws=[]
 .exact iy ⟨_,ho,rfl⟩ ⟨_,z,rfl⟩ fD gQ dK dF (dz _ _)
   (tuple_addW1 t b vs.toArray ws.toArray n n2 dd Y sl J (by simpa using hv) (by simp[hw])) ⟨ho,z,h1 hw⟩
 .refine iy ⟨_,ho,rfl⟩ ⟨_,z,rfl⟩ fD gQ dK dF (dz _ _)
   (tuple_addW2 t b vs.toArray ws.toArray n n2 dd Y sl J (by simpa using hv) (by simpa using hw) (by rw[aq,aq];exact a0)) ⟨ho,z,?_⟩
  rw[e]
  exact h2 hw
noncomputable def sIx (n d:Nat):Option Int->Nat
 | none=>d
 | some v=>if v<0 then(v+(n:Int)).toNat else min v.toNat n
theorem sIx_le (n d:Nat)(hd:d<=n)(o:Option Int):sIx n d o<=n:=by
 cases o with
 | none=>exact hd
 | some v =>
  show(if v<0 then(v+(n:Int)).toNat else min v.toNat n)<=n
  by_cases hv:v<0
  .rw[if_pos hv];omega
  .rw[if_neg hv];exact Nat.min_le_right _ _
theorem clip_eq (v:Int)(n d:Nat):(if v<0 then max (v+(n:Int)) 0 else min v (n:Int))=((sIx n d (some v):Nat):Int):=by
 show(if v<0 then max (v+(n:Int)) 0 else min v (n:Int))=(((if v<0 then(v+(n:Int)).toNat else min v.toNat n):Nat):Int)
 by_cases hv:v<0
 .simp only[if_pos hv];omega
 .simp only[if_neg hv];omega
theorem adjust_gen (F z:Option Int)(n:Nat):dv F z 1 (n:Int)=(((sIx n 0 F:Nat):Int),((sIx n n z:Nat):Int)):=by
 have G:¬((1:Int)<0):=by omega
 unfold dv
 simp only[G,if_false]
 refine iq ?_ ?_
 .cases F with
  | none=>rfl
  | some v=>exact clip_eq v n 0
 .cases z with
  | none=>rfl
  | some v=>exact clip_eq v n n
theorem places_gen (i j:Nat):cy (i:Int) (j:Int) 1=j - i:=by
 unfold cy
 have z:(1:Int) > 0:=by omega
 simp only[z,if_true,Int.ediv_one]
 split<;>omega
theorem slicePart_ {v:Value}{o:Option Int}{Q:Option Int->ae->Prop}(p:fw v o)(h:Q o s):wpAny (model prog w) A (jb v) Q E s:=by
 cases p with
 | none=>exact slicePart_none h
 | int i t=>exact slicePart_int h
theorem sliceApplied_gen {sl:Addr}{vl vu:Value}{z J:Option Int}{n:Nat}{Q:Int×Int×Nat->ae->Prop}(hs:s.heap.IsSliceOf sl vl vu .none)(Y:fw vl z)(Z:fw vu J)
  (h:Q (((sIx n 0 z:Nat):Int),1,sIx n n J - sIx n 0 z) s):wpAny (model prog w) A (e7 (.ref sl) (pure (n:Int))) Q E s:=by
 obtain⟨os,G,a0,F⟩:=id hs
 unfold e7 jI
 refine ai (ai (dG G F (x:=vl) rfl (ai (dG G F (x:=vu) rfl (ai (dG G F (x:=.none) rfl (az ?_)))))))
 refine ai (slicePart_none ?_)
 show wpAny _ _ (if((1:Int)==0)=true then _ else _) _ _ s
 rw[if_neg (by decide)]
 refine ai (slicePart_ Y (ai (slicePart_ Z (ai (az ?_)))))
 show wpAny _ _ (match dv z J 1 (n:Int)with|(z,J)=>pure (z,(1:Int),cy z J 1)) _ _ s
 rw[adjust_gen z J n]
 show wpAny _ _ (pure (((sIx n 0 z:Nat):Int),(1:Int),cy ((sIx n 0 z:Nat):Int) ((sIx n n J:Nat):Int) 1)) _ _ s
 rw[places_gen]
 exact az h
theorem pick_gen (z:yJ)(i k:Nat):((bB k).filterMap λ(m:Nat)=>z[((i:Int)+(m:Int)*1).toNat]?).toArray=((z.toList.drop i).take k).toArray:=by
 have e:(λ(m:Nat)=>z[((i:Int)+(m:Int)*1).toNat]?)=λ m=>z[i+m]?:=by
  funext m
  have:((i:Int)+(m:Int)*1).toNat=i+m:=by omega
  rw[this]
 rw[e]
 have:=pick_run z i k
 rw[List.filterMap_map]at this
 have e2:((λ x=>z[x]?) ∘ λ x=>i+x)=λ m=>z[i+m]?:=rfl
 rw[e2]at this
 rw[this]
theorem getItem_tuple_cut {t sl:Addr}{z:yJ}{vl vu:Value}{G J:Option Int}{Q:Value->ae->Prop}(Y:IsTup s.heap t z)(hs:s.heap.IsSliceOf sl vl vu .none)(pl:fw vl G)(pu:fw vu J)
  (hw:¬(sIx z.size 0 G=0/\sIx z.size z.size J=z.size))
  (h:Q (.ref s.heap.objs.size) { s with heap:=s.heap.push { cls:=.type "tuple",data:=.seq ((z.toList.drop (sIx z.size 0 G)).take (sIx z.size z.size J - sIx z.size 0 G)).toArray } })
  (a3:z.size<=aM):wpAny (model prog w) A (gB (.ref t) (.ref sl)) Q E s:=by
 have F:sizeOk (.seq ((z.toList.drop (sIx z.size 0 G)).take (sIx z.size z.size J - sIx z.size 0 G)).toArray):=by
  show((z.toList.drop (sIx z.size 0 G)).take (sIx z.size z.size J - sIx z.size 0 G)).toArray.size<=aM
  rw[aq,bE,bV,eM]
  omega
 have hj:sIx z.size z.size J<=z.size:=sIx_le _ _ (ao _) J
 obtain⟨os,Z,a2,a4⟩:=id hs
 have a1:s.TypeIs (.ref sl) "slice":=⟨os,Z,a2⟩
 unfold gB
 try with_reducible refine cH ?_
 first|refine ai (az ?_)|skip
 refine ai (iz Y.typeIs (by decide) ?_)
 refine ai (cK (name:=bf "__getitem__") Y.typeIs bj
  (cJ bj Y.typeIs gI ?_ (hG _ _)))
 show wpAny _ _ (di (.ref t) >>= _) _ _ s
 refine ai (gR Y ?_)
 refine ai (fO a1 ?_)
 rw[if_pos (by decide)]
 refine ai (sliceApplied_gen hs pl pu ?_)
 have a0:¬((((sIx z.size 0 G:Nat):Int)==0&&(1:Int)==1&&(sIx z.size z.size J - sIx z.size 0 G)==z.size)=true):=by
  intro q
  rw[am,am]at q
  have q1:((sIx z.size 0 G:Nat):Int)=0:=eq_of_beq q.1.1
  have q2:sIx z.size z.size J - sIx z.size 0 G=z.size:=eq_of_beq q.2
  exact hw ⟨by omega,by omega⟩
 show wpAny _ _ (if(((sIx z.size 0 G:Nat):Int)==0&&(1:Int)==1&&(sIx z.size z.size J - sIx z.size 0 G)==z.size)=true then _ else _) _ _ s
 rw[if_neg a0,pick_gen]
 first
  | exact ai (m:=cI _) (bH (az ⟨_,rfl,az h⟩) F)
  | exact ai (m:=cI _) (bH (ai (az (az ⟨_,rfl,az h⟩))) F)
  | exact ai (ai (m:=cI _) (bH (az (az ⟨_,rfl,az h⟩)) F))
  | exact ai (ai (m:=cI _) (bH (az ⟨_,rfl,az h⟩) F))
end
end HT
noncomputable section
namespace L2
open PySem PySem.Spec PyProof.Rows
abbrev TO:=St->Hp->(Option Int->Hp->Prop)->Prop
def PO (X:Cx)(e:Option Expr)(t:TO):Prop :=
 ∀(pins:yA) (s:ae) (W:St) (H:Hp) (Q:Option Int->Hp->Prop),Inv X pins W H s->t W H Q ->
  wpAny (model X.prog X.w) X.A (evalPart e X.env) (λ u s'=>∃ o H',Inv X pins W H' s'/\fw u o/\Q o H') X.xe s
noncomputable def aD9:TO:=λ _ H Q=>Q none H
noncomputable def aS8 (t:TE):TO:=λ W H Q=>t W H λ x H1=>∃ i,x=.int i/\Q (some i) H1
section
variable {X:Cx} {e:Expr} {te:TE} {lo hi:Option Expr} {tl th:TO} {pos p2:Pos}
theorem aX8:PO X none aD9:=by
 intro z s W H Q I h
 rw[evalPart_none]
 exact az ⟨none,H,I,.none,h⟩
theorem aV9 (h:PE X e te):PO X (some e) (aS8 te):=by
 intro z s W H Q I hw
 rw[evalPart_some]
 refine thn (h z s W H _ I hw) λ u s1 ⟨x,J,F,r1,G⟩=>?_
 obtain⟨i,rfl,q⟩:=G
 obtain⟨t,rfl⟩:=r1
 exact⟨some i,J,F,.int i t,q⟩
def SlR (X:Cx)(r:V->Option Int->Option Int->Hp->VK->Prop):Prop :=
 ∀(pins:yA) (s:ae) (W:St) (H:Hp) (x:V) (v vl vu:Value) (lo hi:Option Int) (sl:Addr) (Q:VK),Inv X pins W H s->RelV x v->s.heap.IsSliceOf sl vl vu .none->fw vl lo->fw vu hi->r x lo hi H Q ->
  ∃ T id,typeLookup (.type T) "__getitem__"=pure (some (.builtin id))/\s.TypeIs v T/\wpAny (model X.prog X.w) X.A (gB v (.ref sl)) (EP X pins W Q) X.xe s
def tSl (r:V->Option Int->Option Int->Hp->VK->Prop)(te:TE)(tl th:TO):TE:=λ W H Q=>te W H λ x H1=>tl W H1 λ l H2=>th W H2 λ u H3=>r x l u H3 Q
theorem aG8 {r:V->Option Int->Option Int->Hp->VK->Prop}(hr:SlR X r)(he:PE X e te)(hl:PO X lo tl)(hu:PO X hi th):PE X (.Subscript e (.Slice lo hi none p2) pos) (tSl r te tl th):=by
 intro z s W H Q I h
 refine jr (thn (he z s W H _ I h) λ v s1 ⟨x,H1,G,r1,Y⟩=>?_)
 refine wpAny_Slice (thn (hl z s1 W H1 _ G Y) λ vl s2 ⟨l,H2,J,pl,q2⟩=>thn (hu z s2 W H2 _ J q2) λ vu s3 ⟨u,F,Z,pu,q3⟩=>?_)
 rw[evalPart_none]
 refine az ?_
 have I4:Inv X z W F { s3 with heap:=s3.heap.push { cls:=.type "slice",data:=.fields #[vl,vu,.none] } }:=Z.kept (t':=s3.toks) λ b ob q=>av _ q
 obtain⟨T,id,hT,ht,hg⟩:=hr z { s3 with heap:=s3.heap.push { cls:=.type "slice",data:=.fields #[vl,vu,.none] } } W F x v vl vu l u s3.heap.objs.size Q I4 r1 (kh ..) pl pu q3
 show wpAny (model X.prog X.w) X.A (subscriptTail e (.Slice lo hi none p2) v (.ref s3.heap.objs.size)) (EP X z W Q) X.xe { s3 with heap:=s3.heap.push { cls:=.type "slice",data:=.fields #[vl,vu,.none] } }
 exact tail_any (ops:=[.ref s3.heap.objs.size,v]) ht hT hg (by with_unfolding_all rfl)
noncomputable def aL7 (xs:List V)(lo hi:Option Int):List V:=(xs.drop (HT.sIx xs.length 0 lo)).take (HT.sIx xs.length xs.length hi - HT.sIx xs.length 0 lo)
theorem an7 (z:List V)(F G:Option Int):(aL7 z F G).length<=z.length:=by
 unfold aL7
 rw[bE,bV]
 omega
def cb8 (K:ac):V->Option Int->Option Int->Hp->VK->Prop:=λ x lo hi H Q=>∃ a xs,x=.ref a/\SqT K H a xs /\
 ¬(HT.sIx xs.length 0 lo=0/\HT.sIx xs.length xs.length hi=xs.length)/\∀ p,H p=none->Q (.ref p) (upd H p (.tup (aL7 xs lo hi)))
theorem bD5:SlR X (cb8 X.K):=by
 intro Y s W H x v vl vu G J sl Q I rx hs pl pu h
 obtain⟨a,F,rfl,hx,hw,q⟩:=h
 cases rx
 obtain⟨its,r,Z,hz⟩:=I.tuple hx
 have z:its.toArray.size=F.length:=by rw[aq];exact r.length.symm
 refine⟨"tuple",_,bj.lookup,Z.typeIs,?_⟩
 refine HT.getItem_tuple_cut Z hs pl pu (by rw[z];exact hw) ?_ (by rw[z];exact hz)
 rw[z]
 refine⟨.ref s.heap.objs.size,_,I.laid (t':=s.toks) (o:=.tup (aL7 F G J)) (λ b ob q=>av _ q) (ao _) ?_,rfl,q _ (I.hok.fresh (ao _))⟩
 exact⟨al (an7 F G J) hz,_,(r.drop (HT.sIx F.length 0 G)).take (HT.sIx F.length F.length J - HT.sIx F.length 0 G),iL _ _⟩
def bR2 (K:ac):R2:=λ x y H Q=>∃ a b xs ys,x=.ref a/\y=.ref b/\SqT K H a xs/\SqT K H b ys/\xs≠[]/\xs.length+ys.length<=aM /\
 (ys=[]->Q (.ref a) H)/\(ys≠[]->∀ p,H p=none->Q (.ref p) (upd H p (.tup (xs++ys))))
theorem Vals.nil_iff {z:List V}{us:yG}(r:Vals z us):us=[]↔z=[]:=by
 cases r with
 | nil=>simp
 | cons _ _=>simp
theorem bp8:OpR X (cg .Add) (bR2 X.K):=by
 intro G s W H x y v u Q I rx ry h
 obtain⟨a,b,xs,ys,rfl,rfl,ha,hb,hx,hz,Z,q2⟩:=h
 cases rx
 cases ry
 obtain⟨its,r1,p1,_⟩:=I.tuple ha
 obtain⟨J,F,Y,_⟩:=I.tuple hb
 refine HT.cat_tup p1 Y (λ z=>hx (r1.nil_iff.mp z)) (λ z=>⟨.ref a,H,I,rfl,Z (F.nil_iff.mp z)⟩) (λ z=>?_) (by rw[<-r1.length,<-F.length];exact hz)
 refine⟨.ref s.heap.objs.size,_,I.laid (t':=s.toks) (o:=.tup (xs++ys)) (λ b ob q=>av _ q) (ao _) ?_,rfl,q2 (λ w=>z (F.nil_iff.mpr w)) _ (I.hok.fresh (ao _))⟩
 exact⟨by rw[au];exact hz,_,r1.append F,iL _ _⟩
end
noncomputable def ixN (n:Nat)(i:Int):Option Nat:=if 0<=i then(if i<n then some i.toNat else none)else if -(n:Int)<=i then some (i+n).toNat else none
noncomputable def atI {α:Type}(xs:List α)(i:Int):Option α:=(ixN xs.length i).bind λ j=>xs[j]?
theorem aT1 {n:Nat}{i:Int}{j:Nat}(h:ixN n i=some j):seqIndex? i n=some j/\j<n/\-(n:Int)<=i/\i<n:=by
 unfold ixN at h
 by_cases h0:0<=i
 .rw[if_pos h0]at h
  by_cases h1:i<n
  .rw[if_pos h1]at h
   have e:i.toNat=j:=ay h
   exact⟨by rw[iX h0 h1,e],by omega,by omega,h1⟩
  .rw[if_neg h1]at h;cases h
 .rw[if_neg h0]at h
  by_cases h1:-(n:Int)<=i
  .rw[if_pos h1]at h
   have e:(i+n).toNat=j:=ay h
   exact⟨by rw[iA (by omega) h1,e],by omega,h1,by omega⟩
  .rw[if_neg h1]at h;cases h
theorem aB7 {α:Type}{z:List α}{i:Int}{v:α}(h:atI z i=some v):∃ j,seqIndex? i z.length=some j/\z[j]?=some v/\j<z.length/\-(z.length:Int)<=i/\i<z.length:=by
 unfold atI at h
 cases e:ixN z.length i with
 | none=>rw[e]at h;cases h
 | some j =>
  rw[e]at h
  obtain⟨J,Y,G,F⟩:=aT1 e
  exact⟨j,J,h,Y,G,F⟩
def aQ2 (b:Expr):Prop:=∀ o i,subscripted b false o i=operate [o,i] (gB o i)
def IxR (X:Cx)(r:R2):Prop :=
 ∀(value slice:Expr) (pins:yA) (s:ae) (W:St) (H:Hp) (x y:V) (v u:Value) (Q:VK),Inv X pins W H s->RelV x v->RelV y u->r x y H Q ->
  subscripted slice false v u=operate [v,u] (gB v u)->wpAny (model X.prog X.w) X.A (subscriptTail value slice v u) (EP X pins W Q) X.xe s
def MtR (X:Cx)(id:String)(r:V->List V->Hp->VK->Prop):Prop :=
 ∀(pins:yA) (s:ae) (W:St) (H:Hp) (x:V) (xs:List V) (v:Value) (us:yG) (Q:VK),Inv X pins W H s->RelV x v->Vals xs us->r x xs H Q ->
  wpAny (model X.prog X.w) X.A (call (.builtin id) (v::us)) (EP X pins W Q) X.xe s
section
variable {X:Cx} {a b:Expr} {ta tb:TE} {pos:Pos}
theorem bD8 {r:R2}(hr:IxR X r)(ha:PE X a ta)(hb:PE X b tb)(hs:aQ2 b):PE X (.Subscript a b pos) (tOp r ta tb):=by
 intro z s W H Q I h
 exact jr (bP8 ha hb I h λ v u s2 x y J F G Y q=>hr a b z s2 W J x y v u Q F G Y q (hs _ _))
def bX7 (K:ac):R2:=λ x y H Q=>∃ p xs i v,x=.ref p/\y=.int i/\SqL K H p xs/\atI xs i=some v/\Q v H
def bY2 (K:ac):R2:=λ x y H Q=>∃ p xs i v,x=.ref p/\y=.int i/\SqT K H p xs/\atI xs i=some v/\Q v H
def cb4:R2:=λ x y H Q=>∃ z i c,x=.str z/\y=.int i/\z.length<=aM/\atI z.cps.toList i=some c/\Q (.str ⟨#[c]⟩) H
theorem aV1:IxR X (bX7 X.K):=by
 intro J Z F s W H x y v u Q I rx ry h hs
 obtain⟨p,xs,i,z,rfl,rfl,hq,he,q⟩:=h
 cases rx
 obtain⟨t,rfl⟩:=ry
 obtain⟨its,r,pl,hz⟩:=I.list hq
 obtain⟨j,G,h2,h3,h4,h5⟩:=aB7 he
 obtain⟨w,ew,Y⟩:=r.get h2
 have hl:=r.length
 have hn:=al7
 have fin:EP X F W Q w s:=⟨z,H,I,Y,q⟩
 by_cases h0:0<=i
 .have hj:i.toNat=j:=by
   rw[iX h0 h5]at G
   exact ay G
  exact item_listR pl.isList h0 (by omega) (by rw[hj];simpa using ew) fin hs
 .have hj:(i+(its.toArray.size:Int)).toNat=j:=by
   rw[iA (by omega) h4]at G
   rw[aq,<-hl]
   exact ay G
  exact fP (x:=w) pl.isList.typeIs iB.lookup
   (wpAny_getItem_list_neg (Q:=λ r s'=>r=w/\EP X F W Q r s') pl.isList (by omega) (by rw[aq]<;>omega) (by omega) (by rw[hj];simpa using ew) ⟨rfl,fin⟩) hs
theorem ix_tup:IxR X (bY2 X.K):=by
 intro G Y F s W H x y v u Q I rx ry h hs
 obtain⟨p,xs,i,z,rfl,rfl,hq,he,q⟩:=h
 cases rx
 obtain⟨t,rfl⟩:=ry
 obtain⟨its,r,Z,hz⟩:=I.tuple hq
 obtain⟨j,h1,h2,h3,h4,h5⟩:=aB7 he
 obtain⟨w,ew,J⟩:=r.get h2
 have hl:=r.length
 have hn:=al7
 have fin:EP X F W Q w s:=⟨z,H,I,J,q⟩
 exact fP (x:=w) Z.typeIs bj.lookup
  (getItem_tuple (j:=j) (Q:=λ r s'=>r=w/\EP X F W Q r s') Z (by omega) (by omega) (by rw[aq,<-hl];exact h1) (by simpa using ew) ⟨rfl,fin⟩) hs
theorem ix_str:IxR X cb4:=by
 intro F G J s W H x y v u Q I rx Z h hs
 obtain⟨z,i,c,rfl,rfl,hz,he,q⟩:=h
 obtain⟨t,rfl⟩:=rx
 obtain⟨t',rfl⟩:=Z
 obtain⟨j,Y,h2,h3,h4,h5⟩:=aB7 he
 have hl:z.cps.toList.length=z.length:=by simp[Str.length]
 rw[hl]at Y h4 h5
 have hn:=al7
 exact tail_any (js s z t) slot_str_getitem.lookup (getItem_str (c:=c) (by
  have e1:decide (i < -(2^63:Int))=false:=decide_eq_false (by omega)
  have e2:decide (i ≥ 2^63)=false:=decide_eq_false (by omega)
  rw[e1,e2,dZ]) (by rw[Y];simpa using h2) ⟨.str ⟨#[c]⟩,H,I.tok _,⟨_,rfl⟩,q⟩) hs
theorem aK6 (its:yG)(n j:Nat)(u:Value):fQ (·.setIfInBounds j u) { cls:=.type "list",data:=.seq its.toArray n }={ cls:=.type "list",data:=.seq (its.set j u).toArray n }:=by
 simp[fQ]
theorem Inv.lst {F:yA}{W:St}{H:Hp}{s:ae}{p:Addr}{G:List V}(I:Inv X F W H s)(h:H p=some (.lst G)) :
  ∃(its:yG) (n:Nat),Vals G its/\s.heap.get? p=some { cls:=.type "list",data:=.seq its.toArray n }/\G.length<=aM:=by
 obtain⟨z,its,n,r,e⟩:=I.hok p _ h
 exact⟨its,n,r,e,z⟩
theorem Inv.lstUpd {z:yA}{W:St}{H:Hp}{s:ae}{p:Addr}{G ys:List V}{its its':yG}{n F:Nat}{f:Obj->Obj}(I:Inv X z W H s)(h:H p=some (.lst G))
  (ho:s.heap.get? p=some { cls:=.type "list",data:=.seq its.toArray n }) (hf:f { cls:=.type "list",data:=.seq its.toArray n }={ cls:=.type "list",data:=.seq its'.toArray F }) (r:Vals ys its') (hz:ys.length<=aM) (t:Nat) :
  Inv X z W (upd H p (.lst ys)) { s with heap:=s.heap.update p f,toks:=t }:=by
 have e:(s.heap.update p f).get? p=some { cls:=.type "list",data:=.seq its'.toArray F }:=by
  rw[f7 f ho (by rw[hf]<;>rfl),hf]
 refine I.write (x:=p) (e:=p) (by rw[h];trivial) (.inl rfl) (λ b u hb q=>(fR _ _ (dq hb)).trans q) ⟨_,e⟩ ?_
 exact⟨hz,its',F,r,e⟩
def bR6:V->V->V->Hp->(Hp->Prop)->Prop:=λ o i v H Q=>∃ p xs k j,o=.ref p/\i=.int k/\H p=some (.lst xs)/\ixN xs.length k=some j/\Q (upd H p (.lst (xs.set j v)))
theorem bd5:bU4 X bR6:=by
 intro z s W H o i v ov iv u Q I ro ri rv h
 obtain⟨p,Z,k,j,rfl,rfl,hp,hj,q⟩:=h
 cases ro
 obtain⟨t,rfl⟩:=ri
 obtain⟨its,n,r,ho,hz⟩:=I.lst hp
 obtain⟨F,h2,G,J⟩:=aT1 hj
 have hl:=r.length
 have hn:=al7
 have Y:Inv X z W (upd H p (.lst (Z.set j v))) { s with heap:=s.heap.update p (fQ (·.setIfInBounds j u)) } :=
  I.lstUpd hp ho (aK6 its n j u) (r.set rv j) (by rw[br];exact hz) s.toks
 by_cases h0:0<=k
 .have hk:k.toNat=j:=by
   rw[iX h0 J]at F
   exact ay F
  exact PySem.W.ki_setAt ho h0 (by omega) (by rw[aq,<-hl];exact J) (by rw[hk];exact⟨_,Y,q⟩)
 .have hk:(k+(its.toArray.size:Int)).toNat=j:=by
   rw[iA (by omega) G]at F
   rw[aq,<-hl]
   exact ay F
  exact PySem.W.ki_setBack ho (by omega) (by rw[aq,<-hl];exact G) (by omega) (by rw[hk];exact⟨_,Y,q⟩)
theorem ax9 (F z:Option Int)(n:Nat):(dH F z none n).1=((HT.sIx n 0 F:Nat):Int)/\(dH F z none n).2.1=((HT.sIx n n z:Nat):Int)/\(dH F z none n).2.2=1:=by
 refine⟨?_,?_,rfl⟩
 .cases F with
  | none=>simp[dH,HT.sIx]
  | some i =>
   simp only[dH,HT.sIx,iM,show(1:Int) > 0 by decide,if_true]
   by_cases h:i<0
   .simp only[h,if_true]<;>omega
   .simp only[h,if_false]<;>omega
 .cases z with
  | none=>simp[dH,HT.sIx]
  | some i =>
   simp only[dH,HT.sIx,iM,show(1:Int) > 0 by decide,if_true]
   by_cases h:i<0
   .simp only[h,if_true]<;>omega
   .simp only[h,if_false]<;>omega
theorem au5 (its:yG)(z F:Option Int):slicePick its.toArray z F none=((its.drop (HT.sIx its.length 0 z)).take (HT.sIx its.length its.length F - HT.sIx its.length 0 z)).toArray:=by
 obtain⟨J,Y,G⟩:=ax9 z F its.toArray.size
 unfold slicePick
 rw[J,Y,G]
 simp only[sliceRange_one,pick_run,aq]<;>rfl
def bY7 (K:ac):V->Option Int->Option Int->Hp->VK->Prop:=λ x lo hi H Q=>∃ a xs,x=.ref a/\SqL K H a xs/\∀ p,H p=none->Q (.ref p) (upd H p (.lst (aL7 xs lo hi)))
theorem bv0:SlR X (bY7 X.K):=by
 intro Y s W H x v vl vu G J sl Q I rx hs pl pu h
 obtain⟨a,z,rfl,hx,q⟩:=h
 cases rx
 obtain⟨its,r,Z,hz⟩:=I.list hx
 have F:=r.length
 refine⟨"list",_,iB.lookup,Z.isList.typeIs,?_⟩
 refine wpAny_getItem_list_slice Z.isList hs pl pu .none (by simp) ?_ (by rw[aq]<;>omega)
 rw[au5,<-F]
 refine⟨.ref s.heap.objs.size,_,I.laid (t':=s.toks) (o:=.lst (aL7 z G J)) (λ b ob q=>av _ q) (ao _) ?_,rfl,q _ (I.hok.fresh (ao _))⟩
 exact⟨al (an7 z G J) hz,_,0,(r.drop (HT.sIx z.length 0 G)).take (HT.sIx z.length z.length J - HT.sIx z.length 0 G),aX _ rfl⟩
theorem az8:ac4 X (.builtin "len") (λ Y H Q=>∃ p ys,Y=[.ref p]/\(SqL X.K H p ys\/SqT X.K H p ys)/\Q (.int ys.length) H):=by
 intro J s W H Y us Q I r h
 obtain⟨p,ys,rfl,hq,q⟩:=h
 obtain⟨u,rfl,Z⟩:=qQ r
 cases Z
 have hn:=al7
 rcases hq with hq|hq
 .obtain⟨its,F,G,hz⟩:=I.list hq
  have z:=F.length
  exact Calls.call_len_list G.isList (by simp only[aq]<;>omega) ⟨.int ys.length,H,I.tok _,⟨s.toks+1,by rw[aq,z]⟩,q⟩
 .obtain⟨its,F,G,hz⟩:=I.tuple hq
  have z:=F.length
  exact len_tuple G (by simp only[aq]<;>omega) ⟨.int ys.length,H,I.tok _,⟨s.toks+1,by rw[aq,z]⟩,q⟩
theorem ax8:ac4 X (.builtin "len") (λ G H Q=>∃ z,G=[.str z]/\z.length<=aM/\Q (.int z.length) H):=by
 intro F s W H G us Q I r h
 obtain⟨z,rfl,hz,q⟩:=h
 obtain⟨u,rfl,t,rfl⟩:=qQ r
 have hn:=al7
 exact len_str (by omega) ⟨.int z.length,H,I.tok _,⟨_,rfl⟩,q⟩
theorem ac4.or {f:Value}{r J:List V->Hp->VK->Prop}(h:ac4 X f r)(h':ac4 X f J):ac4 X f (λ F H Q=>r F H Q\/J F H Q):=by
 intro z s W H F us Q I G q
 rcases q with q|q
 .exact h z s W H F us Q I G q
 .exact h' z s W H F us Q I G q
theorem ay7:ac4 X (.type "list") (λ Z H Q=>∃ p ys,Z=[.ref p]/\(SqL X.K H p ys\/SqT X.K H p ys)/\∀ l,H l=none->Q (.ref l) (upd H l (.lst ys))):=by
 intro G s W H Z us Q I r h
 obtain⟨p,ys,rfl,hq,q⟩:=h
 obtain⟨u,rfl,rx⟩:=qQ r
 cases rx
 have fin:∀(its:yG),Vals ys its->ys.length<=aM->∀(h':Heap) (F:Nat),(∀ b o',s.heap.get? b=some o'->h'.get? b=some o') ->
   h'.get? s.heap.objs.size=some { cls:=.type "list",dict:=none,data:=.seq its.toArray F,slots:=#[] }->EP X G W Q (.ref s.heap.objs.size) { s with heap:=h' }:=λ its z hz h' F kp e =>
  ⟨.ref s.heap.objs.size,_,I.laid (t':=s.toks) kp (ao _) (show ad4 X.prog X.w _ h' _ (.lst ys)from⟨hz,its,F,z,e⟩),rfl,q _ (I.hok.fresh (ao _))⟩
 rcases hq with hq|hq
 .obtain⟨its,z,Y,hz⟩:=I.list hq
  have J:=z.length
  obtain⟨o,ho,hc,n,hd⟩:=Y.isList
  exact call_list_seq p (.inl rfl) ho hc hd (λ h' F kp e=>fin its z hz h' F kp e) (by simp only[aq]<;>omega)
 .obtain⟨its,z,Y,hz⟩:=I.tuple hq
  have J:=z.length
  obtain⟨o,ho,hc,n,hd⟩:=Y
  exact call_list_seq p (.inr rfl) ho hc hd (λ h' F kp e=>fin its z hz h' F kp e) (by simp only[aq]<;>omega)
theorem as0:ac4 X (.type "tuple") (λ Y H Q=>∃ p ys,Y=[.ref p]/\((SqL X.K H p ys/\∀ l,H l=none->Q (.ref l) (upd H l (.tup ys)))\/(SqT X.K H p ys/\Q (.ref p) H))):=by
 intro z s W H Y us Q I r h
 obtain⟨p,ys,rfl,h⟩:=h
 obtain⟨u,rfl,rx⟩:=qQ r
 cases rx
 rcases h with⟨hq,q⟩|⟨hq,q⟩
 .obtain⟨its,F,G,hz⟩:=I.list hq
  have Z:=F.length
  refine call_tuple_list G.isList (λ h' kp=>?_) (by simp only[aq]<;>omega)
  have J:Inv X z W H { s with heap:=h' }:=I.kept (t':=s.toks) kp
  have I2:Inv X z W (upd H h'.objs.size (.tup ys)) { s with heap:=h'.push { cls:=.type "tuple",data:=.seq its.toArray } } :=
   J.laid (t':=s.toks) (λ b o e=>av _ e) (ao _) (show ad4 X.prog X.w _ _ _ (.tup ys)from⟨hz,its,F,iL _ _⟩)
  exact⟨.ref h'.objs.size,_,I2,rfl,q _ (J.hok.fresh (ao _))⟩
 .obtain⟨its,F,G,hz⟩:=I.tuple hq
  exact call_tuple_same G ⟨.ref p,H,I,rfl,q⟩
def tyV (K:ac)(T:String)(x:V)(H:Hp):Prop:=match x with
 | .str _=>T = "str"
 | .int _=>T = "int"
 | .ref p=>(T = "list"/\∃ xs,SqL K H p xs)\/(T = "tuple"/\∃ o,K.lookup p=some o/\o.cls=.type "tuple"/\o.dict=none)
 | _=>False
theorem bh6 {F:yA}{W:St}{H:Hp}{s:ae}{T:String}{x:V}{v:Value}(I:Inv X F W H s)(r:RelV x v)(G:tyV X.K T x H) :
  s.TypeIs v T/\∀ a,v=.ref a->∃ ob,s.heap.get? a=some ob/\ob.dict=none:=by
 cases x with
 | str z =>
  obtain⟨t,rfl⟩:=r
  cases(show T = "str" from G)
  exact⟨js s z t,λ _ e=>nomatch e⟩
 | int i =>
  obtain⟨t,rfl⟩:=r
  cases(show T = "int" from G)
  exact⟨fS s i t,λ _ e=>nomatch e⟩
 | ref p =>
  cases r
  rcases G with⟨rfl,Y,hq⟩|⟨rfl,o,hk,hc,hd⟩
  .obtain⟨its,_,J,_⟩:=I.list hq
   refine⟨J.isList.typeIs,λ a e=>?_⟩
   cases e
   obtain⟨o,n,e,c,hd,_⟩:=J
   exact⟨o,e,hd⟩
  .refine⟨⟨o,I.kIn p o hk,hc⟩,λ a e=>?_⟩
   cases e
   exact⟨o,I.kIn _ o hk,hd⟩
 | _=>exact a8 G
def bY4 (K:ac)(T:String)(r:V->List V->Hp->VK->Prop)(to:TE):TE:=λ W H Q=>to W H λ x H1=>tyV K T x H1/\r x [] H1 Q
def tBM (K:ac)(T:String)(r:V->List V->Hp->VK->Prop)(to:TE)(t:TA):TE:=λ W H Q=>to W H λ x H1=>tyV K T x H1/\t W H1 λ xs H2=>r x xs H2 Q
variable {o e:Expr} {es:yK} {to:TE} {t:TA} {name:Str} {apos cpos:Pos} {T id:String} {r:V->List V->Hp->VK->Prop}
theorem bG6 (Z:ju T)(slot:Slot T name id)(J:hR (.builtin id)=pure (.type "method_descriptor"))(hm:MtR X id r)(ho:PE X o to)
  (G:fx o name X.env (eval o X.env)=eval o X.env:=by rfl) (F:(apos.endLine==cpos.line)=true:=by rfl):PE X (.Call (.Attribute o name apos) [] [] cpos) (bY4 X.K T r to):=by
 intro z s W H Q I h
 refine wpAny_Call_method0_late G F (thn (ho z s W H _ I h) λ v s1 ⟨x,H1,Y,r1,ty,q1⟩=>?_)
 obtain⟨h1,h2⟩:=bh6 Y r1 ty
 exact⟨T,id,Z,slot,J,h1,h2,fT rfl (PySem.evalArgs_none (hm z s1 W H1 x [] v [] Q Y r1 .nil q1))⟩
theorem aZ3 (pa:ju T)(slot:Slot T name id)(Z:hR (.builtin id)=pure (.type "method_descriptor"))(hm:MtR X id r)(ho:PE X o to)(ha:PA X (e::es) t)
  (J:fx o name X.env (eval o X.env)=eval o X.env:=by rfl)
  (Y:((dS cpos (bp (e::es) X.env)).all (λ x=>!x.1)&&(backToKw cpos (iY [] X.env)).all (λ x=>x.1.isSome)
   && decide ((e::es).length+([]:List gA).length+(if([]:List gA).isEmpty then 0 else 1)<30))=true:=by rfl)
  (G:(apos.endLine==cpos.line)=true:=by rfl) (hs:bp (e::es) X.env=(false,eval e X.env)::bp es X.env:=by rfl) (F:(dS cpos (bp es X.env)).any (·.1)=false:=by rfl) :
  PE X (.Call (.Attribute o name apos) (e::es) [] cpos) (tBM X.K T r to t):=by
 intro z s W H Q I h
 refine wpAny_Call_method_late J Y G rfl (thn (ho z s W H _ I h) λ v s1 ⟨x,H1,I1,r1,ty,q1⟩=>?_)
 obtain⟨h1,h2⟩:=bh6 I1 r1 ty
 refine⟨T,id,pa,slot,Z,h1,h2,?_⟩
 have hA:=ha cpos z s1 W H1 _ I1 q1
 rw[hs]at hA ⊢
 refine fT (by show(false||(dS cpos (bp es X.env)).any (·.1))=false;rw[F]<;>rfl) (gh ?_)
 exact thn hA λ us s2 ⟨vs,H2,I2,r2,q2⟩=>hm z s2 W H2 x vs v us Q I2 r1 r2 q2
end
def MtM (X:Cx)(id:String)(r:V->List V->Hp->VK->Prop):Prop :=
 ∀(pins:yA) (s:ae) (W:St) (H:Hp) (x:V) (xs:List V) (v:Value) (us:yG) (Q:VK),Inv X pins W H s->RelV x v->Vals xs us->r x xs H Q ->
  wpAny (model X.prog X.w) X.A (call (.builtin id) (v::us)) (EP X pins W Q) X.xe s
theorem Vals.one:∀ {x:V} {us:yG},Vals [x] us->∃ u,us=[u]/\RelV x u
 | _,_,.cons r .nil=>⟨_,rfl,r⟩
theorem Vals.zero:∀ {us:yG},Vals [] us->us=[]
 | _,.nil=>rfl
theorem Vals.dropLast {z:List V}{us:yG}(h:Vals z us):Vals z.dropLast us.dropLast:=by
 induction h with
 | nil=>exact .nil
 | cons r t ih =>
  cases t with
  | nil=>exact .nil
  | cons q t'=>exact .cons r ih
theorem Vals.reverse {z:List V}{us:yG}(h:Vals z us):Vals z.reverse us.reverse:=by
 induction h with
 | nil=>exact .nil
 | cons r t ih=>rw[bI,bI];exact Vals.append ih (.cons r .nil)
theorem Vals.rep {z:List V}{us:yG}(h:Vals z us):∀ k:Nat,Vals (aj k z).flatten (aj k us).flatten
 | 0=>.nil
 | k+1=>by
  rw[bG,bG,cF,cF]
  exact Vals.append h (Vals.rep h k)
theorem aM0 {α:Type}(l:List α):l.eraseIdx (l.length - 1)=l.dropLast:=by
 induction l with
 | nil=>rfl
 | cons a r ih =>
  cases r with
  | nil=>rfl
  | cons b r =>
   have e:(a::b::r).length - 1=((b::r).length - 1)+1:=by
    have z:(a::b::r).length=r.length+2:=rfl
    have F:(b::r).length=r.length+1:=rfl
    omega
   rw[e,List.eraseIdx_cons_succ,ih]
   all_goals rfl
theorem aA1 (its:yG):∀(k:Nat) (z:yG),
  jv (λ x1 x2=>x1++x2) z.toArray (aj k its.toArray)=(z++(aj k its).flatten).toArray
 | 0,z=>by simp
 | k+1,z=>by
  have e:z.toArray++its.toArray=(z++its).toArray:=by simp
  have e2:(z++its)++(aj k its).flatten=z++(aj (k+1) its).flatten:=by
   rw[bG,cF,ar]
  rw[<-e2,<-aA1 its k (z++its),<-e,bG,dC]
section
variable {X:Cx} {pins:yA} {W:St} {H:Hp} {s:ae} {l b:Addr} {xs ys zs:List V}
theorem Inv.lset {its its':yG}{n:Nat}{f:Array Value->Array Value}{t':Nat}(I:Inv X pins W H s)(z:H l=some (.lst xs))
  (e:s.heap.get? l=some { cls:=.type "list",data:=.seq its.toArray n }) (hf:f its.toArray=its'.toArray) (hv:Vals ys its') (hz:ys.length<=aM) :
  Inv X pins W (upd H l (.lst ys)) { s with heap:=s.heap.update l (fQ f),toks:=t' }:=by
 have q:=PySem.IsL.update e f
 rw[hf]at q
 refine I.write (x:=l) (e:=l) (by rw[z];exact trivial) (.inl rfl) (λ F u hb hu=>(fR s.heap (fQ f) (dq hb)).trans hu) ⟨_,q⟩ ?_
 exact⟨hz,its',_,hv,q⟩
theorem Inv.lnew {its:yG}{t':Nat}(I:Inv X pins W H s)(hv:Vals ys its)(hz:ys.length<=aM) :
  Inv X pins W (upd H s.heap.objs.size (.lst ys)) { s with heap:=s.heap.push { cls:=.type "list",data:=.seq its.toArray },toks:=t' } :=
 I.laid (λ _ _ q=>av _ q) (ao _) ⟨hz,its,0,hv,aX _ rfl⟩
theorem Inv.fresh (I:Inv X pins W H s):H s.heap.objs.size=none:=I.hok.fresh (ao _)
theorem Inv.lstM (I:Inv X pins W H s)(F:H l=some (.lst xs)):xs.length<=aM/\∃(its:yG) (n:Nat),Vals xs its/\xs.length=its.length/\s.heap.get? l=some { cls:=.type "list",data:=.seq its.toArray n }:=by
 obtain⟨z,its,n,r,e⟩:=I.hok l _ F
 exact⟨z,its,n,r,r.length,e⟩
theorem bf9 {n:Nat}(h:n<=aM):dA n=false:=by
 unfold dA
 exact decide_eq_false (by omega)
end
section
variable {X:Cx}
def bt1:V->List V->Hp->VK->Prop:=λ x vs H Q=>∃ l xs y,x=.ref l/\vs=[y]/\H l=some (.lst xs)/\xs.length<aM/\Q .non (upd H l (.lst (xs++[y])))
theorem am9:MtM X "list.append" bt1:=by
 intro J s W H x vs v us Q I rx Z h
 obtain⟨l,xs,y,rfl,rfl,G,hz,q⟩:=h
 cases rx
 obtain⟨u,rfl,Y⟩:=Z.one
 obtain⟨z,its,n,r,hl,e⟩:=I.lstM G
 refine dX dL ⟨_,e,rfl⟩ F.entry_list_append (F.args_list_append_2 _ _) (PySem.list_append l its.toArray n u (by rw[aq];omega)) ⟨e,?_⟩
 refine⟨.non,_,I.lset (its':=its++[u]) G e (by simp) (r.append (.cons Y .nil)) ?_,rfl,q⟩
 rw[au,bn]
 omega
def cb6:V->List V->Hp->VK->Prop:=λ x vs H Q=>∃ l xs y,x=.ref l/\vs=[]/\H l=some (.lst xs)/\xs[xs.length - 1]?=some y/\Q y (upd H l (.lst xs.dropLast))
theorem bN0:MtM X "list.pop" cb6:=by
 intro Z s W H x vs v us Q I rx rv h
 obtain⟨l,xs,y,rfl,rfl,Y,hy,q⟩:=h
 cases rx
 have G:=rv.zero
 subst G
 obtain⟨z,its,n,r,hl,e⟩:=I.lstM Y
 obtain⟨u,hu,ru⟩:=r.get hy
 have J:its.toArray[its.toArray.size - 1]?=some u:=by
  show its.toArray[its.length - 1]?=some u
  rw[<-f8,<-hl]
  exact hu
 refine dX hZ ⟨_,e,rfl⟩ F.entry_list_pop (F.args_list_pop_1 _) (MeetsSeq.list_pop_last l its.toArray n u J (by rw[aq];omega)) ⟨e,?_⟩
 refine⟨y,_,I.lset (its':=its.dropLast) Y e ?_ r.dropLast ?_,ru,q⟩
 .show its.toArray.eraseIdxIfInBounds (its.toArray.size - 1)=its.dropLast.toArray
  rw[aq,List.eraseIdxIfInBounds_toArray,aM0]
 .rw[List.length_dropLast]
  omega
def cc8:R2:=λ x y H Q=>∃ l b xs zs,x=.ref l/\y=.ref b/\H l=some (.lst xs)/\H b=some (.lst zs)/\xs.length+zs.length<=aM/\∀ p,H p=none->Q (.ref p) (upd H p (.lst (xs++zs)))
theorem bj6:OpR X (cg .Add) cc8:=by
 intro G s W H x y v u Q I rx Y h
 obtain⟨l,b,xs,zs,rfl,rfl,J,hB,hz,q⟩:=h
 cases rx
 cases Y
 obtain⟨z,its,n,r,hl,e⟩:=I.lstM J
 obtain⟨z2,F,n2,Z,a0,e2⟩:=I.lstM hB
 refine PySem.P.add_list e e2 ?_ (by rw[aq,aq];omega)
 have ea:its.toArray++F.toArray=(its++F).toArray:=by simp
 rw[ea]
 exact⟨.ref _,_,I.lnew (t':=s.toks) (r.append Z) (by rw[au];omega),rfl,q _ I.fresh⟩
def cd0:R2:=λ x y H Q=>∃ l k xs,x=.ref l/\y=.int k/\H l=some (.lst xs)/\-(2^63)<=k/\k<2^63/\xs.length*k.toNat<=aM /\
 ∀ p,H p=none->Q (.ref p) (upd H p (.lst (aj k.toNat xs).flatten))
theorem br2 {α:Type}(z:List α)(k:Nat):(aj k z).flatten.length=k*z.length:=by
 induction k with
 | zero=>simp
 | succ k ih=>rw[bG,cF,au,ih,Nat.succ_mul,fU]
theorem bC3:OpR X (cg .Mult) cd0:=by
 intro a1 s W H x y v u Q I rx ry h
 obtain⟨l,k,xs,rfl,rfl,hH,h1,h2,hz,q⟩:=h
 cases rx
 obtain⟨t,rfl⟩:=ry
 obtain⟨z,its,n,r,hl,e⟩:=I.lstM hH
 have J:its.toArray.size*k.toNat<=aM:=by rw[aq,<-hl];exact hz
 have a0:¬ its.toArray.size*k.toNat > (2^63 - 1) / 8:=by
  have:(aM:Nat)<=(2^63 - 1) / 8:=by decide
  omega
 have Y:¬(!Builtin.List.listFitsIndex k)=true:=by
  rw[fitsIndex_both h1 h2]
  exact aC
 have G:¬ dA (its.toArray.size*k.toNat)=true:=by
  rw[bf9 J]
  exact aC
 have Z:jv (λ x1 x2=>x1++x2) #[] (aj (if its.toArray.isEmpty=true then 0 else k.toNat) its.toArray)=(aj k.toNat its).flatten.toArray:=by
  have f0:∀ m:Nat,jv (λ x1 x2=>x1++x2) #[] (aj m its.toArray)=(aj m its).flatten.toArray:=λ m=>by
   have:=aA1 its m []
   rw[cA]at this
   exact this
  rw[f0]
  cases its with
  | nil=>simp
  | cons a r'=>rw[if_neg (by simp)]
 refine fe (T := "list") (U := "int") (by decide) ⟨_,e,rfl⟩ (λ s'=>fS s' k t) noFill_list_mul ic dE repeat_list gJ.lookup
  (dX dE (fS s k t) gK (gi _ _) (int___rmul___int_list k t l its.toArray n)
   ⟨e,rfl,⟨_,e,rfl⟩,dX F.slot_list_mul ⟨_,e,rfl⟩ F.entry_list_mul (F.args_list_mul_2 _ _) (AutoListH.list___mul___list_int_3 l its.toArray n k t Y a0 G) ⟨e,?_⟩⟩)
 rw[Z]
 exact⟨.ref _,_,I.lnew (t':=s.toks) (r.rep k.toNat) (by rw[br2,jZ];exact hz),rfl,q _ I.fresh⟩
end
section
variable {prog:aD} {w:World} {A:aN} {E:Value->ae->Prop} {s:ae}
end
section
variable {X:Cx}
end
end L2
end
noncomputable section
namespace Att
open PySem PySem.W PySem.Calls PyProof.Rows
theorem ints_of_wellAll {P:Params}{h:Heap}:∀(ns:List Int) (vs:yG),WellAll P h vs (ns.map WData.int)->jg vs ns:=by
 intro ns
 induction ns with
 | nil =>
  intro vs w
  rw[eU]at w
  cases w
  exact .nil
 | cons n ns ih =>
  intro vs w
  rw[bz]at w
  cases w with
  | cons a b =>
   cases a
   exact .cons _ _ (ih _ b)
theorem script_of {l:OpenLaw}{n:Nat}(hn:l.most=some n){P:Params}{h:Heap}{args:List WData}{F:yG}
  (z:l.row.toRowW.claim.pre args=true) (Y:WellAll P h F args) :
  ∃ a vs ns,F=[Value.ref a]/\args=[WData.list (ns.map WData.int)]/\h.get? a=some { cls:=.type "list",data:=.seq vs.toArray }/\jg vs ns/\ns.length<=n:=by
 have Z:WShape.hasAll [] args [.list .int]=true:=(pre_splitW z).1
 have hc:l.pre.holds [] { args:=args }=true:=(pre_splitW z).2
 obtain⟨d,r,rfl,h1,h2⟩:=hasAllW_cons Z
 obtain rfl:=hasAllW_nil h2
 obtain⟨xs,rfl,h3⟩:=hasW_list h1
 obtain⟨ns,rfl⟩:=items_int h3
 have G:ns.length<=n:=by
  unfold OpenLaw.pre at hc
  have J:(WTm.not (.lt (.lit (.int (n:Int))) (.len (.arg 0)))).holds [] { args:=[.list (ns.map .int)] }=true:=by
   have J:=(holds_andW hc).1
   rw[hn]at J
   exact J
  have h5:=condW_of J (w_not (w_lt w_lit (w_len_list (w_arg rfl))))
  rw[aI]at h5
  refine iO λ q=>?_
  have q':(n:Int)<((ns.length:Nat):Int):=by omega
  first
   | (rw[decide_eq_true q']at h5;exact absurd h5 (by decide))
   | (simp at h5;omega)
 cases Y with
 | cons w1 w2 =>
  cases w2
  cases w1 with
  | list ho hall=>exact⟨_,_,ns,rfl,rfl,ho,ints_of_wellAll ns _ hall,G⟩
theorem post_true (l:OpenLaw)(args:List WData):l.row.toRowW.claim.post args (.bool true) args=true :=
 postW_of (r:=l.row.toRowW) (X:=(true==true))
  (show WShape.has [] (.bool true) .bool=true by first|rfl|decide|simp[WShape.has,WShape.arms,WShape.armsAll])
  (show(WTm.eq .res (.lit (.bool true))).value [] { args:=args,res:=some (.bool true),after:=args }=some (.bool (true==true))from w_eq_bool (w_res rfl) w_lit) rfl
theorem attach_call {l:OpenLaw}{n:Nat}{q:aD}{loose:yH}{XP:(Str->Option Value)->Heap->Prop}{YP:World->Heap->Prop}{d:DefRec}
  (hn:l.most=some n) (a2:d.params.defaults=[])
  (call:∀(w:World) (s₀ z:ae) (mg mb:yC) (fa:Addr) (o:Obj) (pm cd F:Value) (a:Addr) (vs:yG) (ns:List Int),
   Ground q loose [] XP w s₀ mg mb z.heap->YP w z.heap ->
   z.heap.get? fa=some o->o.data=.func (docDef d.name d.params d.body d.scope pm cd F)->z.heap.CodeRec cd d.name->mg d.name=some (.ref fa) ->
   z.heap.get? a=some { cls:=.type "list",data:=.seq vs.toArray }->jg vs ns->ns.length<=n->z.gens=#[] ->
   gz (model l.prog w) gC (.call (.ref fa) ⟨[.ref a],[]⟩) (λ r s'=>r=.ok (.ret (.bool true))/\OldK z.heap s'.heap/\s'.os=z.os/\eR s'.gens) z) :
  WalkO q loose XP YP l.row.toRowW d [] (λ f vs=>jj f vs):=by
 intro w s₀ z mg mb G Y fa o pm cd F dV kV ho hd hcd hD a4 hg args a5 as a0 a6 b0 a3 b1
 obtain rfl:dV=.none:=Dflts.none hD a2
 obtain rfl:kV=.none:=Dflts.noKw hD
 obtain⟨a,vs,ns,rfl,rfl,a1,J,Z⟩:=script_of hn a0 a3
 refine enter_call (fN (call w s₀ z mg mb fa o pm cd F a vs ns G Y ho (fd_plain hd) hcd a4 a1 J Z hg) λ r s' hq=>?_)
 obtain⟨rfl,h2,h3,h4⟩:=hq
 exact⟨.inl ⟨.bool true,.bool true,[],rfl,λ _=>rfl,.bool true,post_true l _,λ _=>⟨List.Pairwise.nil,λ _ hm=>(nomatch hm)⟩⟩,h2,h3,h4⟩
section
variable {prog:aD} {w:World} {A:aN} {E:Value->ae->Prop} {s:ae} {K:Frag}
end
end Att
noncomputable section
namespace L2
open PySem PySem.Spec PyProof.Rows
theorem aA0:∀ {vs:yG} {ns:List Int},jg vs ns->Vals (ns.map V.int) vs
 | _,_,.nil=>.nil
 | _,_,.cons n t h=>.cons ⟨t,rfl⟩ (aA0 h)
noncomputable def defArgs (s:Stmt):dW:=match s with
 | .FunctionDef _ a _ _ _ _ _ _ _ _=>a
 | _=>{ posonlyargs:=[],args:=[],vararg:=none,kwonlyargs:=[],kw_defaults:=[],kwarg:=none,defaults:=[] }
noncomputable def zw (s:Stmt):List Stmt:=match s with
 | .FunctionDef _ _ b _ _ _ _ _ _ _=>b
 | _=>[]
noncomputable def defScope (s:Stmt):Scope:=match s with
 | .FunctionDef _ _ _ _ _ _ sc _ _ _=>sc
 | _=>{ kind:=.function,names:=[],isGenerator:=false,isCoroutine:=false }
noncomputable abbrev CX0:CXT:=λ _ _ _ _ _ _=>False
abbrev E0:XK:=λ _ _ _=>False
theorem bF2 {X:Cx}:af9 CX0 X E0:=λ _ _ _ _ _ _ _ h=>h.elim
structure Fun (K:ac)(x qual:Str)(st:Stmt)(f:Addr)(fd:bN):Prop where
 ex:∃(oc:Value) (od:yI) (kV doc pm:Value) (an:yI) (cdv ct:Value) (osl:yE),
  fd=cV x qual (defArgs st) (zw st) (defScope st) .none kV doc pm an cdv ct/\K.lookup f=some ⟨oc,od,.func fd,osl⟩/\eZ K cdv qual=true
 kp:bZ K (.ref f)=true
section
variable {P:aD} {w:World} {K:ac} {mg:yC} {base:Heap}
theorem Fun.ok {x qual:Str}{st:Stmt}{f:Addr}{Z:bN}{N ps:yH}{k:Nat}{sp:Sp}(F:Fun K x qual st f Z)(S:FnScope N ps (defScope st))(len:∀ vs H Q E,sp vs H Q E->vs.length=ps.length)
  (J:∀(G:Value) (A:aN) (z:List Env) (s:ae) (H:Hp) (vs:List V) (Q:VK) (E:XK),Room k (A.deeper (eG qual (defScope st) s.heap.objs.size f G))->sp vs H Q E ->
   ∃ t,PSs (ai8 CX0 P w K mg base N qual (defScope st) f G A z s H E).nox (zw st) t/\t { nx:=λ _ H'=>Q .non H',rt:=Q } (qr N vs) H):FnOk P w K mg base CX0 (k+1) f Z ps sp:=by
 obtain⟨oc,od,kV,a0,pm,an,G,ct,a1,rfl,lk,hcd⟩:=F.ex
 refine bF4 lk hcd S len λ A z s H vs Q E hr Y=>?_
 obtain⟨t,h,q⟩:=J G A z s H vs Q E hr Y
 exact⟨t,h.nox,q⟩
theorem Fun.binds {x qual:Str}{st:Stmt}{f:Addr}{Z:bN}{ps:yH}(F:Fun K x qual st f Z)
  (h:∀(kV G J:Value) (Y:yI) (z ct:Value) (us:yG),us.length=ps.length->bindArgs (cV x qual (defArgs st) (zw st) (defScope st) .none kV G J Y z ct) ⟨us,[]⟩=pure (ps.zip us)):Binds K Z ps []:=by
 obtain⟨oc,od,kV,G,J,Y,z,ct,a0,rfl,lk,hcd⟩:=F.ex
 exact .all (h kV G J Y z ct)
theorem bj1 {x qual:Str}{st:Stmt}{f:Addr}{oc:Value}{od Y:yI}{G:yE}{kV F J z ct:Value}(l:K.lookup f=some ⟨oc,od,.func (cV x qual (defArgs st) (zw st) (defScope st) .none kV F J Y z ct),G⟩)
  (c:eZ K z qual=true) (k:bZ K (.ref f)=true):Fun K x qual st f (cV x qual (defArgs st) (zw st) (defScope st) .none kV F J Y z ct):=⟨⟨oc,od,kV,F,J,Y,z,ct,G,rfl,l,c⟩,k⟩
end
theorem al3 {n:Nat}(h:n<=1000):n<aM:=ie h (by decide)
section
variable {X:Cx}
end
theorem cc5 {A B:Prop}(h:B):if false=true then A else B:=by
 rw[if_neg aC]
 exact h
theorem iteT {A B:Prop}(h:A):if true=true then A else B:=by
 rw[if_pos rfl]
 exact h
def ad3 (H H':Hp):Prop:=∀ b o,H b=some o->H' b=some o
theorem ad3.refl (H:Hp):ad3 H H:=λ _ _ h=>h
theorem ad3.trans {H z F:Hp}(a:ad3 H z)(b:ad3 z F):ad3 H F:=λ c o h=>b c o (a c o h)
theorem aN5 {prog:aD}{w:World}{A:aN}{R:iK->ae->Prop}{s:ae}{G z iter:Expr}{F:yK}{scope:Scope}{pos:Pos}{it J:Value}{env:Env}(I:Nat->ae->Prop)
  (turn:∀ n s,I n s->wpAny (model prog w) A (pyNext it) (λ r Z=>match r with
   | none=>R (.ok .next) Z
   | some v=>wpAny (model prog w) A (eD z it v) (λ _ Y=>wpAny (model prog w) A (fK z env v) (λ _ s₂ =>
     wpAny (model prog w) A (forIn F true λ c r=>if r=true then do let ok <- dD c env (eval c env);pure (ForInStep.yield ok)else pure (ForInStep.yield r)) (λ ok s₃ =>
      if ok=true then wpAny (model prog w) A (eval G env) (λ x s₄ =>
       wpAny (model prog w) A (call (.builtin "list.append") [J,x]) (λ _ s₅=>∃ m,m<n/\I m s₅) (eV (model prog w) A env λ e s'=>R (.error e) s') s₄) (eV (model prog w) A env λ e s'=>R (.error e) s') s₃
      else ∃ m,m<n/\I m s₃) (eV (model prog w) A env λ e s'=>R (.error e) s') s₂) (eV (model prog w) A env λ e s'=>R (.error e) s') Y) (eV (model prog w) A env λ e s'=>R (.error e) s') Z) (eV (model prog w) A env λ e s'=>R (.error e) s') s)
  (n:Nat) (h:I n s) :
  gz (model prog w) A (.compLoop (.ListComp G [⟨z,iter,F,0⟩] scope pos) 0 it J env) R s:=by
 refine codeAny_loop rfl I (λ n s hI=>?_) n h
 show wpAny _ A ((compTurn (.ListComp G [⟨z,iter,F,0⟩] scope pos) 0 it J env).onRaise (λ x=>do iP x env;theTreesLotGoes x)) _ _ s
 refine wpAny_noted ?_
 rw[compTurn_list]
 refine ai (gP (ai (aZ (turn n s hI) (λ r Z h₁=>?_) λ _ _ h'=>h')))
 cases r with
 | none=>exact az h₁
 | some v =>
  refine ai (aZ h₁ (λ _ Y a0=>?_) λ _ _ h'=>h')
  refine ai (aZ a0 (λ _ s₂ h₂=>ai (aZ h₂ (λ ok s₃ h₃=>?_) λ _ _ h'=>h')) λ _ _ h'=>h')
  cases ok with
  | false=>exact az ⟨rfl,h₃⟩
  | true =>
   exact ai (ai (aZ h₃ (λ x s₄ h₄=>ai (aZ h₄ (λ _ s₅ h₅=>az (az ⟨rfl,h₅⟩)) λ _ _ h'=>h')) λ _ _ h'=>h'))
noncomputable def ao6 (cells:yB):List (Str×b8)->List (Str×Addr)->List (Str×Addr)
 | [],acc=>acc
 | (n,k)::r,acc=>ao6 cells r (if k==.free then(match cells.lookup n with|some c=>(n,c)::acc|none=>acc)else acc)
theorem ah0 {env:Env}:∀(names:List (Str×b8)) (z:yB),(∀ y∈names,y.2=.free->∃ c,env.cells.lookup y.1=some c) ->
  (forIn names z λ(x:Str×b8) (F:yB)=>(if x.2==.free then do let c <- cellOf env x.1;pure (ForInStep.yield ((x.1,c)::F))else pure (ForInStep.yield F):Sem (ForInStep (List (Str×Addr)))))=pure (ao6 env.cells names z)
 | [],z,_=>by rw[jw];rfl
 | (n,k)::r,z,h=>by
  have G:=λ a=>ah0 r a λ y hy=>h y (ak _ hy)
  rw[List.forIn_cons]
  unfold ao6
  cases e:(k==NameKind.free)with
  | false =>
   simp only[bu,if_false]
   exact G z
  | true =>
   have hk:k=.free:=by simpa using e
   obtain⟨c,hc⟩:=h (n,k) aw hk
   have e1:cellOf env n=pure c:=by unfold cellOf;rw[hc]
   simp only[if_true,e1,hc]
   exact G _
theorem af7 {scope:Scope}{env:Env}(h:∀ y∈scope.names,y.2=.free->∃ c,env.cells.lookup y.1=some c):closureFor scope env=pure (ao6 env.cells scope.names []):=by
 have:=ah0 (env:=env) scope.names [] h
 show(forIn scope.names [] (λ(x:Str×b8) (z:yB)=>(if x.2==.free then do let c <- cellOf env x.1;pure (ForInStep.yield ((x.1,c)::z))else pure (ForInStep.yield z):Sem (ForInStep (List (Str×Addr))))) >>= λ z=>pure z)=_
 rw[this]
 rfl
theorem clOf_mem {cells:yB}{n:Str}{c:Addr}:∀ {names:List (Str×b8)} {F:yB},(n,c)∈ao6 cells names F->cells.lookup n=some c\/(n,c)∈F
 | [],_,h=>.inr h
 | (m,k)::r,F,h=>by
  unfold ao6 at h
  rcases clOf_mem h with z|z
  .exact .inl z
  .cases e:(k==NameKind.free)with
   | false=>simp only[e,bu,if_false]at z;exact .inr z
   | true =>
    simp only[e,if_true]at z
    cases q:cells.lookup m with
    | none=>rw[q]at z;exact .inr z
    | some d =>
     rw[q]at z
     rcases ax.mp z with y|y
     .cases y;exact .inl q
     .exact .inr y
theorem aE7 {cells:yB}{n:Str}{c:Addr}(hc:cells.lookup n=some c):∀ {names:List (Str×b8)} {z:yB},((n,NameKind.free)∈names\/(n,c)∈z)->(n,c)∈ao6 cells names z
 | [],_,h=>by rcases h with h|h;(exact absurd h (by simp));exact h
 | (m,k)::r,z,h=>by
  unfold ao6
  refine aE7 hc ?_
  rcases h with h|h
  .rcases ax.mp h with e|h
   .cases e
    right
    simp[hc]
   .exact .inl h
  .right
   cases e:(k==NameKind.free)with
   | false=>simpa using h
   | true =>
    simp only[if_true]
    cases q:cells.lookup m with
    | none=>exact h
    | some d=>exact ak _ h
theorem ah3 {α:Type}{n:Str}{c:α}:∀ {l:List (Str×α)},(n,c)∈l->(∀ d,(n,d)∈l->d=c)->l.lookup n=some c
 | (m,d)::r,h,u=>by
  rw[aP]
  cases e:n==m with
  | true =>
   have e':=beq_iff_eq.mp e
   subst e'
   rw[u d aw]
  | false =>
   rcases ax.mp h with z|z
   .cases z;simp at e
   .exact ah3 z λ d' h'=>u d' (ak _ h')
theorem aC9 {cells:yB}{n:Str}{c:Addr}{names:List (Str×b8)}(hc:cells.lookup n=some c)(h:(n,NameKind.free)∈names):(ao6 cells names []).lookup n=some c:=by
 refine ah3 (aE7 hc (.inl h)) λ d hd=>?_
 rcases clOf_mem hd with z|z
 .rw[hc]at z;exact(ay z).symm
 .exact absurd z (by simp)
theorem zC:∀(names:List (Str×b8)) (n:Nat) (z:yB),bq n names z=bq n names []++z
 | [],_,z=>by simp[bq]
 | (x,k)::r,n,z=>by
  unfold bq
  split
  .rw[zC r (n+1) ((x,n)::z),zC r (n+1) [(x,n)]]
   simp
  .exact zC r n z
theorem zI:∀ {names:List (Str×b8)} {n:Nat} {F:yB} {x:Str} {c:Addr},(x,c)∈bq n names F->(x,NameKind.cell)∈names\/(x,c)∈F
 | [],_,_,_,_,h=>.inr h
 | (y,k)::r,n,F,x,c,h=>by
  unfold bq at h
  split at h
  .rename_i hk
   rcases zI h with z|z
   .exact .inl (ak _ z)
   .rcases ax.mp z with e|z
    .cases e
     have:k=.cell:=by simpa using hk
     subst this
     exact .inl aw
    .exact .inr z
  .rcases zI h with z|z
   .exact .inl (ak _ z)
   .exact .inr z
theorem qH {α:Type}(x:Str):∀(l r:List (Str×α)),(l++r).lookup x=(l.lookup x).or (r.lookup x)
 | [],r=>by simp
 | (y,v)::l,r=>by
  rw[cL,aP,aP]
  cases x==y with
  | true=>rfl
  | false=>exact qH x l r
noncomputable def zJ (N':yH)(src:yD)(scope:Scope)(XN:yH)(xs:Scope):Bool :=
 (scope.kind==.function) &&
 (scope.names.all λ y=>!(y.2==.free)||(xs.names.lookup y.1==some .cell||xs.names.lookup y.1==some .free)) &&
 (scope.names.all λ y=>!(y.2==.local)||scope.names.lookup y.1==some .local) &&
 (scope.names.all λ y=>!(y.2==.cell)||(scope.names.all λ z=>!(z.1==y.1)||z.2==.cell)) &&
 (src.length==N'.length) &&
 ((N'.zip src).all λ y=>match y.2 with|none=>true|some j=>XN[j]?==some y.1&&scope.names.lookup y.1==some .free)
structure CompCk (N':yH)(src:yD)(scope:Scope)(XN:yH)(xs:Scope):Prop where
 kind:scope.kind=.function
 fr:∀ y∈scope.names,y.2=.free->xs.names.lookup y.1=some .cell\/xs.names.lookup y.1=some .free
 loc:∀ y∈scope.names,y.2=.local->scope.names.lookup y.1=some .local
 cel:∀ y∈scope.names,y.2=.cell->∀ z∈scope.names,z.1=y.1->z.2=.cell
 len:src.length=N'.length
 sr:∀(i j:Nat) (x:Str),src[i]?=some (some j)->N'[i]?=some x->XN[j]?=some x/\scope.names.lookup x=some .free
theorem bl2 {F:yH}{src:yD}{scope:Scope}{J:yH}{G:Scope}(h:zJ F src scope J G=true):CompCk F src scope J G:=by
 unfold zJ at h
 simp only[am]at h
 obtain⟨⟨⟨⟨⟨h1,h2⟩,h3⟩,Z⟩,h5⟩,h6⟩:=h
 refine⟨by simpa using h1,λ y hy e=>?_,λ y hy e=>?_,λ y hy e z hz Y=>?_,by simpa using h5,λ i j x e1 e2=>?_⟩
 .have:=aB.mp h2 y hy
  simpa [e]using this
 .have:=aB.mp h3 y hy
  simpa [e]using this
 .have:=aB.mp Z y hy
  simp only[e,beq_self_eq_true,jQ,jR]at this
  have:=aB.mp this z hz
  simpa [Y]using this
 .have hm:(x,some j)∈F.zip src:=by
   refine bS (i:=i) ?_
   rw[List.getElem?_zip_eq_some]
   exact⟨e2,e1⟩
  have:=aB.mp h6 _ hm
  simpa using this
noncomputable abbrev zB (X:Cx)(N':yH)(scope:Scope)(Cc:Addr)(cells:yB)(s:ae)(H:Hp)(ex:List Addr):Cx where
 prog:=X.prog
 w:=X.w
 K:=X.K
 mg:=X.mg
 base:=X.base
 A:=X.A
 N:=N'
 s₀:=s
 H₀:=H
 env:={ scope:=d0 scope X.env,locals:=Cc,globals:=X.env.globals,cells:=cells,qual:=X.env.qual,func:=none,code:=X.env.code,frame:=X.env.frame,builtins:=X.env.builtins }
 outer:=X.stack
 stack:=X.stack
 ex:=ex
 fn:=λ x=>scope.names.lookup x==some .cell
 calm:=X.calm
 pn:=[]
 xe:=λ _ _=>False
def PIf (X:Cx)(ifs:yK)(t:TT):Prop :=
 ∀(pins:yA) (s:ae) (W:St) (H:Hp) (Q:Bool->Hp->Prop),Inv X pins W H s->t W H Q ->
  wpAny (model X.prog X.w) X.A (forIn ifs true λ c r=>if r=true then do let ok <- dD c X.env (eval c X.env);pure (ForInStep.yield ok)else pure (ForInStep.yield r)) (TP X pins W Q) X.xe s
def cb5:TT:=λ _ H Q=>Q true H
theorem bm5 {X:Cx}:PIf X [] cb5:=λ _ _ _ H _ I h=>wpAny_tests_nil ⟨H,I,h⟩
theorem bs6 {X:Cx}{c:Expr}{t:TT}(h:PT X c t):PIf X [c] t:=λ z s W H Q I hw=>wpAny_tests_one (h z s W H Q I hw)
noncomputable def az2 (src:yD)(W:St):St:=src.map λ o=>match o with|none=>none|some j=>(W[j]?).join
def tComp (src:yD)(wi:TI)(g:TG)(tc:TT)(te:TE):TE:=λ W H Q=>wi W H λ J H1=>∀ D,H1 D=none ->
 ∃ Ww:Nat->Nat->St->Hp->Prop,(∃ m,Ww 0 m (az2 src W) (upd H1 D (.lst [])))/\∀ i m W' H',Ww i m W' H' ->
  (J.stop i H'/\Q (.ref D) H')\/(J.go i H'/\∃ N:St->Hp->Prop,(∀ W2 H2,N W2 H2->∃ m',m'<m/\Ww (i+1) m' W2 H2) /\
   ∀ x H2,J.yld i H' x H2->g x W' H2 λ W3 H3=>tc W3 H3 λ b H4=>if b=true then te W3 H4 λ v H5=>∃ ys,H5 D=some (.lst ys)/\ys.length<aM/\N W3 (upd H5 D (.lst (ys++[v])))else N W3 H4)
theorem z9 {env:Env}:∀ {names:List (Str×b8)} {x:Str} {k:b8},names.lookup x=some k ->
  (names.map λ(n,k)=>if(k==NameKind.free&&env.scope.kind==.function&&env.kindOf n==some .cell)then(n,NameKind.cell)else(n,k)).lookup x =
   some (if(k==NameKind.free&&env.scope.kind==.function&&env.kindOf x==some .cell)then NameKind.cell else k)
 | [],_,_,h=>by simp at h
 | (n,k)::r,x,k',h=>by
  have z:=@z9 env r x k'
  show iZ x ((if(k==NameKind.free&&env.scope.kind==.function&&env.kindOf n==some .cell)=true then(n,NameKind.cell)else(n,k))::_)=_
  cases hx:x==n with
  | true =>
   have e:=beq_iff_eq.mp hx
   subst e
   simp only[aP,hx]at h
   cases h
   by_cases hc:(k==NameKind.free&&env.scope.kind==.function&&env.kindOf x==some .cell)=true
   .rw[if_pos hc,if_pos hc];simp only[aP,hx]
   .rw[if_neg hc,if_neg hc];simp only[aP,hx]
  | false =>
   simp only[aP,hx]at h
   by_cases hc:(k==NameKind.free&&env.scope.kind==.function&&env.kindOf n==some .cell)=true
   .rw[if_pos hc];simp only[aP,hx];exact z h
   .rw[if_neg hc];simp only[aP,hx];exact z h
theorem zU {env:Env}:∀ {names:List (Str×b8)} {x:Str},names.lookup x=none ->
  (names.map λ(n,k)=>if(k==NameKind.free&&env.scope.kind==.function&&env.kindOf n==some .cell)then(n,NameKind.cell)else(n,k)).lookup x=none
 | [],_,_=>rfl
 | (n,k)::r,x,h=>by
  have z:=@zU env r x
  show iZ x ((if(k==NameKind.free&&env.scope.kind==.function&&env.kindOf n==some .cell)=true then(n,NameKind.cell)else(n,k))::_)=_
  cases hx:x==n with
  | true=>simp only[aP,hx]at h;cases h
  | false =>
   simp only[aP,hx]at h
   by_cases hc:(k==NameKind.free&&env.scope.kind==.function&&env.kindOf n==some .cell)=true
   .rw[if_pos hc];simp only[aP,hx];exact z h
   .rw[if_neg hc];simp only[aP,hx];exact z h
theorem aq7 {X:Cx}{N':yH}{src:yD}{scope:Scope}{a5:yA}{W:St}{H:Hp}{s s4:ae}{fp:List Addr}
  (J:CompCk N' src scope X.N X.env.scope) (I:Inv X a5 W H s) (hf:∀ b∈fp,FpOk X a5 H b) (b0:∀ b∈fp,b<s.heap.objs.size)
  (e4:∃ tk,s4={ s with heap:=dY (s.heap.push { cls:=.type "dict",data:=.dict #[] }) scope.names,toks:=tk }) :
  Inv (zB X N' scope s.heap.objs.size (bq (s.heap.objs.size+1) scope.names (ao6 X.env.cells scope.names [])) s H fp) [] (az2 src W) H s4:=by
 obtain⟨tk,rfl⟩:=e4
 have hk:∀ b o,s.heap.get? b=some o->(dY (s.heap.push { cls:=.type "dict",data:=.dict #[] }) scope.names).get? b=some o:=λ b o e=>eH _ _ b o (av _ e)
 have ok:=cellsFrom_ok scope.names (s.heap.push { cls:=.type "dict",data:=.dict #[] }) (s.heap.objs.size+1) [] ⟨λ _ _ hm=>(nomatch hm),List.Pairwise.nil⟩ (by rw[cM];exact ao _)
 rw[cM]at ok
 have Z:=zC scope.names (s.heap.objs.size+1) (ao6 X.env.cells scope.names [])
 have lk:∀ x c,(bq (s.heap.objs.size+1) scope.names (ao6 X.env.cells scope.names [])).lookup x=some c ->
   ((x,c)∈bq (s.heap.objs.size+1) scope.names []/\(x,NameKind.cell)∈scope.names)\/(X.env.cells.lookup x=some c/\(bq (s.heap.objs.size+1) scope.names []).lookup x=none):=λ x c e=>by
  rw[Z,qH]at e
  cases q:(bq (s.heap.objs.size+1) scope.names []).lookup x with
  | some d =>
   rw[q]at e
   have e':d=c:=ay e
   subst e'
   have hm:=be q
   refine .inl ⟨hm,?_⟩
   rcases zI hm with z|z
   .exact z
   .exact absurd z (by simp)
  | none =>
   rw[q]at e
   have e':(ao6 X.env.cells scope.names []).lookup x=some c:=e
   rcases clOf_mem (be e')with z|z
   .exact .inr ⟨z,rfl⟩
   .exact absurd z (by simp)
 have up:∀ x c,(x,c)∈bq (s.heap.objs.size+1) scope.names []->s.heap.objs.size+1<=c:=λ x c h=>(ok.empty x c h).2
 have b4:∀ x c,X.env.cells.lookup x=some c->c<s.heap.objs.size:=λ x c h=>by
  obtain⟨v,q⟩:=I.cell x c h
  exact q.lt
 have a3:∀ b,b<s.heap.objs.size->b≠s.heap.objs.size:=λ b h=>aE h
 have b2:∀ b∈fp,H b=none/\b≠X.env.locals/\b ∉ X.fs:=λ b hb=>⟨(hf b hb).1,(hf b hb).2.1,(hf b hb).2.2.1⟩
 have b5:(dY (s.heap.push { cls:=.type "dict",data:=.dict #[] }) scope.names).Ns s.heap.objs.size (λ _=>none):=(Heap.Ns.new s.heap (.type "dict")).keeps (eH _ _)
 have a0:∀ x k,scope.names.lookup x=some k->(d0 scope X.env).names.lookup x=some (if(k==NameKind.free&&X.env.scope.kind==.function&&X.env.kindOf x==some .cell)then NameKind.cell else k):=λ x k e=>z9 (env:=X.env) e
 have a4:∀ x,scope.names.lookup x=none->(d0 scope X.env).names.lookup x=none:=λ x e=>zU (env:=X.env) e
 have b3:∀ x c,(x,NameKind.free)∈scope.names->X.env.cells.lookup x=some c->(bq (s.heap.objs.size+1) scope.names (ao6 X.env.cells scope.names [])).lookup x=some c:=λ x c hx hc=>by
  rw[Z,qH]
  cases q:(bq (s.heap.objs.size+1) scope.names []).lookup x with
  | some d =>
   rcases zI (be q)with z|z
   .have:=J.cel _ z rfl _ hx rfl
    cases this
   .exact absurd z (by simp)
  | none=>exact aC9 hc hx
 have a6:∀ x,(x,NameKind.free)∈scope.names->∃ c,X.env.cells.lookup x=some c:=λ x hx=>I.ok.has x (J.fr _ hx rfl)
 refine⟨⟨I.ok.mod,J.kind,I.ok.glob,I.ok.blt,ao _,λ x y c e1 e2=>?_,λ x hx=>?_,λ x c hx e=>?_,I.ok.hd,I.ok.frames,.inl rfl,λ b hb=>⟨a3 b (b0 b hb),λ x c e z=>?_⟩,I.bs,al I.ok.bsz I.sz,λ b o e hb=>?_,λ b hb z=>?_,I.stack,I.stkFree⟩,
  rfl,I.bare,Un.kept hk,⟨_,b5,λ i x v e1 e2 e3=>?_⟩,λ x c e=>?_,I.hok.fresh (ao _),λ x c e=>?_,λ p hp=>absurd (show p∈([]:yA)from hp) (by simp),I.hok.kept hk,by unfold az2;rw[aI];exact J.len⟩
 .rcases lk x c e1 with⟨a1,_⟩|⟨a1,_⟩<;>rcases lk y c e2 with⟨a2,_⟩|⟨a2,_⟩
  .exact name_of_addr ok.apart a1 a2
  .exact absurd (aG (b4 _ _ a2) (fh (up _ _ a1))) (bK _)
  .exact absurd (aG (b4 _ _ a1) (fh (up _ _ a2))) (bK _)
  .exact I.ok.inj x y c a1 a2
 .cases q:scope.names.lookup x with
  | none =>
   have G:(d0 scope X.env).names.lookup x=some .cell\/(d0 scope X.env).names.lookup x=some .free:=hx
   rw[a4 x q]at G
   rcases G with z|z<;>cases z
  | some k =>
   have G:(d0 scope X.env).names.lookup x=some .cell\/(d0 scope X.env).names.lookup x=some .free:=hx
   rw[a0 x k q]at G
   cases k with
   | free =>
    obtain⟨c,hc⟩:=a6 x (be q)
    exact⟨c,b3 x c (be q) hc⟩
   | cell =>
    obtain⟨c,hc⟩:=aj2 (n:=s.heap.objs.size+1) q
    exact⟨c,by show(bq _ _ _).lookup x=_;rw[Z,qH,hc];rfl⟩
   | _=>rcases G with z|z<;>cases z
 .have G:(scope.names.lookup x==some .cell)=true:=hx
  have q:scope.names.lookup x=some .cell:=by simpa using G
  rcases lk x c e with⟨a,_⟩|⟨a,b⟩
  .have:=up _ _ a;show s.heap.objs.size<=c;omega
  .obtain⟨d,hd⟩:=aj2 (n:=s.heap.objs.size+1) q
   rw[hd]at b;cases b
 .subst z
  rcases lk x c e with⟨a,_⟩|⟨a,_⟩
  .exact absurd (aG (b0 c hb) (fh (up _ _ a))) (bK _)
  .exact(hf c hb).2.2.2.2.1 x c a rfl
 .rcases(hf b hb).2.2.2.1 with z|z
  .exact I.ok.noex b o e z
  .exact absurd (aG (aH e) (al I.ok.bsz z)) (bK _)
 .rcases ax.mp (I.stkSub b z)with y|y
  .exact(b2 b hb).2.1 y
  .exact(b2 b hb).2.2 y
 .have F:(az2 src W)[i]?=some (some v):=e2
  unfold az2 at F
  rw[a9]at F
  cases q:src[i]? with
  | none=>rw[q]at F;cases F
  | some o =>
   rw[q]at F
   cases o with
   | none=>cases F
   | some j =>
    have Y:(W[j]?).join=some v:=ay F
    have ej:W[j]?=some (some v):=by
     cases q2:W[j]? with
     | none=>rw[q2]at Y;cases Y
     | some o2=>rw[q2]at Y;exact congrArg some Y
    obtain⟨h1,h2⟩:=J.sr i j x q e1
    have hm:=be h2
    obtain⟨mX,b7,b6⟩:=I.loc
    have b1:Vis X.env.scope x:=by
     rcases J.fr _ hm rfl with z|z
     .exact .inr (.inl z)
     .exact .inr (.inr z)
    obtain⟨u,ru,look⟩:=b6 j x v h1 ej b1
    refine⟨u,ru,.inr ?_⟩
    have hcell:∃ c,X.env.cells.lookup x=some c/\s.heap.IsCell c (some u):=by
     rcases look with⟨z,_⟩|⟨_,c,z1,z2⟩
     .have z':X.env.scope.names.lookup x=some .local:=z
      rcases J.fr _ hm rfl with y|y<;>(rw[z']at y;cases y)
     .exact⟨c,z1,z2⟩
    obtain⟨c,c1,c2⟩:=hcell
    refine⟨?_,c,b3 x c hm c1,c2.keeps hk⟩
    show(d0 scope X.env).names.lookup x=some .cell\/(d0 scope X.env).names.lookup x=some .free
    rw[a0 x _ h2]
    by_cases hc:(NameKind.free==NameKind.free&&X.env.scope.kind==.function&&X.env.kindOf x==some .cell)=true
    .rw[if_pos hc];exact .inl rfl
    .rw[if_neg hc];exact .inr rfl
 .rcases lk x c e with⟨a,_⟩|⟨a,_⟩
  .exact⟨_,(ok.empty x c a).1⟩
  .obtain⟨v,q⟩:=I.cell x c a
   exact⟨v,q.keeps hk⟩
 .rcases lk x c e with⟨a,_⟩|⟨a,_⟩
  .exact I.hok.fresh (by have:=up _ _ a;omega)
  .exact I.freeC x c a
theorem aH0 {X:Cx}{N':yH}{scope:Scope}{F:yA}{W W':St}{H Y:Hp}{s s5:ae}{Z:List Addr}{cells:yB}{h':Heap}
  (I:Inv X F W H s) (hf:∀ b∈Z,FpOk X F H b) (J:Inv (zB X N' scope s.heap.objs.size cells s H Z) [] W' Y s5) (hs:eT s.heap.objs.size s5.heap h') :
  Inv X F W Y { s5 with heap:=h' }:=by
 have G:∀ b o,s.heap.get? b=some o->b≠s.heap.objs.size:=λ b o e=>aE (aH e)
 have u:Un (frs X.stack) Z H Y s.heap s5.heap:=J.base
 refine I.call' (s':={ s5 with heap:=h' }) (ch:=Z) J.os ⟨λ b o e n hb hx=>?_,λ b o e n hb hx=>?_,λ b o e n hx=>u.free b o e n hx,λ b o e hx=>?_,u.tups,u.frzs,u.tbls⟩ (λ b o e=>?_) J.bare λ b hb=>⟨(hf b hb).2.2.2.1,(hf b hb).2.1,(hf b hb).2.2.2.2.1,(hf b hb).2.2.2.2.2⟩
 .exact(hs.2 b (G b o e)).trans (u.keep b o e n hb hx)
 .obtain⟨sl,q⟩:=u.slot b o e n hb hx
  exact⟨sl,(hs.2 b (G b o e)).trans q⟩
 .obtain⟨o',q⟩:=u.there b o e hx
  exact⟨o',(hs.2 b (G b o e)).trans q⟩
 .have fr:Y s.heap.objs.size=none:=J.free
  refine(J.hok b o e).stay (λ c w' hc q=>(hs.2 c ?_).trans q) (λ _ q=>q) λ _ _ q=>q
  rintro rfl
  rcases hc with z|hc
  .rw[<-z,fr]at e;cases e
  .rw[fr]at hc;cases hc
theorem ag0 {M:Model}{A:aN}{E:Value->ae->Prop}{s:ae}{scope:Scope}{globals:Addr}{F:yB}{qual:Str}{z:Env}{Q:Env->ae->Prop}
  (h:Q { scope:=scope,locals:=s.heap.objs.size,globals:=globals,cells:=bq (s.heap.objs.size+1) scope.names F,qual:=qual,func:=none,code:=z.code,frame:=z.frame,builtins:=z.builtins }
   { s with heap:=dY (s.heap.push { cls:=.type "dict",data:=.dict #[] }) scope.names }) :
  wpAny M A (newFunctionEnv scope globals F [] qual none .none (some z)) Q E s:=by
 simp only[newFunctionEnv,ig,if_true]
 refine ai (wpAny_alloc ?_)
 refine ai (wpAny_layCells _ (λ name kind cells=>by cases hkc:kind==NameKind.cell<;>simp[hkc]) _ _ _ _ ?_)
 rw[show({ s with heap:=s.heap.push { cls:=.type "dict",data:=.dict #[] } }:ae).heap.objs.size=s.heap.objs.size+1 from cM ..]
 refine ai ?_
 rw[jw]
 exact az (az h)
theorem aw5 {X':Cx}{R:iK->ae->Prop}{a5 tg iter:Expr}{a4:yK}{scope:Scope}{pos:Pos}{g:TG}{tc:TT}{te:TE}{J:It}{Z:List Addr}{it D:Addr}{tn:Nat->Heap->Prop}{Ww:Nat->Nat->St->Hp->Prop}
  {QD:Hp->Prop} {W0:St} {H0:Hp} {s4:ae} {m0:Nat} (hx:X'.xe=λ _ _=>False) (G:X'.calm=true) (I4:Inv X' [] W0 H0 s4) (T:Turn X'.prog X'.w X'.K tg J Z it tn) (a6:tn 0 s4.heap)
  (F:∀ H':Hp,(∀ b∈Z,H' b=none)->∀ b∈Z,FpOk X' [] H' b) (b3:∀ b∈Z,H0 b=none) (w0:Ww 0 m0 W0 H0)
  (turn:∀ i m W' H',Ww i m W' H'->(J.stop i H'/\QD H')\/(J.go i H'/\∃ N:St->Hp->Prop,(∀ W2 H2,N W2 H2->∃ m',m'<m/\Ww (i+1) m' W2 H2) /\
   ∀ x H2,J.yld i H' x H2->g x W' H2 λ W3 Y=>tc W3 Y λ b H4=>if b=true then te W3 H4 λ v H5=>∃ ys,H5 D=some (.lst ys)/\ys.length<aM/\N W3 (upd H5 D (.lst (ys++[v])))else N W3 H4))
  (hg:PG X' tg g) (b2:PIf X' a4 tc) (he:PE X' a5 te) (a2:∀ W' H' s',Inv X' [] W' H' s'->QD H'->R (.ok .next) s') :
  gz (model X'.prog X'.w) X'.A (.compLoop (.ListComp a5 [⟨tg,iter,a4,0⟩] scope pos) 0 (.ref it) (.ref D) X'.env) R s4:=by
 have nox:∀ {α:Type} {t:Sem α} {Q Q':α->ae->Prop} {E:Value->ae->Prop} {s:ae},wpAny (model X'.prog X'.w) X'.A t Q X'.xe s->(∀ a s,Q a s->Q' a s)->wpAny (model X'.prog X'.w) X'.A t Q' E s :=
  λ h hQ=>aZ h hQ λ _ _ z=>by rw[hx]at z;exact z.elim
 refine aN5 (λ n s'=>∃ i W' H',Inv X' [] W' H' s'/\tn i s'.heap/\(∀ b∈Z,H' b=none)/\Ww i n W' H') ?_ m0 ⟨0,W0,H0,I4,a6,b3,w0⟩
 rintro n s3 ⟨i,W3,Y,I3,a3,a1,w3⟩
 rcases turn i n W3 Y w3 with⟨stop,qn⟩|⟨go,N,hN,step⟩
 .refine nox (T.done X' rfl rfl rfl G i [] s3 W3 Y X'.xe I3 (F Y a1) a3 stop) λ r s4 ⟨hr,I4⟩=>?_
  subst hr
  exact a2 W3 Y s4 I4 qn
 .refine nox (T.item X' rfl rfl rfl G i [] s3 W3 Y X'.xe I3 (F Y a1) a3 go) λ r s4 ⟨u,hr,h4⟩=>?_
  subst hr
  refine nox h4 λ _ s5 ⟨x,H5,I5,r5,y5,a0,b1⟩=>?_
  have b0:=I5.pinned (F H5 b1) (T.obj _ _ a0)
  refine nox (hg _ s5 W3 H5 x u _ b0 r5 (step x H5 y5)) λ _ s6 ⟨W6,H6,I6,q6⟩=>?_
  have again:∀ {W7:St} {H7:Hp} {s7:ae},Inv X' ([]++aw0 Z s5.heap) W7 H7 s7->N W7 H7->∃ m,m<n/\∃ i W' H',Inv X' [] W' H' s7/\tn i s7.heap/\(∀ b∈Z,H' b=none)/\Ww i m W' H':=λ {W7 H7 s7} I7 n7=>by
   obtain⟨m',hm,w7⟩:=hN W7 H7 n7
   refine⟨m',hm,i+1,W7,H7,I7.unpinned,T.keep _ _ _ a0 λ b hb o e=>(I7.pin (b,o) (aJ _ (aJ _ (qI hb e)))).1,λ b hb=>?_,w7⟩
   obtain⟨o,e,d⟩:=T.obj _ _ a0 b hb
   exact(I7.pin (b,o) (aJ _ (aJ _ (qI hb e)))).2.1
  refine nox (b2 _ s6 W6 H6 _ I6 q6) λ b s7 ⟨H7,I7,q7⟩=>?_
  cases b with
  | false =>
   rw[if_neg aC]at q7 ⊢
   exact again I7 q7
  | true =>
   rw[if_pos rfl]at q7 ⊢
   refine nox (he _ s7 W6 H7 _ I7 q7) λ v s8 ⟨y,H8,I8,r8,ys,hy,hz,q8⟩=>?_
   refine nox (am9 _ s8 W6 H8 (.ref D) [y] (.ref D) [v] (λ _ H9=>N W6 H9) I8 rfl (.cons r8 .nil) ⟨D,ys,y,rfl,rfl,hy,hz,q8⟩) λ v9 s9 ⟨_,H9,I9,_,q9⟩=>?_
   exact again I9 q9
theorem aU6 {X:Cx}{a4 tg iter:Expr}{a1:yK}{scope:Scope}{pos:Pos}{wi:TI}{g:TG}{tc:TT}{te:TE}(Z:yH)(src:yD)
  (b2:zJ Z src scope X.N X.env.scope=true) (hi:PI X tg iter wi) (Y:X.calm=true)
  (b0:∀(Cc:Addr) (cells:yB) (s:ae) (H:Hp) (ex:List Addr),PG (zB X Z scope Cc cells s H ex) tg g/\PIf (zB X Z scope Cc cells s H ex) a1 tc/\PE (zB X Z scope Cc cells s H ex) a4 te)
  (hs:∀ x,dg iter X.env x=pure x:=by intro _;rfl):PE X (.ListComp a4 [⟨tg,iter,a1,0⟩] scope pos) (tComp src wi g tc te):=by
 intro z s W H Q I h
 have ck:=bl2 b2
 rw[eval_ListComp]
 have hcl:=af7 (scope:=scope) (env:=X.env) λ y hy e=>I.ok.has y.1 (ck.fr y hy e)
 refine fy (use:=none) rfl hs hcl ck.kind ck.loc (thn (hi z s W H _ I h) λ v s1 h1=>thn h1 λ b6 s2 h2=>?_)
 obtain⟨it,F,tn,J,H2,e,I2,T,a0,f2,Ww⟩:=h2
 subst e
 have hD:=I2.fresh
 obtain⟨Ww,⟨m0,w0⟩,turn⟩:=Ww _ hD
 have I3:=I2.lnew (its:=[]) (ys:=[]) (t':=s2.toks) .nil (cR _)
 have a5:∀ b∈F,b<s2.heap.objs.size:=λ b hb=>by obtain⟨o,q,_⟩:=T.obj _ _ a0 b hb;exact aH q
 have f3:∀ b∈F,FpOk X z (upd H2 s2.heap.objs.size (.lst [])) b:=λ b hb=>⟨by rw[zn (aE (a5 b hb))];exact(f2 b hb).1,(f2 b hb).2⟩
 refine bH (ag0 ?_)
 generalize G:({ s2 with heap:=s2.heap.push { cls:=.type "list",data:=.seq ([]:yG).toArray },toks:=s2.toks }:ae)=s3 at I3
 have b5:({ s2 with heap:=s2.heap.push { cls:=.type "list",data:=.seq ([]:yG).toArray } }:ae)=s3:=G
 have b1:∀ b∈F,b<s3.heap.objs.size:=λ b hb=>by
  rw[<-G]
  show b<(s2.heap.push _).objs.size
  rw[cM]
  exact dM (a5 b hb)
 have I4:=aq7 (s4:={ s3 with heap:=dY (s3.heap.push { cls:=.type "dict",data:=.dict #[] }) scope.names }) ck I3 f3 b1 ⟨_,rfl⟩
 have a3:tn 0 (dY (s3.heap.push { cls:=.type "dict",data:=.dict #[] }) scope.names):=T.keep _ _ _ a0 λ b hb o e=>eH _ _ b o (av _ (by rw[<-G];exact av _ e))
 obtain⟨hg,b3,he⟩:=b0 s3.heap.objs.size (bq (s3.heap.objs.size+1) scope.names (ao6 X.env.cells scope.names [])) s3 (upd H2 s2.heap.objs.size (.lst [])) F
 have a2:∀ H':Hp,(∀ b∈F,H' b=none)->∀ b∈F,FpOk (zB X Z scope s3.heap.objs.size (bq (s3.heap.objs.size+1) scope.names (ao6 X.env.cells scope.names [])) s3 (upd H2 s2.heap.objs.size (.lst [])) F) [] H' b:=λ H' hn b hb =>
  ⟨hn b hb,(I4.ok.exf b hb).1,I4.ok.exfs b hb,.inl hb,λ x c e=>(I4.ok.exf b hb).2 x c e,λ p hp=>absurd (show p∈([]:yA)from hp) (by simp)⟩
 have T':Turn X.prog X.w X.K tg J F it tn:=T
 have b4:∀ b∈F,upd H2 s2.heap.objs.size (.lst []) b=none:=λ b hb=>(f3 b hb).1
 have L:=aw5 (X':=zB X Z scope s3.heap.objs.size (bq (s3.heap.objs.size+1) scope.names (ao6 X.env.cells scope.names [])) s3 (upd H2 s2.heap.objs.size (.lst [])) F) (R:=compPost (model X.prog X.w) X.A X.xe none (EP X z W Q) (Value.ref s2.heap.objs.size) s3.heap.objs.size) (iter:=iter) (scope:=scope) (pos:=pos) (QD:=λ H'=>Q (.ref s2.heap.objs.size) H') rfl Y I4 T' a3 a2 b4 w0 turn hg b3 he
  (λ W' H' s' J' q=>by
   obtain⟨mm,hn,_⟩:=J'.loc
   exact⟨mm,hn,λ h' a6=>⟨.ref s2.heap.objs.size,H',aH0 I3 f3 J' a6,rfl,q⟩⟩)
 exact fW L (T.self _ _ _ _ _ a3 L)
section
variable {X:Cx}
theorem bW0:a7 "abs"=some (.builtin "abs"):=by decide +kernel
theorem bU5:a7 "len"=some (.builtin "len"):=by decide +kernel
theorem bH0:a7 "min"=some (.builtin "min"):=by decide +kernel
theorem bQ5:a7 "max"=some (.builtin "max"):=by decide +kernel
theorem bQ3:a7 "sum"=some (.builtin "sum"):=by decide +kernel
theorem bQ7:a7 "all"=some (.builtin "all"):=by decide +kernel
theorem qu:a7 "isinstance"=some (.builtin "isinstance"):=by decide +kernel
theorem bC4:a7 "int"=some (.type "int"):=by decide +kernel
theorem bI2:a7 "bool"=some (.type "bool"):=by decide +kernel
theorem bJ1:a7 "str"=some (.type "str"):=by decide +kernel
theorem aQ6:a7 "tuple"=some (.type "tuple"):=by decide +kernel
theorem bh8:a7 "list"=some (.type "list"):=by decide +kernel
def bW2 (i j:Int):Prop:=0<j/\j<2^4096
theorem aM9 {y:Int}(h0:0<y)(h:y<2^4096):y.natAbs.log2<9000:=by
 have hn:y.natAbs<2^4096:=by
  have:(y.natAbs:Int)=y:=by omega
  have z:(y.natAbs:Int)<((2^4096:Nat):Int):=by rw[this];simpa using h
  exact iC.mp z
 have:=(Nat.log2_lt (by omega)).mpr hn
 omega
theorem bb6:OpR X (cg .FloorDiv) (rI bW2 λ i j=>.int (i / j)):=opI λ i j _ _ _ _ _ hc q=>by
 refine floordiv_int (by have:=hc.1;omega) ?_ (.inl (PyProof.noPylong_of_log2 (aM9 hc.1 hc.2)))
 rw[Int.fdiv_eq_ediv_of_nonneg i (by have:=hc.1;omega)]
 exact q
theorem aE4 {K:ac}(z:X.K=K):IxR X (bX7 K):=by subst z;exact aV1
theorem bv3 {K:ac}(z:X.K=K):IxR X (bY2 K):=by subst z;exact ix_tup
theorem ak0 {K:ac}(z:X.K=K):ac4 X (.builtin "len") (λ F H Q=>∃ p ys,F=[.ref p]/\(SqL K H p ys\/SqT K H p ys)/\Q (.int ys.length) H):=by subst z;exact az8
theorem aC1 {K:ac}(z:X.K=K):ac4 X (.type "tuple") (λ F H Q=>∃ p ys,F=[.ref p]/\((SqL K H p ys/\∀ l,H l=none->Q (.ref l) (upd H l (.tup ys)))\/(SqT K H p ys/\Q (.ref p) H))):=by subst z;exact as0
theorem aL2 {K:ac}(z:X.K=K):ac4 X (.type "list") (λ F H Q=>∃ p ys,F=[.ref p]/\(SqL K H p ys\/SqT K H p ys)/\∀ l,H l=none->Q (.ref l) (upd H l (.lst ys))):=by subst z;exact ay7
theorem bg7 {K:ac}{tg l:Expr}{z:TE}(F:X.K=K)(hl:PE X l z):PI X tg l (bp1 K z):=by subst F;exact bn0 hl
theorem bv5 {K:ac}{tg l:Expr}{z:TE}(F:X.K=K)(hl:PE X l z):PI X tg l (bS4 K z):=by subst F;exact bA1 hl
theorem bv9 {K:ac}{pos:Pos}{es:yK}{k:Nat}{t:TGs}{n:Nat}(F:X.K=K)(hc:X.calm=true)(h:PGs X es t)
  (hn:(cu es X.env).length=n:=by rfl) (z:(cu es X.env).findIdx? (·.1)=none:=by rfl):PG X (.Tuple es k pos) (bT5 K n t):=by subst F;exact bE3 hc h hn z
end
structure DefAt (K:ac)(mg:yC)(x:Str)(st:Stmt)(ps:yH)(f:Addr)(fd:bN):Prop where
 fn:Fun K x x st f fd
 mg:mg x=some (.ref f)
 bi:Binds K fd ps []
@[irreducible] noncomputable def cd2 (p:Prop):Prop:=p
theorem ad3.new {p:Addr}{H z:Hp}{o:HO}(h:ad3 H z)(hp:z p=none):ad3 H (L2.upd z p o):=λ x o e=>by
 have e1:=h x o e
 rw[zn (zf e1 hp)]
 exact e1
section
variable {prog:aD} {w:World} {A:aN} {R:iK->ae->Prop} {I:Addr} {fp wr:List Addr} {n:Nat} {P:Nat->Value->Prop} {St:Nat->Heap->Prop} {kw:List (Str×Value)}
end
theorem ak5 (val : Nat -> Int) : ∀ k j, j <= k -> val (jh (λ i j => decide (val i < val j)) k) <= val j
  | 0, j, h => by have : j = 0 := by omega
                  subst this; exact i6 _
  | k + 1, j, h => by
    have ih := ak5 val k
    unfold jh
    by_cases hb : val (k + 1) < val (jh (λ i j => decide (val i < val j)) k)
    . rw[if_pos (by simpa using hb)]
      by_cases hj : j = k + 1
      . subst hj; exact i6 _
      . have := ih j (by omega); omega
    . rw[if_neg (by simpa using hb)]
      by_cases hj : j = k + 1
      . subst hj; omega
      . exact ih j (by omega)
theorem aD0 {ns:List Int}{its:yG}(r:Vals (ns.map V.int) its){i:Nat}{v:Value}(h:its[i]?=some v):∃ z t,ns[i]?=some z/\v=Value.int z t:=by
 have hl:=r.length
 rw[aI]at hl
 have F:i<its.length:=(af.mp h).1
 obtain⟨u,e1,q⟩:=r.get (i:=i) (x:=.int ns[i]) (by rw[a9,ag (by omega)];rfl)
 rw[h]at e1;cases e1
 obtain⟨t,rfl⟩:=q
 exact⟨_,t,ag (by omega),rfl⟩
inductive D where
 | non|bl (b:Bool)|int (i:Int)|str (x:Str)|tup (l:List D)|lst (l:List D)
mutual
noncomputable def D.deep:D->Nat
 | .tup l=>D.deepL l+1
 | .lst l=>D.deepL l+1
 | _=>0
noncomputable def D.deepL:List D->Nat
 | []=>0
 | d::l=>max (D.deep d) (D.deepL l)
end
section
variable {X:Cx}
end
section
variable {X:Cx}
def bS8 (K:ac):R2:=λ x y H Q=>∃ a b xs ys,x=.ref a/\y=.ref b/\SqT K H a xs/\SqT K H b ys/\xs.length+ys.length<=aM/\∀ p H',ad3 H H'->SqT K H' p (xs++ys)->(H' p=some (.tup (xs++ys))\/(p=a/\ys=[])\/(p=b/\xs=[]))->Q (.ref p) H'
theorem bs9 {prog:aD}{w:World}{A:aN}{E:Value->ae->Prop}{s:ae}{t b:Addr}{ws:yG}{Q:Value->ae->Prop}(ht:IsTup s.heap t ([]:yG).toArray)(hb:IsTup s.heap b ws.toArray)(h1:Q (.ref b) s) :
  wpAny (model prog w) A (cg .Add (.ref t) (.ref b)) Q E s:=by
 obtain⟨⟨cls,dd,data,sl⟩,ho,hc,n,hd⟩:=id ht
 obtain⟨⟨a0,Z,J,Y⟩,F,G,n2,z⟩:=id hb
 simp only at hc hd G z
 subst hc hd G z
 exact iy ⟨_,ho,rfl⟩ ⟨_,F,rfl⟩ fD gQ dK dF (dz _ _)
   (tuple_addW0 t b _ ws.toArray n n2 dd Z sl Y rfl) ⟨ho,F,h1⟩
theorem bu3 {K:ac}(hK:X.K=K):OpR X (cg .Add) (bS8 K):=by
 subst hK
 intro F s W H x y v u Q I Z J h
 obtain⟨a,b,G,ys,e1,e2,ha,hb,hz,q⟩:=h
 by_cases hx:G=[]
 .subst e1;subst e2;subst hx
  cases Z;cases J
  obtain⟨its,r1,p1,_⟩:=I.tuple ha
  obtain⟨Y,r2,p2,_⟩:=I.tuple hb
  obtain rfl:its=[]:=r1.nil_iff.mpr rfl
  exact bs9 p1 p2 ⟨.ref b,H,I,rfl,q b H (ad3.refl H) hb (.inr (.inr ⟨rfl,rfl⟩))⟩
 .refine bp8 F s W H x y v u Q I Z J ⟨a,b,G,ys,e1,e2,ha,hb,hx,hz,λ z=>?_,λ z p hp=>?_⟩
  .subst z
   exact q a H (ad3.refl H) (by rw[aF];exact ha) (.inr (.inl ⟨rfl,rfl⟩))
  .exact q p _ ((ad3.refl H).new hp) (SqT.of zo) (.inl zo)
def cc2 (K:ac):V->Option Int->Option Int->Hp->VK->Prop:=λ x lo hi H Q=>∃ a xs,x=.ref a/\SqT K H a xs/\∀ p H',ad3 H H'->SqT K H' p (aL7 xs lo hi)->(H' p=some (.tup (aL7 xs lo hi))\/(p=a/\aL7 xs lo hi=xs))->Q (.ref p) H'
theorem av0 {prog:aD}{w:World}{A:aN}{E:Value->ae->Prop}{s:ae}{t sl:Addr}{z:yJ}{vl vu:Value}{F Y:Option Int}{Q:Value->ae->Prop}(J:IsTup s.heap t z)(hs:s.heap.IsSliceOf sl vl vu .none)(pl:fw vl F)(pu:fw vu Y)
  (hw:HT.sIx z.size 0 F=0/\HT.sIx z.size z.size Y=z.size) (h:Q (.ref t) s):wpAny (model prog w) A (gB (.ref t) (.ref sl)) Q E s:=by
 obtain⟨os,Z,a1,a2⟩:=id hs
 have a0:s.TypeIs (.ref sl) "slice":=⟨os,Z,a1⟩
 unfold gB
 try with_reducible refine cH ?_
 first|refine ai (az ?_)|skip
 refine ai (iz J.typeIs (by decide) ?_)
 refine ai (cK (name:=bf "__getitem__") J.typeIs bj
  (cJ bj J.typeIs gI ?_ (hG _ _)))
 show wpAny _ _ (di (.ref t) >>= _) _ _ s
 refine ai (gR J ?_)
 refine ai (fO a0 ?_)
 rw[if_pos (by decide)]
 refine ai (HT.sliceApplied_gen hs pl pu ?_)
 have G:((((HT.sIx z.size 0 F:Nat):Int)==0&&(1:Int)==1&&(HT.sIx z.size z.size Y - HT.sIx z.size 0 F)==z.size)=true):=by
  rw[hw.1,hw.2]
  simp
 show wpAny _ _ (if(((HT.sIx z.size 0 F:Nat):Int)==0&&(1:Int)==1&&(HT.sIx z.size z.size Y - HT.sIx z.size 0 F)==z.size)=true then _ else _) _ _ s
 rw[if_pos G]
 refine ai (ai (fO J.typeIs (az ?_)))
 rw[if_pos (by decide)]
 exact ai (jx (az ⟨_,rfl,az h⟩))
theorem ap7 {z:List V}{F G:Option Int}(h:HT.sIx z.length 0 F=0/\HT.sIx z.length z.length G=z.length):aL7 z F G=z:=by
 unfold aL7
 rw[h.1,h.2]
 simp
theorem bq2 {K:ac}(hK:X.K=K):SlR X (cc2 K):=by
 subst hK
 intro F s W H x v vl vu J Z sl Q I rx hs pl pu h
 obtain⟨a,z,e1,hx,q⟩:=h
 by_cases hw:HT.sIx z.length 0 J=0/\HT.sIx z.length z.length Z=z.length
 .subst e1
  cases rx
  obtain⟨its,r,Y,hz⟩:=I.tuple hx
  have G:its.toArray.size=z.length:=by rw[aq];exact r.length.symm
  refine⟨"tuple",_,bj.lookup,Y.typeIs,?_⟩
  exact av0 Y hs pl pu (by rw[G];exact hw) ⟨.ref a,H,I,rfl,q a H (ad3.refl H) (by rw[ap7 hw];exact hx) (.inr ⟨rfl,ap7 hw⟩)⟩
 .exact bD5 F s W H x v vl vu J Z sl Q I rx hs pl pu ⟨a,z,e1,hx,hw,λ p hp=>q p _ ((ad3.refl H).new hp) (SqT.of zo) (.inl zo)⟩
theorem bg3 {K:ac}(z:X.K=K):SlR X (bY7 K):=by subst z;exact bv0
theorem aX1 {K:ac}(hc:X.calm=true)(hK:X.K=K):ac4 X (.builtin "sum") (λ xs H Q=>∃ a ns,xs=[.ref a]/\SqL K H a (ns.map V.int)/\jS ns/\Q (.int ns.sum) H):=by
 subst hK
 intro a0 s W H xs us Q I r h
 obtain⟨a,ns,rfl,hS,J,q⟩:=h
 obtain⟨u,rfl,ru⟩:=qQ r
 cases ru
 obtain⟨its,rv,Z,hz⟩:=I.list hS
 have hl:=rv.length
 rw[aI]at hl
 refine call_sum_walk (db Z.isList ?_)
 have F:a<s.heap.objs.size:=by obtain⟨o,_,e,_⟩:=Z;exact aH e
 have Ww:=jy (prog:=X.prog) (w:=X.w) (A:=X.A.in1) (I.ok.hd hc) s.heap.objs.size a (aE F) its.toArray
 let val:Nat->Int:=λ i=>ns.getD i 0
 have G:∀ i v,its.toArray[i]?=some v->∃ t,v=Value.int (val i) t:=λ i v e=>by
  obtain⟨z,t,e1,e2⟩:=aD0 rv (i:=i) (v:=v) (by rw[c7]at e;exact e)
  refine⟨t,?_⟩
  rw[e2]
  show Value.int z t=Value.int (ns.getD i 0) t
  rw[aQ,e1]
  rfl
 have es:its.toArray.size=ns.length:=by rw[aq];omega
 refine⟨_,_,_,_,_,_,val,rfl,Ww,⟨⟨_,aX _ rfl,rfl,rfl⟩,?_⟩,λ b hb=>?_,G,λ j hj=>?_,λ h' tk t' k=>?_⟩
 .obtain⟨o,e,r⟩:=Z.isList
  exact⟨o,av _ e,r⟩
 .show b<(s.heap.push _).objs.size
  rw[cM]
  rcases ax.mp hb with z|z
  .rw[z];exact cN _
  .have Y:b=a:=by simpa using z
   rw[Y];exact dM F
 .rw[es]at hj
  obtain⟨h1,h2⟩:=J j hj
  refine⟨h1,?_⟩
  rw[fz]
  exact h2
 .have e:preSum val its.toArray.size=ns.sum:=by
   show preSum (λ i=>ns.getD i 0) _=_
   rw[fz,es,List.take_length]
  refine⟨.int ns.sum,H,I.kept (h':=h') (t':=tk) λ b o q=>k b o ?_ (av _ q),⟨t',by rw[e]⟩,q⟩
  intro z
  have Y:b=s.heap.objs.size:=by simpa using z
  exact absurd (aH q) (by rw[Y];exact bK _)
end
noncomputable def Its (x:Str):It:=⟨λ i _=>i<x.cps.size,λ i H v H'=>H'=H/\∃ c,x.cps[i]?=some c/\v=.str ⟨#[c]⟩,λ i _=>x.cps.size<=i⟩
theorem aF2 {P:aD}{w:World}{K:ac}{tg:Expr}{J:String}{x:Str}{t:Tok}(it:Addr)(hn:["enumerate", "zip", "dict_itemiterator", "dict_reverseitemiterator", "odict_iterator", "itertools.zip_longest", "itertools.pairwise"].contains J=false)
  (Ww:∀ A:aN,A.handled=none->Walks P w A it [it] [it] x.cps.size (SignAt x) (λ i h=>h.IsStrIter it J x t i))
  (Z:∀(A:aN) (s:ae) (i:Nat) (Q:Option Value->ae->Prop) (E:Value->ae->Prop),A.handled=none->s.heap.IsStrIter it J x t i->x.cps[i]?=none->(∀ h',i7 it s.heap h'->Q none { s with heap:=h' })->wpAny (model P w) A (pyNext (.ref it)) Q E s)
  (G:∀(A:aN) (i:Nat) (s:ae) (Q:Value->ae->Prop) (E:Value->ae->Prop),s.heap.IsStrIter it J x t i->Q (.ref it) s->wpAny (model P w) A (jY (.ref it)) Q E s):Turn P w K tg (Its x) [it] it (λ i h=>h.IsStrIter it J x t i) where
 mem:=by simp
 obj:=λ i h st b hb=>by
  have e:b=it:=by simpa using hb
  subst e
  obtain⟨o,ho,hc,hd⟩:=st
  exact⟨o,ho,λ v z=>by rw[hd]at z;cases z⟩
 keep:=λ i h h' st k=>by
  obtain⟨o,ho,r⟩:=st
  exact⟨o,k it (by simp) _ ho,r⟩
 item:=by
  intro X hP hw hK hc i F s W H E I hf st hg
  subst hP hw hK
  obtain⟨f0,f1,f2,f3,f4,f5⟩:=hf it (by simp)
  refine(Ww X.A (I.ok.hd hc)).item i s _ _ hg st λ v h' tk hv Y kk=>?_
  obtain⟨c,u,a0,rfl⟩:=hv
  have I1:Inv X F W H { s with heap:=h',toks:=tk }:=I.turned (λ b o hb e=>kk b o (by simpa using hb) e) f0 f1 f3 f4 f5
  obtain⟨o,ho,hcl,hd⟩:=id Y
  exact⟨_,rfl,aX7 (s:={ s with heap:=h',toks:=tk }) (n:=J) ho hcl hd hn ⟨.str ⟨#[c]⟩,H,I1,⟨u,rfl⟩,⟨rfl,c,a0,rfl⟩,Y,λ b hb=>(hf b hb).1⟩⟩
 done:=by
  intro X hP hw hK hc i F s W H E I hf st hg
  subst hP hw hK
  obtain⟨f0,f1,f2,f3,f4,f5⟩:=hf it (by simp)
  have a1:x.cps.size<=i:=hg
  exact Z X.A s i _ E (I.ok.hd hc) st (by simp;omega) λ h' eb=>⟨rfl,I.turned (t':=s.toks) (λ b o hb e=>eb b o hb e) f0 f1 f3 f4 f5⟩
 self:=λ A i s Q E st h=>G A i s Q E st h
def bY6 (tl:TE):TI:=λ W H R=>tl W H λ v H1=>∃ x,v=.str x/\R (Its x) H1
theorem bF1 {X:Cx}{tg l:Expr}{Z:TE}(hl:PE X l Z):PI X tg l (bY6 Z):=by
 intro z s W H R I h
 refine thn (hl z s W H _ I h) λ v s1 ⟨v0,H1,G,r1,q1⟩=>?_
 obtain⟨x,e,q⟩:=q1
 subst e
 obtain⟨t,rfl⟩:=r1
 have fin:∀(Y:String) (o:Obj),o={ cls:=.type Y,data:=.fields #[.str x t,.int 0 0] }->Turn X.prog X.w X.K tg (Its x) [s1.heap.objs.size] s1.heap.objs.size (λ i h=>h.IsStrIter s1.heap.objs.size Y x t i)->PIE X z W tg R (.ref s1.heap.objs.size) { s1 with heap:=s1.heap.push o }:=λ Y o eo T=>by
  subst eo
  refine⟨s1.heap.objs.size,[s1.heap.objs.size],_,_,H1,rfl,G.kept (t':=s1.toks) λ b o e=>av _ e,T,⟨_,aX _ rfl,rfl,rfl⟩,λ b hb=>?_,q⟩
  have e:b=s1.heap.objs.size:=by simpa using hb
  subst e
  exact G.fpOk (ao _) (G.hok.fresh (ao _))
 cases ha:x.cps.all (·<128)
 .exact wpAny_pyIter_wide ha (fin "str_iterator" _ rfl (aF2 _ (by decide) (λ A F=>Walks.strWide F _ x t) (λ A s i Q E F st hx J=>wpAny_pyNext_wide_end F st hx J) λ A i s Q E st h=>wpAny_pyIter_striter_wide st h))
 .exact wpAny_pyIter_ascii ha (fin "str_ascii_iterator" _ rfl (aF2 _ (by decide) (λ A F=>Walks.strAscii F _ x t) (λ A s i Q E F st hx J=>wpAny_pyNext_ascii_end F st hx J) λ A i s Q E st h=>wpAny_pyIter_striter_ascii st h))
section
variable {X:Cx} {K:ac} {T id:String} {name:Str} {o e:Expr} {es:yK} {to:TE} {t:TA} {r:V->List V->Hp->VK->Prop} {apos cpos:Pos}
theorem bH7 (hK:X.K=K)(Z:ju T)(slot:Slot T name id)(Y:hR (.builtin id)=pure (.type "method_descriptor"))(hm:MtR X id r)(ho:PE X o to)(ha:PA X (e::es) t)
  (F:fx o name X.env (eval o X.env)=eval o X.env:=by rfl)
  (J:((dS cpos (bp (e::es) X.env)).all (λ x=>!x.1)&&(backToKw cpos (iY [] X.env)).all (λ x=>x.1.isSome)
   && decide ((e::es).length+([]:List gA).length+(if([]:List gA).isEmpty then 0 else 1)<30))=true:=by rfl)
  (G:(apos.endLine==cpos.line)=true:=by rfl) (hs:bp (e::es) X.env=(false,eval e X.env)::bp es X.env:=by rfl) (z:(dS cpos (bp es X.env)).any (·.1)=false:=by rfl) :
  PE X (.Call (.Attribute o name apos) (e::es) [] cpos) (tBM K T r to t):=by
 subst hK
 exact aZ3 Z slot Y hm ho ha F J G hs z
end
structure Mach where
 letters:Int
 rooms:Int
 begins:List Int
 ends:List Int
 doors:List (Int×Str×Int×Int)
noncomputable def bX3 (q:Int×Str×Int×Int):D:=.tup [.int q.1,.str q.2.1,.int q.2.2.1,.int q.2.2.2]
noncomputable def Mach.D (M:Mach):D:=.tup [.int M.letters,.int M.rooms,.tup (M.begins.map .int),.tup (M.ends.map .int),.tup (M.doors.map bX3)]
noncomputable def ltr (i:Nat):Str:=⟨#[97+i]⟩
structure DoorOk (letters rooms:Int)(q:Int×Str×Int×Int):Prop where
 s0:0<=q.1
 s1:q.1<rooms
 l:∃ i:Nat,(i:Int)<letters/\q.2.1=ltr i
 g0:0<=q.2.2.1
 g1:q.2.2.1<rooms
 t0:0<=q.2.2.2
 t1:q.2.2.2<=3
structure RoomsOk (rooms:Int)(l:List Int):Prop where
 mem:∀ r∈l,0<=r/\r<rooms
 up:l.Pairwise (· < ·)
structure Mach.Ok (most:Nat)(M:Mach):Prop where
 l0:1<=M.letters
 l1:M.letters<=3
 r0:1<=M.rooms
 r1:M.rooms<=5
 b:RoomsOk M.rooms M.begins
 e:RoomsOk M.rooms M.ends
 d:∀ q∈M.doors,DoorOk M.letters M.rooms q
 m:M.doors.length<=most
mutual
noncomputable def D.tups:D->Bool
 | .lst _=>false
 | .tup l=>D.tupsL l
 | _=>true
noncomputable def D.tupsL:List D->Bool
 | []=>true
 | d::l=>D.tups d&&D.tupsL l
end
end L2
end
noncomputable section
namespace L2
end L2
end
noncomputable section
namespace L2
open PySem PySem.Spec PyProof.Rows
noncomputable def bY3:List Int->Option Int
 | []=>none
 | a::l=>some (match bY3 l with|none=>a|some b=>if b<a then b else a)
theorem aK3 {X:Cx}{Z tg iter:Expr}{Y:yK}{scope:Scope}{pos a0 py:Pos}{y:Str}{i:Nat}{wi:TI}{g:TG}{tc:TT}{te:TE}(N':yH)(src:yD)
  (hN:X.N.Nodup) (c0:X.N[i]?=some y) (a3:X.env.scope.names.lookup y=some .local)
  (b1:zJ N' src scope X.N X.env.scope=true) (hi:PI X tg iter wi) (a2:X.calm=true)
  (b2:∀(Cc:Addr) (cells:yB) (s:ae) (H:Hp) (ex:List Addr),PG (zB X N' scope Cc cells s H ex) tg g/\PIf (zB X N' scope Cc cells s H ex) Y tc/\PE (zB X N' scope Cc cells s H ex) Z te)
  (hs:∀ x,dg iter X.env x=pure x:=by intro _;rfl)
  (b4:dT (.ListComp Z [⟨tg,iter,Y,0⟩] scope pos) (some (.Name y py)) a0.line X.env=pure true:=by rfl) :
  PS X (.Assign [.Name y py] (.ListComp Z [⟨tg,iter,Y,0⟩] scope pos) a0) (ba4 (tComp src wi g tc te) (ax2 i)):=by
 intro F s W H D0 I h
 have ck:=bl2 b1
 rw[exec_Assign_Name_used _ _ _ _ b4]
 refine ai (gP (ai ?_))
 show wpAny _ X.A (do let _ <- comprehension (.ListComp Z [⟨tg,iter,Y,0⟩] scope pos) scope X.env _ (newList []) false (eval iter X.env) (some (fK (.Name y py) X.env))) _ _ s
 have hcl:=af7 (scope:=scope) (env:=X.env) λ y hy e=>I.ok.has y.1 (ck.fr y hy e)
 refine ai (aZ (fy (use:=some (fK (.Name y py) X.env)) (Q:=λ _ s'=>SP X F D0 .next s') rfl hs hcl ck.kind ck.loc (thn (hi F s W H _ I h) λ v s1 h1=>thn h1 λ c2 s2 h2=>?_)) (λ _ s' hq=>az (az hq)) λ _ _ e=>e)
 obtain⟨it,G,tn,J,H2,e,I2,T,a5,f2,Ww⟩:=h2
 subst e
 have hD:=I2.fresh
 obtain⟨Ww,⟨m0,w0⟩,turn⟩:=Ww _ hD
 have I3:=I2.lnew (its:=[]) (ys:=[]) (t':=s2.toks) .nil (cR _)
 have a6:∀ b∈G,b<s2.heap.objs.size:=λ b hb=>by obtain⟨o,q,_⟩:=T.obj _ _ a5 b hb;exact aH q
 have f3:∀ b∈G,FpOk X F (upd H2 s2.heap.objs.size (.lst [])) b:=λ b hb=>⟨by rw[zn (aE (a6 b hb))];exact(f2 b hb).1,(f2 b hb).2⟩
 refine bH (ag0 ?_)
 generalize a1:({ s2 with heap:=s2.heap.push { cls:=.type "list",data:=.seq ([]:yG).toArray },toks:=s2.toks }:ae)=s3 at I3
 have c1:({ s2 with heap:=s2.heap.push { cls:=.type "list",data:=.seq ([]:yG).toArray } }:ae)=s3:=a1
 have b3:∀ b∈G,b<s3.heap.objs.size:=λ b hb=>by
  rw[<-a1]
  show b<(s2.heap.push _).objs.size
  rw[cM]
  exact dM (a6 b hb)
 have I4:=aq7 (s4:={ s3 with heap:=dY (s3.heap.push { cls:=.type "dict",data:=.dict #[] }) scope.names }) ck I3 f3 b3 ⟨_,rfl⟩
 have a4:tn 0 (dY (s3.heap.push { cls:=.type "dict",data:=.dict #[] }) scope.names):=T.keep _ _ _ a5 λ b hb o e=>eH _ _ b o (av _ (by rw[<-a1];exact av _ e))
 obtain⟨hg,b6,he⟩:=b2 s3.heap.objs.size (bq (s3.heap.objs.size+1) scope.names (ao6 X.env.cells scope.names [])) s3 (upd H2 s2.heap.objs.size (.lst [])) G
 have b0:∀ H':Hp,(∀ b∈G,H' b=none)->∀ b∈G,FpOk (zB X N' scope s3.heap.objs.size (bq (s3.heap.objs.size+1) scope.names (ao6 X.env.cells scope.names [])) s3 (upd H2 s2.heap.objs.size (.lst [])) G) [] H' b:=λ H' hn b hb =>
  ⟨hn b hb,(I4.ok.exf b hb).1,I4.ok.exfs b hb,.inl hb,λ x c e=>(I4.ok.exf b hb).2 x c e,λ p hp=>absurd (show p∈([]:yA)from hp) (by simp)⟩
 have T':Turn X.prog X.w X.K tg J G it tn:=T
 have b7:∀ b∈G,upd H2 s2.heap.objs.size (.lst []) b=none:=λ b hb=>(f3 b hb).1
 have L:=aw5 (X':=zB X N' scope s3.heap.objs.size (bq (s3.heap.objs.size+1) scope.names (ao6 X.env.cells scope.names [])) s3 (upd H2 s2.heap.objs.size (.lst [])) G) (R:=compPost (model X.prog X.w) X.A X.xe (some (fK (.Name y py) X.env)) (λ _ s'=>SP X F D0 .next s') (Value.ref s2.heap.objs.size) s3.heap.objs.size) (iter:=iter) (scope:=scope) (pos:=pos) (QD:=λ H'=>D0.nx (W.set i (some (.ref s2.heap.objs.size))) H') rfl a2 I4 T' a4 b0 b7 w0 turn hg b6 he
  (λ W' H' s' J' q=>by
   have J2:=aH0 I3 f3 J' (Heap.SameBut.refl _ _)
   obtain⟨mm,hn,_⟩:=J'.loc
   have nL:s3.heap.objs.size≠X.env.locals:=jX I3.lt
   have nC:∀ x c,X.env.cells.lookup x=some c->c≠s3.heap.objs.size:=λ x c e=>by
    obtain⟨v,z⟩:=I3.cell x c e
    exact aE z.lt
   show wpAny _ X.A (fK (.Name y py) X.env (.ref s2.heap.objs.size)) _ _ _
   refine ir (aw9 (v:=.ref s2.heap.objs.size) J2 hN c0 (.inl a3) rfl (λ s5 I5 sb=>?_) (.inr a3))
   obtain⟨aa,sb,ha⟩:=sb
   have na:s3.heap.objs.size≠aa:=by
    rcases ha with z|z
    .rw[z];exact nL
    .exact λ e=>nC _ _ z e.symm
   refine⟨mm,hn.sameBut sb na,λ h' b5=>⟨_,H',I5.turned (t':=s5.toks) (λ b o hb e=>(b5.2 b hb).trans e) J'.free nL (.inr I3.sz) nC λ p hp z=>?_,q⟩⟩
   exact absurd (aH (I3.pin p hp).1) (by rw[z];exact bK _))
 exact fW L (T.self _ _ _ _ _ a4 L)
def cb1:V->Option Int->Option Int->Hp->VK->Prop:=λ x lo hi H Q=>∃ z,x=.str z/\z.length<=aM/\Q (.str (eJ z lo hi)) H
theorem ax6 {v:Value}{o:Option Int}(p:fw v o):∃ q:Option (Int×Tok),v=partValue q/\q.map (·.1)=o:=by
 cases p with
 | none=>exact⟨none,rfl,rfl⟩
 | int i t=>exact⟨some (i,t),rfl,rfl⟩
theorem sl_str {X:Cx}:SlR X cb1:=by
 intro a0 s W H x v vl vu J Y sl Q I rx hs pl pu h
 obtain⟨z,rfl,hz,q⟩:=h
 obtain⟨t,rfl⟩:=rx
 obtain⟨l,rfl,el⟩:=ax6 pl
 obtain⟨u,rfl,eu⟩:=ax6 pu
 refine⟨"str",_,F.slot_str_getitem.lookup,js s z t,?_⟩
 refine wpAny_getItem_str_slice (l:=l) (u:=u) (st:=none) hs rfl ?_
 unfold sliceMade
 have e:slicePicked z l u none=bv J Y 1 z.length:=by
  unfold slicePicked
  rw[el,eu]
  rfl
 rw[e]
 unfold eJ at q
 split
 .rename_i hc
  have G:((1:Int)==1&&(bv J Y 1 z.length).length==z.length)=true:=hc
  rw[if_pos G]at q
  exact⟨.str z,H,I,⟨t,rfl⟩,q⟩
 .rename_i hc
  have G:¬((1:Int)==1&&(bv J Y 1 z.length).length==z.length)=true:=hc
  rw[if_neg G]at q
  have Z:(Str.mk (gj (λ x=>z.cps[x]?) (bv J Y 1 z.length)).toArray).length<=aM:=by
   show(gj (λ x=>z.cps[x]?) (bv J Y 1 z.length)).toArray.size<=aM
   rw[aq]
   exact al (List.length_filterMap_le _ _) (al (sliceIndices_le J Y z.length) hz)
  exact⟨Z,.str _,H,I.tok _,⟨_,rfl⟩,q⟩
section
variable {M:Model} {A:aN} {E:Value->ae->Prop} {s₀ s:ae} {m cm:yC} {env:Env} {cs:yB}
end
noncomputable def aM3 (c:Addr)(qual:Str):HO:=.ext λ h=>h.CodeRec (.ref c) qual
noncomputable def bx9 (f:Addr)(fd:bN):HO:=.ext λ h=>h.get? f=some { cls:=.type "function",data:=.func fd }
theorem ba7 {P:aD}{w:World}{H:Hp}{h:Heap}{f:Addr}{z:bN}(x:HOk P w H h)(e:H f=some (bx9 f z)):h.get? f=some { cls:=.type "function",data:=.func z }:=(x f _ e).1
noncomputable def isC (cells:yB)(b:Addr):Bool:=cells.any λ p=>cells.lookup p.1==some b
theorem bm6 {cells:yB}{b:Addr}:isC cells b=true↔∃ x,cells.lookup x=some b:=by
 unfold isC
 rw[iQ]
 constructor
 .rintro⟨p,_,e⟩;exact⟨p.1,by simpa using e⟩
 .rintro⟨x,e⟩;exact⟨(x,b),be e,by simpa using e⟩
noncomputable def au4 (cells:yB)(H:Hp):Hp:=λ b=>if isC cells b=true then none else H b
noncomputable def Put (cells:yB)(H H':Hp):Hp:=λ b=>if isC cells b=true then H b else H' b
theorem au4.cell {cells:yB}{H:Hp}{b:Addr}(h:isC cells b=true):au4 cells H b=none:=if_pos h
theorem au4.ne {cells:yB}{H:Hp}{b:Addr}(h:isC cells b≠true):au4 cells H b=H b:=if_neg h
theorem au4.some {cells:yB}{H:Hp}{b:Addr}{o:HO}(h:au4 cells H b=some o):isC cells b≠true/\H b=some o:=by
 unfold au4 at h
 split at h
 .cases h
 .rename_i z;exact⟨z,h⟩
theorem au4.none {cells:yB}{H:Hp}{b:Addr}(h:H b=none):au4 cells H b=none:=by
 unfold au4
 split
 .rfl
 .exact h
theorem Put.cell {cells:yB}{H H':Hp}{b:Addr}(h:isC cells b=true):Put cells H H' b=H b:=if_pos h
theorem Put.ne {cells:yB}{H H':Hp}{b:Addr}(h:isC cells b≠true):Put cells H H' b=H' b:=if_neg h
def Cells (clos:yB)(H:Hp):Prop:=∀ x c,clos.lookup x=some c->∃ o v,H c=some (.frz o (.own c))/\o.data=.cell v
theorem Cells.at {F:yB}{H:Hp}(z:Cells F H){b:Addr}(h:isC F b=true):∃ o v,H b=some (.frz o (.own b))/\o.data=.cell v:=by
 obtain⟨x,e⟩:=bm6.mp h
 exact z x b e
def Cap (clos:yB)(H:Hp)(fr:yH)(cap:List V):Prop:=∀(i:Nat) (x:Str) (v:V),fr[i]?=some x->cap[i]?=some v->∃ c o u,clos.lookup x=some c/\H c=some (.frz o (.own c))/\o.data=.cell (some u)/\RelV v u
theorem HOk.drop {P:aD}{w:World}{H:Hp}{h:Heap}{F:yB}(x:HOk P w H h)(z:Cells F H):HOk P w (au4 F H) h:=λ b o e=>by
 obtain⟨_,e'⟩:=au4.some e
 have J:∀ c u,H c=some u->(∀ o v,u≠.frz o v)->isC F c≠true:=λ c u q d y=>by
  obtain⟨o,v,G,_⟩:=z.at y
  rw[q]at G;cases G
  exact d _ _ rfl
 exact(x b o e').stay (λ _ _ _ q=>q) (λ c q=>by rw[au4.ne (J c _ q λ _ _=>by nofun)];exact q) λ c Y q=>by rw[au4.ne (J c _ q λ _ _=>by nofun)];exact q
def aR3 (H:Hp)(f:Addr)(qual:Str)(params:dW)(body:Expr)(scope:Scope)(fr:yH)(cap:List V)(clos:yB):Prop :=
 ∃ pm c' ctv,H f=some (bx9 f (jz "<lambda>" qual params body scope clos pm (.ref c') ctv))/\H c'=some (aM3 c' qual)/\Cells clos H /\
  (∀ x y c,clos.lookup x=some c->clos.lookup y=some c->x=y)/\(∀ x,scope.names.lookup x=some .free->∃ c,clos.lookup x=some c)/\Cap clos H fr cap
def BM (mg:yC)(base:Heap):Prop:=∃ bm ob,mg "__builtins__"=some (.ref bm)/\bm≠fI/\base.get? bm=some ob/\ob.cls=.type "module"/\ob.dict=some fI/\ob.data=.plain
structure Caught (cl:yB)(N:yH)(kd:Str->Option b8)(W:St)(H1 H2:Hp):Prop where
 ne:∀ b,isC cl b≠true->H2 b=H1 b
 free:∀ b,isC cl b=true->H1 b=none
 cells:Cells cl H2
 cap:∀(i:Nat) (x:Str) (v:V) (c:Addr),N[i]?=some x->W[i]?=some (some v)->(kd x=some .cell\/kd x=some .free)->cl.lookup x=some c->∃ o u,H2 c=some (.frz o (.own c))/\o.data=.cell (some u)/\RelV v u
 inj:∀ x y c,cl.lookup x=some c->cl.lookup y=some c->x=y
def bP2 (K:ac)(H:Hp)(f:Addr):Prop:=(∃ fd,H f=some (bx9 f fd))\/∃ oc od fd sl,K.lookup f=some ⟨oc,od,.func fd,sl⟩
theorem bP2.at {X:Cx}{z:yA}{W:St}{H:Hp}{s:ae}{f:Addr}(h:bP2 X.K H f)(I:Inv X z W H s):PySem.W.FnAt f s.heap:=by
 rcases h with⟨F,h⟩|⟨oc,od,F,sl,h⟩
 .exact⟨_,_,_,_,ba7 I.hok h⟩
 .exact⟨_,_,_,_,I.kIn _ _ h⟩
noncomputable def ay6 (K:ac)(names:yH):List (Str×Addr×Addr):=names.filterMap λ x=>(bo K x).map λ p=>(x,p)
theorem ap8 {K:ac}{names:yH}{y:Str×Addr×Addr}:y∈ay6 K names↔y.1∈names/\bo K y.1=some y.2:=by
 unfold ay6
 rw[eY]
 constructor
 .rintro⟨x,hx,e⟩
  obtain⟨p,hp,rfl⟩:=cT.mp e
  exact⟨hx,hp⟩
 .rintro⟨hx,e⟩
  exact⟨y.1,hx,by rw[e];rfl⟩
def bw5 (K:ac)(names:yH)(base:Heap):Prop:=∀ x∈names,∀ c P,bo K x=some (c,P)->bU base c P
def bp4 (K:ac)(names:yH)(H:Hp):Prop:=∀ x∈names,∀ c P,bo K x=some (c,P)->H P=some (.tbl #[])
noncomputable def bz1 (K:ac)(names:yH)(ts:List Addr):Bool:=names.all λ x=>match bo K x with
 | some (c,P)=>iR K c P&&ts.contains P
 | none=>true
theorem aG2 {K:ac}{x:Str}(h:(bo K x).isSome=true):bo K x=some (((bo K x).getD (0,0)).1,((bo K x).getD (0,0)).2):=by
 obtain⟨p,e⟩:=fv.mp h
 rw[e]
 rfl
def bz7 (H:Hp)(P:Addr)(q:Str):Prop:=∃ ps:Array Value,H P=some (.tbl ps)/\TriplesOk ps.toList/\∀ pos cv,codeAmong pos ps.toList=some cv->∃ c',cv=.ref c'/\H c'=some (aM3 c' q)
def TabsH (T:List (Addr×Str))(H:Hp):Prop:=∀ y∈T,bz7 H y.1 y.2
def bG0 (H H':Hp):Prop:=∀ b o,(∀ ps,o≠.tbl ps)->H b=some o->H' b=some o
theorem bG0.of {H z:Hp}(a:ad3 H z):bG0 H z:=λ c o _ h=>a c o h
theorem TabsH.keep {T:List (Addr×Str)}{H H':Hp}(h:TabsH T H)(k:∀ b o,(∀ z,o≠.lst z)->H b=some o->H' b=some o):TabsH T H':=λ y hy=>by
 obtain⟨ps,e,t,c⟩:=h y hy
 refine⟨ps,k _ _ (λ _=>by nofun) e,t,λ pos F q=>?_⟩
 obtain⟨G,e1,e2⟩:=c pos F q
 exact⟨G,e1,k _ _ (λ _=>by unfold aM3;nofun) e2⟩
theorem TabsH.same {T:List (Addr×Str)}{H H':Hp}(h:TabsH T H)(s:ad3 H H'):TabsH T H':=h.keep λ b o _ e=>s b o e
theorem TabsH.new {T:List (Addr×Str)}{H:Hp}{a:Addr}{o:HO}(h:TabsH T H)(n:H a=none):TabsH T (upd H a o):=h.same ((ad3.refl H).new n)
theorem TabsH.put {T:List (Addr×Str)}{H:Hp}{a:Addr}{o:HO}{F:List V}(h:TabsH T H)(n:H a=some (.lst F)):TabsH T (upd H a o):=h.keep λ b u d e=>by
 rw[zn λ z=>by subst z;rw[n]at e;cases e;exact d _ rfl];exact e
theorem TabsH.init {T:List (Addr×Str)}{H:Hp}(h:∀ p∈T.map (·.1),H p=some (.tbl #[])):TabsH T H:=λ y hy =>
 ⟨#[],h _ (eO hy),trivial,λ pos z e=>by simp[codeAmong]at e⟩
theorem Caught.same {cells:yB}{N:yH}{kd:Str->Option b8}{W:St}{G J:Hp}(F:Caught cells N kd W G J):ad3 G J:=λ b o e=>by
 rw[F.ne b λ z=>by rw[F.free b z]at e;cases e];exact e
noncomputable def bT0 (lo:Int)(n:Nat):It:=⟨λ i _=>i<n,λ i H x H'=>H'=H/\x=.int (lo+i*2),λ i _=>n<=i⟩
theorem aD2 {P:aD}{w:World}{K:ac}{tg:Expr}(it:Addr)(J:Int)(n:Nat):Turn P w K tg (bT0 J n) [it] it (λ i h=>gd h it (J+(i:Nat)*2) ((n:Int) - (i:Nat)) 2) where
 mem:=by simp
 obj:=λ i h st b hb=>by
  have e:b=it:=by simpa using hb
  subst e
  exact⟨_,st,λ v z=>by
   have z':Data.fields _=Data.cell v:=z
   cases z'⟩
 keep:=λ i h h' st k=>k it (by simp) _ st
 item:=by
  intro X hP hw hK hc i F s W H E I hf st hg
  subst hP hw hK
  obtain⟨f0,f1,f2,Z,f4,Y⟩:=hf it (by simp)
  have Ww:=kc (prog:=X.prog) (w:=X.w) (I.ok.hd hc) it J 2 n
  refine Ww.item i s _ _ hg st λ v h' tk hv G kk=>?_
  obtain⟨t,rfl⟩:=hv
  have I1:Inv X F W H { s with heap:=h',toks:=tk }:=I.turned (λ b o hb e=>kk b o (by simpa using hb) e) f0 f1 Z f4 Y
  exact⟨_,rfl,aX7 (s:={ s with heap:=h',toks:=tk }) (n := "range_iterator") G rfl rfl (by decide) ⟨.int (J+i*2),H,I1,⟨t,rfl⟩,⟨rfl,rfl⟩,G,λ b hb=>(hf b hb).1⟩⟩
 done:=by
  intro X hP hw hK hc i F s W H E I hf st hg
  subst hP hw hK
  obtain⟨f0,f1,f2,Z,f4,Y⟩:=hf it (by simp)
  exact fL (I.ok.hd hc) st (by have:n<=i:=hg;omega) λ h' eb=>⟨rfl,I.turned (t':=s.toks) (λ b o hb e=>eb b o hb e) f0 f1 Z f4 Y⟩
 self:=λ _ _ _ _ _ st h=>fM st h
theorem as5 {a b:Int}:bw a b 2=if a<b then(b - a - 1) / 2+1 else 0:=by
 unfold bw
 rw[if_pos (by decide)]
theorem aS4 {a b:Int}(ha:0<=a)(F:a<2^20)(hb:0<=b)(z:b<2^20):gL a b 2=true:=by
 unfold gL
 rw[as5]
 simp only[ji,am,aY,decide_eq_true_eq,beq_iff_eq,show(2:Int) > 0 by decide,if_true]
 split<;>omega
theorem aS2 {X:Cx}{K:ac}(hc:X.calm=true)(hK:X.K=K):ac4 X (.builtin "min") (λ xs H Q=>∃ a ns,xs=[.ref a]/\SqL K H a (ns.map V.int)/\ns≠[]/\∀ m∈ns,(∀ y∈ns,m<=y)->Q (.int m) H):=by
 subst hK
 intro a0 s W H xs us Q I r h
 obtain⟨a,ns,rfl,hS,J,q⟩:=h
 obtain⟨u,rfl,ru⟩:=qQ r
 cases ru
 obtain⟨its,Z,pl,hz⟩:=I.list hS
 have hl:=Z.length
 rw[aI]at hl
 have a1:0<ns.length:=gM.mpr J
 refine call_min_walk (db pl.isList ?_)
 have F:a<s.heap.objs.size:=by obtain⟨o,_,e,_⟩:=pl;exact aH e
 have Ww:=jy (prog:=X.prog) (w:=X.w) (A:=X.A.in1) (I.ok.hd hc) s.heap.objs.size a (aE F) its.toArray
 let val:Nat->Int:=λ i=>ns.getD i 0
 have G:∀ i v,its.toArray[i]?=some v->∃ t,v=Value.int (val i) t:=λ i v e=>by
  obtain⟨z,t,e1,e2⟩:=aD0 Z (i:=i) (v:=v) (by rw[c7]at e;exact e)
  refine⟨t,?_⟩
  rw[e2]
  show Value.int z t=Value.int (ns.getD i 0) t
  rw[aQ,e1]
  rfl
 refine⟨_,_,_,_,_,_,_,rfl,Ww,⟨⟨_,aX _ rfl,rfl,rfl⟩,?_⟩,λ b hb=>?_,by rw[aq];omega,CmpOf.ints_lt val G,λ v h' tk hP k=>?_⟩
 .obtain⟨o,e,r⟩:=pl.isList
  exact⟨o,av _ e,r⟩
 .show b<(s.heap.push _).objs.size
  rw[cM]
  rcases ax.mp hb with z|z
  .rw[z];exact cN _
  .have Y:b=a:=by simpa using z
   rw[Y];exact dM F
 .obtain⟨z,t,e1,e2⟩:=aD0 Z (i:=jh (λ i j=>decide (val i<val j)) (its.toArray.size - 1)) (v:=v) (by rw[c7]at hP;exact hP)
  subst e2
  have hv:val (jh (λ i j=>decide (val i<val j)) (its.toArray.size - 1))=z:=by
   show ns.getD _ 0=z
   rw[aQ,e1]
   rfl
  refine⟨.int z,H,I.kept (h':=h') (t':=tk) λ b o q=>k b o ?_ (av _ q),⟨t,rfl⟩,q z (bS e1) λ y hy=>?_⟩
  .intro z
   have Y:b=s.heap.objs.size:=by simpa using z
   exact absurd (aH q) (by rw[Y];exact bK _)
  .obtain⟨j,hj,e3⟩:=dj.mp hy
   have:=ak5 val (its.toArray.size - 1) j (by simp only[aq];omega)
   rw[hv]at this
   have e4:val j=y:=by
    show ns.getD j 0=y
    rw[aQ,ag hj]
    exact e3
   omega
noncomputable def mx (a b:Int):Int:=if b > a then b else a
section
variable {X:Cx}
end
noncomputable def mx3 (a b c:Int):Int:=mx (mx a b) c
noncomputable def rnd (x:Int):Int:=if x=0\/x=3 then x else 2
noncomputable def sharp (n:Nat)(s:Nat->Nat->Int)(i j:Nat):Int:=(bY3 ((bB n).map λ k=>mx3 (s i k) (rnd (s k k)) (s k j))).getD 3
section
variable {n:Nat} {s:Nat->Nat->Int}
end
def aw2 (H:Hp)(f:Addr)(name qual:Str)(params:dW)(body:yL)(scope:Scope)(fr:yH)(cap:List V)(clos:yB):Prop :=
 ∃ doc pm c' ctv,H f=some (bx9 f (kg name qual params body scope clos .none .none doc pm none (.ref c') ctv))/\H c'=some (aM3 c' qual)/\Cells clos H /\
  (∀ x y c,clos.lookup x=some c->clos.lookup y=some c->x=y)/\(∀ x,scope.names.lookup x=some .free->∃ c,clos.lookup x=some c)/\Cap clos H fr cap
theorem aw2.fn {K:ac}{H:Hp}{f:Addr}{name qual:Str}{params:dW}{body:yL}{scope:Scope}{fr:yH}{cap:List V}{z:yB}(h:aw2 H f name qual params body scope fr cap z):bP2 K H f:=by
 obtain⟨F,Y,Z,G,J,_⟩:=h
 exact .inl ⟨_,J⟩
end L2
end
noncomputable section
namespace L2
open PySem PySem.Spec PyProof.Rows Builtin
section
variable {P:aD} {w:World} {A:aN} {E:Value->ae->Prop} {s:ae}
theorem aA8 {it t:Addr}{i:Nat}{l:yJ}{v:Value}{Q:Value->ae->Prop}(G:s.heap.IsTupleIter it t i)(J:s.heap.IsTuple t l)(hv:l[i]?=some v)
  (k:∀ h',h'.IsTupleIter it t (i+1)->eT it s.heap h'->Q v { s with heap:=h' }):wpAny (model P w) A (bO (.ref it)) Q E s:=by
 obtain⟨o,e1,e2,F⟩:=id G
 obtain⟨p,p1,_,n,Y⟩:=J
 unfold bO
 refine ai (cK (name:=bf "__next__") G.typeIs cw (cJ cw G.typeIs eW ?_ (eK _)))
 show wpAny _ _ (field (.ref it) 0 >>= _) _ _ _
 refine ai (dG e1 F (x:=.ref t) rfl ?_)
 show wpAny _ _ (if(Value.ref t==Value.none)=true then _ else _) _ _ _
 rw[if_neg (show ¬((Value.ref t==Value.none)=true)from λ z=>nomatch z)]
 show wpAny _ _ (field (.ref it) 1 >>= _) _ _ _
 refine ai (dG e1 F (x:=.int i 0) rfl ?_)
 show wpAny _ _ (seqItems? (.ref t) >>= _) _ _ _
 refine ai (wpAny_seqItems p1 Y ?_)
 simp only[fi,hv]
 refine ai (wpAny_setField e1 F (by simp) (az ⟨v,rfl,az (k _ ⟨_,f7 _ e1 (Obj.isFreed_of_fields (ii F _)),(Obj.cls_mapFields ..).trans e2,by rw[ii F];simp[rawInt]⟩ (gN ..))⟩))
theorem aL4 {it t:Addr}{i:Nat}{l:yJ}{Q:Value->ae->Prop}(hh:A.handled=none)(G:s.heap.IsTupleIter it t i)(J:s.heap.IsTuple t l)(hv:l[i]?=none)
  (k:∀ h' e,i7 it s.heap h'->(∃ o,h'.get? e=some o/\o.cls=.type "StopIteration")->E (.ref e) { s with heap:=h' }):wpAny (model P w) A (bO (.ref it)) Q E s:=by
 obtain⟨o,e1,e2,F⟩:=id G
 obtain⟨p,p1,_,n,Y⟩:=J
 unfold bO
 refine ai (cK (name:=bf "__next__") G.typeIs cw (cJ cw G.typeIs eW ?_ (eK _)))
 show wpAny _ _ (field (.ref it) 0 >>= _) _ _ _
 refine ai (dG e1 F (x:=.ref t) rfl ?_)
 show wpAny _ _ (if(Value.ref t==Value.none)=true then _ else _) _ _ _
 rw[if_neg (show ¬((Value.ref t==Value.none)=true)from λ z=>nomatch z)]
 show wpAny _ _ (field (.ref it) 1 >>= _) _ _ _
 refine ai (dG e1 F (x:=.int i 0) rfl ?_)
 show wpAny _ _ (seqItems? (.ref t) >>= _) _ _ _
 refine ai (wpAny_seqItems p1 Y ?_)
 simp only[fi,hv]
 refine ai (jx (ai (wpAny_setField e1 F (by simp) ?_)))
 show wpAny _ _ (newExc (.type "StopIteration") [] >>= _) _ _ (_:ae)
 refine ai ?_
 simp only[newExc,newTuple]
 refine ai (bH ?_ (by size_fits))
 refine ai (m:=firstArgMember _ _) (wpAny_of_eq (a:=Value.none) (by first|rfl|(simp only[firstArgMember];rfl)) (bH ?_ (by size_fits)))
 simp only[raiseNew]
 refine ai (wpAny_handled ?_)
 first|rw[show A.in1.handled=none from hh]|rw[hh]
 exact ai (az (wpAny_throw (k _ _ (((gN ..).extBut.push _).push _) ⟨_,aX _ rfl,rfl⟩)))
end
structure Dw (P:aD)(w:World)(K:ac)(J:It)(it:Addr)(tn:Nat->Heap->Prop):Prop where
 obj:∀ i h,tn i h->∃ o,h.get? it=some o/\∀ v,o.data≠.cell v
 keep:∀ i h h',tn i h->(∀ o,h.get? it=some o->h'.get? it=some o)->tn i h'
 item:∀(X:Cx),X.prog=P->X.w=w->X.K=K->∀(A:aN) (i:Nat) (pins:yA) (s:ae) (W:St) (H:Hp) (Q:Value->ae->Prop) (E:Value->ae->Prop),Inv X pins W H s->tn i s.heap->J.go i H ->
  (∀ x u h' tk,RelV x u->J.yld i H x H->tn (i+1) h'->eT it s.heap h'->Q u { s with heap:=h',toks:=tk })->wpAny (model P w) A (bO (.ref it)) Q E s
 done:∀(X:Cx),X.prog=P->X.w=w->X.K=K->∀(A:aN) (i:Nat) (pins:yA) (s:ae) (W:St) (H:Hp) (Q:Value->ae->Prop) (E:Value->ae->Prop),A.handled=none->Inv X pins W H s->tn i s.heap->J.stop i H ->
  (∀ h' e,i7 it s.heap h'->(∃ o,h'.get? e=some o/\o.cls=.type "StopIteration")->E (.ref e) { s with heap:=h' })->wpAny (model P w) A (bO (.ref it)) Q E s
theorem bn9 {P:aD}{w:World}{K:ac}(a it:Addr):Dw P w K (Itl K a) it (λ i h=>h.IsListIter it a i) where
 obj:=λ i h st=>by
  obtain⟨o,e,c,d⟩:=st
  exact⟨o,e,λ v z=>by rw[d]at z;cases z⟩
 keep:=λ i h h' st k=>st.at k
 item:=by
  intro X J hw Z A i F s W H Q E I st hg k
  subst J hw Z
  obtain⟨xs,x,hq,hx⟩:=hg
  obtain⟨its,Y,p,hz⟩:=I.list hq
  obtain⟨u,hu,ru⟩:=Y.get hx
  exact wpAny_nextOf_list_item st p.isList (x:=u) (by simpa using hu) λ h' G sb=>k x u h' s.toks ru ⟨rfl,λ ys hy=>by rw[I.list_inj hy hq];exact hx⟩ G sb
 done:=by
  intro X J hw Z A i F s W H Q E hA I st hg k
  subst J hw Z
  obtain⟨xs,hq,hx⟩:=hg
  obtain⟨its,Y,p,hz⟩:=I.list hq
  have hl:=Y.length
  exact wpAny_nextOf_list_end hA st p.isList (by simp;omega) k
theorem bG1 {P:aD}{w:World}{K:ac}(a it:Addr):Dw P w K (Itt K a) it (λ i h=>h.IsTupleIter it a i) where
 obj:=λ i h st=>by
  obtain⟨o,e,c,d⟩:=st
  exact⟨o,e,λ v z=>by rw[d]at z;cases z⟩
 keep:=λ i h h' st k=>st.at k
 item:=by
  intro X J hw Z A i F s W H Q E I st hg k
  subst J hw Z
  obtain⟨xs,x,hq,hx⟩:=hg
  obtain⟨its,Y,p,hz⟩:=I.tuple hq
  obtain⟨u,hu,ru⟩:=Y.get hx
  exact aA8 st (show s.heap.IsTuple a its.toArray from p) (v:=u) (by simpa using hu) λ h' G sb=>k x u h' s.toks ru ⟨rfl,λ ys hy=>by rw[I.tuple_inj hy hq];exact hx⟩ G sb
 done:=by
  intro X J hw Z A i F s W H Q E hA I st hg k
  subst J hw Z
  obtain⟨xs,hq,hx⟩:=hg
  obtain⟨its,Y,p,hz⟩:=I.tuple hq
  have hl:=Y.length
  exact aL4 hA st (show s.heap.IsTuple a its.toArray from p) (by simp;omega) k
theorem bA6 {P:aD}{w:World}{K:ac}(x:Str)(t:Tok)(it:Addr):Dw P w K (Its x) it (λ i h=>h.IsStrIter it (gk x) x t i) where
 obj:=λ i h st=>by
  obtain⟨o,e,c,d⟩:=st
  exact⟨o,e,λ v z=>by rw[d]at z;cases z⟩
 keep:=λ i h h' st k=>by
  obtain⟨o,ho,r⟩:=st
  exact⟨o,k _ ho,r⟩
 item:=by
  intro X Y hw hK A i J s W H Q E I st hg k
  subst Y hw hK
  have G:i<x.cps.size:=hg
  have hc:x.cps[i]?=some x.cps[i]:=by simp[G]
  unfold gk at st k
  cases ha:x.cps.all (·<128)
  .rw[ha]at st k
   exact wpAny_nextOf_wide_item st hc λ h' F Z=>k (.str ⟨#[x.cps[i]]⟩) _ h' (s.toks+1) ⟨_,rfl⟩ ⟨rfl,_,hc,rfl⟩ F Z
  .rw[ha]at st k
   exact wpAny_nextOf_ascii_item st hc λ h' F Z=>k (.str ⟨#[x.cps[i]]⟩) _ h' (s.toks+1) ⟨_,rfl⟩ ⟨rfl,_,hc,rfl⟩ F Z
 done:=by
  intro X Y hw hK A i J s W H Q E hA I st hg k
  subst Y hw hK
  have G:x.cps.size<=i:=hg
  have hc:x.cps[i]?=none:=by simp[G]
  unfold gk at st
  cases ha:x.cps.all (·<128)
  .rw[ha]at st
   exact wpAny_nextOf_wide_end hA st hc k
  .rw[ha]at st
   exact wpAny_nextOf_ascii_end hA st hc k
section
variable {X:Cx} {pins:yA} {W:St} {H:Hp} {s:ae} {A:aN} {E:Value->ae->Prop} {J1 J2:It} {t1 t2:Nat->Heap->Prop} {z ti to i1 i2:Addr} {n:Nat} {a b:Value}
end
def Mkr (v:Value)(o:Obj)(h:Heap):Prop:=∀(P:aD) (w:World) (A:aN) (E:Value->ae->Prop) (s:ae) (Q:Value->ae->Prop),(∀ b u,h.get? b=some u->s.heap.get? b=some u) ->
 Q (.ref s.heap.objs.size) { s with heap:=s.heap.push o }->wpAny (model P w) A (jY v) Q E s
def Sr (K:ac)(H:Hp)(x:V)(J:It):Prop:=(∃ a,x=.ref a/\(∃ xs,SqL K H a xs)/\J=Itl K a)\/(∃ a,x=.ref a/\(∃ xs,SqT K H a xs)/\J=Itt K a)\/∃ y,x=.str y/\J=Its y
theorem Sr.mk {X:Cx}{z:yA}{W:St}{H:Hp}{s:ae}{x:V}{u:Value}{J:It}(I:Inv X z W H s)(h:Sr X.K H x J)(r:RelV x u) :
  ∃(o:Obj) (F:Addr->Nat->Heap->Prop),o.isFreed=false/\Mkr u o s.heap/\(∀ it,Dw X.prog X.w X.K J it (F it))/\∀ it h',h'.get? it=some o->F it 0 h':=by
 rcases h with⟨a,e,⟨G,hq⟩,e'⟩|⟨a,e,⟨G,hq⟩,e'⟩|⟨y,e,e'⟩
 .subst e e';cases r
  obtain⟨its,Y,p,hz⟩:=I.list hq
  exact⟨_,λ it i h=>h.IsListIter it a i,rfl,λ P w A E s' Q hk q=>db (p.isList.at λ o e=>hk _ _ e) q,λ it=>bn9 a it,λ it h' e=>⟨_,e,rfl,rfl⟩⟩
 .subst e e';cases r
  obtain⟨its,Y,p,hz⟩:=I.tuple hq
  exact⟨_,λ it i h=>h.IsTupleIter it a i,rfl,λ P w A E s' Q hk q=>gY (Heap.IsTuple.at (show s.heap.IsTuple a its.toArray from p) λ o e=>hk _ _ e) q,λ it=>bG1 a it,λ it h' e=>⟨_,e,rfl,rfl⟩⟩
 .subst e e';obtain⟨t,rfl⟩:=r
  exact⟨_,λ it i h=>h.IsStrIter it (gk y) y t i,rfl,λ P w A E s' Q hk q=>wpAny_pyIter_strU q,λ it=>bA6 y t it,λ it h' e=>⟨_,e,rfl,rfl⟩⟩
end L2
end
noncomputable section
namespace L2
open PySem PySem.Spec PyProof.Rows Builtin
open AutoSeq1 (wpAny_loadPart')
section
variable {X:Cx} {pins:yA} {W:St} {H:Hp} {s:ae} {A:aN} {E:Value->ae->Prop} {J1:It} {t1:Nat->Heap->Prop} {z it:Addr} {n:Nat} {old:Value}
end
end L2
end
noncomputable section
namespace L2
open PySem PySem.Spec PyProof.Rows Builtin
open AutoSeq1 (wpAny_loadPart')
theorem aC0:fillsNumberSlot (.type "tuple") "mul"=pure false :=
 PySem.fillsNumberSlot_seq (id := "tuple.__mul__") (r:=some (.builtin "tuple.__rmul__")) dN.lookup (by decide +kernel) fF.lookup (by decide +kernel)
theorem aK9:seqRepeat? (.type "tuple")=pure (some (.builtin "tuple.__mul__")):=by
 unfold seqRepeat?
 rw[iT (T := "tuple") (name := "__mul__") (id := "tuple.__mul__") dN.lookup (by decide +kernel),iT (T := "tuple") (name := "__rmul__") (id := "tuple.__rmul__") fF.lookup (by decide +kernel)]
 rfl
theorem ay3 (a:Int)(t:Tok)(l:Addr)(o:Obj)(z:yJ)(n:Nat)(F:yI)(sl:yE) :
  Meets (Builtin.«int.__rmul__» ⟨[.int a t,.ref l],[]⟩) (λ _ R s=>s.heap.get? l=some { cls:=.type "tuple",dict:=F,data:=.seq z n,slots:=sl }/\R (.ok (.ret Value.notImplemented)) s) :=
 .of_wp λ prog w A R s h=>by obtain⟨hp,g,d,tk,os⟩:=s;obtain⟨hl,h⟩:=h;wp_walk;exact⟨_,rfl,h⟩
noncomputable def ao2 {α:Type}:Nat->List α->List α
 | 0,_=>[]
 | n+1,a=>a++ao2 n a
theorem aH7 {α:Type}(l:List α):∀(n:Nat) (z:Array α),(aj n l.toArray).foldl (·++·) z=z++(ao2 n l).toArray
 | 0,z=>by simp[ao2]
 | n+1,z=>by rw[bG,dC,aH7 l n];simp[ao2]
theorem aA4 {α:Type}(a:Array α):∀(n:Nat) (z:Array α),((aj n a).foldl (·++·) z).size=z.size+a.size*n
 | 0,z=>by simp
 | n+1,z=>by rw[bG,dC,aA4 a n,Array.size_append,Nat.mul_succ];omega
def TmA (items:yJ)(k:Int)(l:Addr)(R:Value->ae->Prop)(s:ae):Prop :=
 ((items.isEmpty||k==1)=true->R (.ref l) s)/\((items.isEmpty||k==1)=false->R (.ref s.heap.objs.size) { s with heap:=s.heap.push { cls:=.type "tuple",data:=.seq ((aj k.toNat items).foldl (·++·) #[]) } })
theorem aW7 {P:aD}{w:World}{A:aN}{E:Value->ae->Prop}{s:ae}{l:Addr}{z:yJ}{k:Int}{t:Tok}{Q:Value->ae->Prop}(h0:0<=k)(h1:k<=1000000)(hz:z.size*k.toNat<=1000000)(hl:IsTup s.heap l z)
  (h:TmA z k l Q s):wpAny (model P w) A (call (.builtin "tuple.__mul__") [.ref l,.int k t]) Q E s:=by
 refine cJ dN hl.typeIs PySem.F.entry_tuple_mul ?_ (PySem.F.args_tuple_mul_2 _ _)
 obtain⟨Y,q2⟩:=h
 show wpAny _ _ (asIndex (.int k t) >>= _) _ _ _
 refine ai (az ?_)
 rw[if_neg (by rw[decide_eq_false (by omega),decide_eq_false (by omega)];decide)]
 show wpAny _ _ (di (.ref l) >>= _) _ _ _
 refine ai (gR hl ?_)
 have G:(z.size:Int)*k<=1000000:=by
  have:((z.size*k.toNat:Nat):Int)<=1000000:=by omega
  rw[jc,eP h0]at this
  exact this
 cases hb:(z.isEmpty||k==1)with
 | true =>
  rw[if_pos rfl]
  unfold jA
  refine ai (ai (fO hl.typeIs (az ?_)))
  rw[if_pos (by decide)]
  exact ai (jx (az ⟨_,rfl,Y hb⟩))
 | false =>
  rw[if_neg aC]
  have J:z.isEmpty=false:=by
   rw[dk]at hb;exact hb.1
  have q:=q2 hb
  show wpAny _ _ (if(decide (k<=0)||z.isEmpty)=true then _ else _) _ _ _
  by_cases hk:k<=0
  .rw[if_pos (by rw[decide_eq_true hk];rfl)]
   have:k.toNat=0:=by omega
   rw[this]at q
   exact ai (bH (az ⟨_,rfl,q⟩) (by size_fits))
  .rw[if_neg (by rw[decide_eq_false hk,J];decide)]
   show wpAny _ _ (if(z.size:Int)*k > (2^63 - 1) / 8 then _ else _) _ _ _
   rw[if_neg (by omega)]
   show wpAny _ _ (if e8 ((z.size:Int)*k)=true then _ else _) _ _ _
   rw[if_neg (by unfold e8;rw[decide_eq_false (by unfold aM;omega)];decide)]
   refine ai (bH (az ⟨_,rfl,q⟩) ?_)
   show Array.size _<=aM
   rw[aA4]
   show 0+_<=_
   rw[dP]
   have Z:z.size*k.toNat<=aM:=al hz (by decide)
   exact Z
theorem aI6 {α:Type}:∀ n,ao2 n ([]:List α)=[]
 | 0=>rfl
 | n+1=>by simp[ao2,aI6 n]
theorem bg6 {α:Type}(l:List α):ao2 1 l=l:=by simp[ao2]
theorem aJ1 {α:Type}(l:List α):∀ n,(ao2 n l).length=l.length*n
 | 0=>by simp[ao2]
 | n+1=>by simp[ao2,aJ1 l n,i8];omega
theorem Vals.repT {z:List V}{us:yG}(r:Vals z us):∀ n,Vals (ao2 n z) (ao2 n us)
 | 0=>.nil
 | n+1=>r.append (Vals.repT r n)
def bT9 (K:ac):R2:=λ x y H Q=>∃ a xs n,x=.ref a/\y=.int n/\SqT K H a xs/\(0<=n/\n<=1000000/\xs.length*n.toNat<=1000000)/\∀ p H',ad3 H H'->SqT K H' p (ao2 n.toNat xs)->(H' p=some (.tup (ao2 n.toNat xs))\/(p=a/\ao2 n.toNat xs=xs))->Q (.ref p) H'
theorem bt3 {X:Cx}{K:ac}(hK:X.K=K):OpR X (cg .Mult) (bT9 K):=by
 subst hK
 intro G s W H x y v u Q I rx Y h
 obtain⟨a,F,n,rfl,rfl,ha,⟨h0,Z,hz⟩,q⟩:=h
 cases rx
 obtain⟨t,rfl⟩:=Y
 obtain⟨its,r1,p1,a0⟩:=I.tuple ha
 have z:=r1.length
 obtain⟨⟨cls,dd,data,sl⟩,ho,hc,J,hd⟩:=id p1
 simp only at hc hd
 subst hc hd
 refine fe (T := "tuple") (U := "int") (by decide) p1.typeIs (λ s'=>fS s' n t) aC0 ic dE aK9 gJ.lookup
  (dX dE (fS s n t) gK (gi _ _) (ay3 n t a default its.toArray J dd sl) ⟨ho,⟨rfl,p1.typeIs,aW7 h0 Z (by rw[aq,<-z];exact hz) p1 ⟨λ hb=>?_,λ hb=>?_⟩⟩⟩)
 .have ex:ao2 n.toNat F=F:=by
   rw[aY]at hb
   rcases hb with hb|hb
   .have hi:its=[]:=by simpa using hb
    have hx:F=[]:=r1.nil_iff.mp hi
    rw[hx,aI6]
   .have:n=1:=by simpa using hb
    subst this
    exact bg6 _
  exact⟨.ref a,H,I,rfl,q a H (ad3.refl H) (by rw[ex];exact ha) (.inr ⟨rfl,ex⟩)⟩
 .have hp:=I.hok.fresh (ao s.heap.objs.size)
  refine⟨.ref s.heap.objs.size,_,I.laid (t':=s.toks) (o:=.tup (ao2 n.toNat F)) (λ b ob q=>av _ q) (ao _) ?_,rfl,q _ _ ((ad3.refl H).new hp) (SqT.of zo) (.inl zo)⟩
  refine⟨by rw[aJ1];exact al hz (by decide),ao2 n.toNat its,r1.repT _,?_⟩
  rw[show(ao2 n.toNat its).toArray=(aj n.toNat its.toArray).foldl (·++·) #[]by rw[aH7];simp]
  exact⟨_,aX _ rfl,rfl,_,rfl⟩
end L2
end
noncomputable section
namespace L2
open PySem PySem.Spec PyProof.Rows
def bl3 (ta:TA):TI:=λ W H R=>ta W H λ vs H1=>∃ i j:Int,vs=[.int i,.int j,.int 2]/\(0<=i/\i<2^20/\0<=j/\j<2^20)/\R (bT0 i ((j - i+1) / 2).toNat) H1
theorem aN0 {X:Cx}{tg a b c:Expr}{ta:TA}{p pos:Pos}(hg:Gl X "range")(hm:X.mg "range"=none)(ha:PA X [a,b,c] ta)(hs:bp [a,b,c] X.env=(false,eval a X.env)::bp [b,c] X.env:=by rfl)(a0:bp [b,c] X.env=[(false,eval b X.env),(false,eval c X.env)]:=by rfl) :
  PI X tg (.Call (.Name "range" p) [a,b,c] [] pos) (bl3 ta):=by
 intro J s W H R I h
 refine Call_ (aA3 I hg hm boot_range (de (thn (ha pos J s W H _ I h) λ us s1 ⟨vs,H1,I1,r1,Z⟩=>?_) hs (by rw[a0];rfl)))
 obtain⟨z,F,e,⟨Z,q2,q3,q4⟩,q⟩:=Z
 subst e
 cases r1 with
 | cons r rr =>
  cases rr with
  | cons r' rr =>
   cases rr with
   | cons r'' rr =>
    cases rr
    obtain⟨t,rfl⟩:=r
    obtain⟨t',rfl⟩:=r'
    obtain⟨G,rfl⟩:=r''
    refine call_range_3 (by decide) ?_
    refine gZ (ke ..) (aS4 Z q2 q3 q4) ?_
    have Y:Inv X J W H1 { s1 with heap:=s1.heap.push { cls:=.type "range",data:=.fields #[.int z t,.int F t',.int 2 G] },toks:=s1.toks }:=I1.kept λ b o e=>av _ e
    have nn:0<=bw z F 2:=by rw[as5];split<;>omega
    refine⟨(s1.heap.push { cls:=.type "range",data:=.fields #[.int z t,.int F t',.int 2 G] }).objs.size,[(s1.heap.push { cls:=.type "range",data:=.fields #[.int z t,.int F t',.int 2 G] }).objs.size],_,_,H1,rfl,
     Y.kept (t':=s1.toks) λ b o e=>av _ e,aD2 _ z (bw z F 2).toNat,?_,λ b hb=>?_,?_⟩
    .show gd _ _ (z+((0:Nat):Int)*2) ((((bw z F 2).toNat:Nat):Int) - ((0:Nat):Int)) 2
     have e1:z+((0:Nat):Int)*2=z:=by simp
     have e2:(((bw z F 2).toNat:Nat):Int) - ((0:Nat):Int)=bw z F 2:=by omega
     rw[e1,e2]
     exact aX _ rfl
    .have e:b=(s1.heap.push { cls:=.type "range",data:=.fields #[.int z t,.int F t',.int 2 G] }).objs.size:=by simpa using hb
     subst e
     exact Y.fpOk (ao _) (Y.hok.fresh (ao _))
    .rw[as5]
     have e:(if z<F then(F - z - 1) / 2+1 else 0).toNat=((F - z+1) / 2).toNat:=by split<;>omega
     rw[e];exact q
theorem bj4 {A:aN}{k:Nat}(hr:Room k A):A.units+2<cLine:=ie (Nat.add_le_add_left (by decide:2<=64) _) hr.units
section
variable {κ:Type} [DecidableEq κ]
noncomputable def bh1 (kvs:List (κ×V))(k:κ):Option V:=(kvs.find? λ kv=>decide (kv.1=k)).map (·.2)
noncomputable def bO5 (kvs:List (κ×V))(k:κ)(v:V):List (κ×V) :=
 if(kvs.any λ kv=>decide (kv.1=k))=true then kvs.map (λ kv=>if kv.1=k then(kv.1,v)else kv)else kvs++[(k,v)]
theorem au8 {p:κ×V}{r:List (κ×V)}{k:κ}(e:p.1=k):bh1 (p::r) k=some p.2:=by simp[bh1,eL,e]
theorem ar9 {p:κ×V}{r:List (κ×V)}{k:κ}(e:¬ p.1=k):bh1 (p::r) k=bh1 r k:=by simp[bh1,eL,e]
theorem aH3 (k:κ):∀ kvs:List (κ×V),(kvs.any λ z=>decide (z.1=k))=(bh1 kvs k).isSome
 | []=>rfl
 | p::r=>by
  rw[fA]
  by_cases e:p.1=k
  .simp only[au8 e,decide_eq_true e,Bool.true_or,ig]
  .rw[ar9 e,decide_eq_false e,jR];exact aH3 k r
theorem bP5.getD {o:Option V}{u:Option Value}{d:V}{d':Value}(r:bP5 o u)(z:RelV d d'):RelV (o.getD d) (u.getD d'):=by
 cases o with
 | none=>cases u with
  | none=>exact z
  | some _=>exact(show False from r).elim
 | some _=>cases u with
  | none=>exact(show False from r).elim
  | some _=>exact r
theorem KV.val {kvs:List (κ×V)}{vs:List (κ×Value)}(r:KV kvs vs)(k:κ):bP5 (bh1 kvs k) (iD vs k):=by
 unfold KV at r
 induction r with
 | nil=>exact True.intro
 | @cons p q ps qs h t ih =>
  obtain⟨F,G⟩:=h
  by_cases e:p.1=k
  .have e':q.1=k:=F.symm.trans e
   have b:iD (q::qs) k=some q.2:=by simp[iD,eL,e']
   rw[au8 e,b];exact G
  .have e':¬ q.1=k:=λ z=>e (F.trans z)
   have b:iD (q::qs) k=iD qs k:=by simp[iD,eL,e']
   rw[ar9 e,b];exact ih
theorem KV.any {kvs:List (κ×V)}{vs:List (κ×Value)}(r:KV kvs vs)(k:κ):(kvs.any λ z=>decide (z.1=k))=vs.any λ z=>decide (z.1=k):=by
 unfold KV at r
 induction r with
 | nil=>rfl
 | cons h t ih=>rw[fA,fA,ih,h.1]
theorem KV.repl {kvs:List (κ×V)}{vs:List (κ×Value)}(r:KV kvs vs)(k:κ){y:V}{u:Value}(Y:RelV y u) :
  KV (kvs.map λ F=>if F.1=k then(F.1,y)else F) (vs.map λ F=>if F.1=k then(F.1,u)else F):=by
 unfold KV at r ⊢
 induction r with
 | nil=>exact .nil
 | @cons p q ps qs h t ih =>
  rw[bz,bz]
  refine .cons ?_ ih
  obtain⟨G,J⟩:=h
  by_cases e:p.1=k
  .rw[if_pos e,if_pos (G.symm.trans e)];exact⟨G,Y⟩
  .rw[if_neg e,if_neg (λ z=>e (G.trans z))];exact⟨G,J⟩
theorem KV.put {kvs:List (κ×V)}{vs:List (κ×Value)}(r:KV kvs vs)(k:κ){y:V}{u:Value}(z:RelV y u):KV (bO5 kvs k y) (stored vs k u):=by
 unfold bO5 stored
 rw[r.any k]
 by_cases e:(vs.any λ F=>decide (F.1=k))=true
 .rw[if_pos e,if_pos e];exact r.repl k z
 .rw[if_neg e,if_neg e];exact Paired.snoc r ⟨rfl,z⟩
theorem KV.length {kvs:List (κ×V)}{vs:List (κ×Value)}(r:KV kvs vs):kvs.length=vs.length:=jN r
end
section
variable {P:aD} {w:World} {H:Hp} {h:Heap} {a:Addr}
end
section
variable {X:Cx} {pins:yA} {W:St} {H:Hp} {s:ae} {a:Addr} {y v:V} {u r:Value} {o:Option V} {A:aN} {E:Value->ae->Prop}
theorem Inv.big (I:Inv X pins W H s):sysModules<s.heap.objs.size:=by
 have h:aV<s.heap.objs.size:=(I.mod.glob.keeps I.bk).lt
 exact Nat.lt_trans (by decide) h
end
section
variable {X:Cx} {pins:yA} {W:St} {H:Hp} {s:ae} {a:Addr} {kvs:List (Key×V)} {k:Key} {u:Value} {A:aN} {E:Value->ae->Prop}
end
section
variable {X:Cx} {o i e value:Expr} {pos pos' tpos:Pos} {td ty tv:TE}
end
section
variable {X:Cx} {pos:Pos}
end
section
variable {X:Cx} {pins:yA} {W:St} {H:Hp} {s:ae} {a:Addr} {y d:V} {u r:Value} {o:Option V} {A:aN} {E:Value->ae->Prop}
end
section
variable {X:Cx} {o e f:Expr} {apos cpos:Pos} {td ty tx:TE}
end
section
variable {P:aD} {w:World} {A:aN} {E:Value->ae->Prop} {s:ae}
end
section
variable {X:Cx} {pins:yA} {W:St} {H:Hp} {s:ae}
end
section
variable {prog:aD} {w:World} {A:aN} {R:iK->ae->Prop} {I:Addr} {fp wr:List Addr} {n:Nat} {P:Nat->Value->Prop} {St:Nat->Heap->Prop} {kw:List (Str×Value)}
end
theorem aJ5 {prog:aD}{w:World}{A:aN}{s:ae}{K:ac}{x Cc:Addr}
 {R:iK->ae->Prop} {z:Value} (X:K.In s.heap) (F:dB (model prog w) s.heap (hR (Value.ref x)) (Value.ref Cc))
 (hm:gS K Cc (Value.type "object")=some true) (h:R (Except.ok (Flow.ret (Value.ref Cc))) s) :
   gz (model prog w) A
    (Code.call (Value.builtin "getset_descriptor.__get__")
     { pos:=[Value.builtin "object.__class__",Value.ref x,z] }) R s:=by
 obtain⟨hh,g,G,t,os⟩:=s
 have L1:=PySem.W.looks_mroIn (M:=model prog w) X hm
 refine gm ik.plain PySem.W.KF.entry_gs (ik.check (model prog w) A.in1 _ _ _ _ _ _ PySem.W.KF.type_class (PySem.W.KF.args_gs _ _ _) ?_)
 show wpAny (model prog w) A.in1 (do
   let __x <- gp { pos:=[Value.builtin "object.__class__",Value.ref x,z] }
   match __x with
    | (d,obj,snd)=>du d obj) _ _ _
 rw[PySem.W.dga_obj]
 refine ai (az ?_)
 simp only[]
 unfold du
 show wpAny (model prog w) A.in1 (do
   cO (Value.builtin "object.__class__") (Value.ref x)
   again (Code.builtin "object.__class__" { pos:=[Value.ref x] })) _ _ _
 refine ai ?_
 unfold cO
 have e1:fG (Value.builtin "object.__class__")=pure (bf "__class__",Value.type "object"):=by
  show pure (bf (cQ "object.__class__").2,Value.type (cQ "object.__class__").1)=_
  rw[PySem.W.KF.owner_class]
 rw[e1]
 refine ai (az ?_)
 refine ai (ai (PySem.W.Looks.at F (PySem.W.Looks.at L1 (az ?_))))
 refine az ⟨Code.quiet_builtin _ (by decide +kernel),codeAny_builtin PySem.W.KF.entry_class ?_⟩
 refine ai ?_
 unfold shownTypeOf
 exact ai (PySem.W.Looks.at F (az (az h)))
theorem bS5 {M:Model}{h:Heap}{K:ac}{x D:Addr}{name:Str}{g a:Value}(X:K.In h)
 (F:bP K (Value.ref D) name=some (some a)) (G:fj K a (bf "__get__")=some (some g)) (z:fY K a=some true) :
 dB M h (dI (Value.ref x) (Value.ref D) name) (Builtin.ObjectAttr.Found.bind g a):=by
 have L1:=d8 (M:=M) X F
 have L2:=PySem.W.looks_specialIn (M:=M) X G
 have L3:=PySem.W.looks_takesIn (M:=M) X z
 unfold dI
 refine cx L1 (cx (a:=some g) L2 ?_)
 refine cx (a:=some (g,a)) (cx L3 fm) (kl fm)
def XAt (h:Heap)(x Cc:Addr):Prop:=∃ ox,h.get? x=some ox/\ox.cls=Value.ref Cc
theorem XAt.type {M:Model}{h:Heap}{x Cc:Addr}(I:XAt h x Cc):dB M h (hR (Value.ref x)) (Value.ref Cc):=by
 obtain⟨G,z,F⟩:=I
 exact F▸cx (iU z) fm
theorem bz2 {prog:aD}{w:World}{A:aN}{E:Value->ae->Prop}{s:ae}{K:ac}
 {x D:Addr} {name:Str} {Q:Option Value->ae->Prop} {g a:Value}
 (X:K.In s.heap) (Z:dB (model prog w) s.heap (hR (Value.ref x)) (Value.ref D))
 (L1:dB (model prog w) s.heap (dI (Value.ref x) (Value.ref D) name) (Builtin.ObjectAttr.Found.bind g a))
 (Y:bP K (Value.ref D) (bf "__getattribute__")=some (some (Value.builtin "BaseException.__getattribute__")))
 (hk:bP K (Value.ref D) (bf "__getattr__")=some none)
 {nm q:Str} {N:Addr} {bs bm:yG} {hdct:Bool} {sn:yH} {sub:yG} {ab:Bool} {col:Option Bool} {dd:yI} {k0 k1 k2 k3 k5:Option Value} {G:String} {o:Obj}
 (hC:s.heap.get? D=some (excClassObj nm q D N bs bm hdct sn sub ab col dd k0 k1 k2 k3 k5 G)) (T:OwnTailQ s.heap [.type "ValueError",.type "Exception",.type "BaseException",.type "object"] bm) (hx:s.heap.get? x=some o) (hc:o.cls=.ref D)
 (h:wpAny (model prog w) A.in1 (call g [a,Value.ref x,Value.ref D]) (λ v s'=>wpAny (model prog w) A (handedOut v) (λ v J=>Q (some v) J) (λ _ _=>False) s') (λ _ _=>False) { heap:=s.heap,gens:=s.gens,drawn:=s.drawn,toks:=s.toks+1,os:=s.os }) :
   wpAny (model prog w) A (getAttr? (Value.ref x) name) Q E s:=by
 obtain⟨hh,gg,d,t,os⟩:=s
 have Lg:=d8 (M:=model prog w) X Y
 have L2:=d8 (M:=model prog w) X hk
 have f3:=dR.ga.bind (Value.ref x)
 unfold getAttr?
 refine ai (wpAny_mkText ?_)
 unfold getAttrBy?
 refine ai (wpAny_attempt (cH (ai (PySem.W.Looks.at Z (ai (PySem.W.Looks.at Lg ?_))))))
 refine wpAny_ite_false rfl ?_
 refine ai (wpAny_ite_true rfl (PySem.W.Looks.at L2 ?_))
 refine ai (wpAny_attempt (cH ?_))
 refine wpAny_ite_false rfl ?_
 refine ai (wpAny_of_eq f3 (g7 ?_))
 refine gm dR.ga.plain F.entry_bexc_ga ?_
 refine wpAny_check_ga_own dR hC T hx hc ?_
 refine ai (az ?_)
 refine ai (az (ai (PySem.W.Looks.at Z (ai (PySem.W.Looks.at L1 ?_)))))
 refine ai (cH (aZ h (λ v s' z=>az ?_) λ _ _ z=>z.elim))
 exact aZ z (λ v J hv=>az hv) λ _ _ z=>z.elim
noncomputable def zx (h:Heap)(l:List Addr):Heap:={ h with objs:=h.objs.mapIdx λ i o=>if i∈l then { o with data:=.freed } else o }
theorem zv {h:Heap}{l:List Addr}{b:Addr}(hb:b∈l):(zx h l).get? b=none:=by
 unfold Heap.get? zx
 simp only[f9]
 cases e:h.objs[b]? with
 | none=>rfl
 | some o=>simp only[cZ,if_pos hb]
theorem qm {h:Heap}{l:List Addr}{b:Addr}(hb:b ∉ l):(zx h l).get? b=h.get? b:=by
 unfold Heap.get? zx
 simp only[f9]
 cases e:h.objs[b]? with
 | none=>rfl
 | some o=>simp only[cZ,if_neg hb]
theorem zP {h:Heap}{l:List Addr}:(zx h l).StaysIn h:=λ b o e=>by
 by_cases hb:b∈l
 .rw[zv hb]at e;cases e
 .rwa [qm hb]at e
theorem without_none {h:Heap}{l:List Addr}{b:Addr}(e:(zx h l).get? b=none):b∈l\/h.get? b=none:=by
 by_cases hb:b∈l
 .exact .inl hb
 .rw[qm hb]at e;exact .inr e
theorem aj9 {h base F:Heap}:∀ {l:List Env},h.FunFrames base l->(∀ b∈frs l,F.get? b=none)->h.FunFrames F l
 | [],_,_=>True.intro
 | env::l,⟨k,⟨L,o,hf,_,ho,hd⟩,r⟩,hb=>by
  have hm:frs (env::l)=L::frs l:=by unfold frs;rw[bF,hf]
  rw[hm]at hb
  exact⟨k,⟨L,o,hf,hb L (aw ..),ho,hd⟩,aj9 r λ b z=>hb b (ak _ z)⟩
theorem HOk.part {P:aD}{w:World}{H:Hp}{h h':Heap}(x:HOk P w H h)(k:∀ b u o,H b=some u->h.get? b=some o->h'.get? b=some o):HOk P w H h':=λ a o e =>
 (x a o e).stay (λ b u hb q=>by
  rcases hb with rfl|hb
  .exact k _ _ _ e q
  .exact k _ _ _ hb q) (λ _ q=>q) λ _ _ q=>q
theorem ad4.at_ {P:aD}{w:World}{H:Hp}{h:Heap}{a:Addr}{o:HO}(x:ad4 P w H h a o):∃ u,h.get? a=some u:=by
 cases o with
 | lst xs=>obtain⟨_,_,_,_,e⟩:=x;exact⟨_,e⟩
 | tup xs=>obtain⟨_,_,_,ob,e,_⟩:=x;exact⟨_,e⟩
 | own y=>exact x
 | xd fs=>obtain⟨_,⟨_,_,_,e,_⟩,_⟩:=x;exact⟨_,e⟩
 | rng lo hi=>obtain⟨_,_,_,e⟩:=x;exact⟨_,e⟩
 | frz ob u=>obtain⟨e,_⟩:=x;exact⟨_,e⟩
 | tbl ps=>exact⟨_,(show h.get? a=some _ from x)⟩
 | ext C=>obtain⟨_,e,_⟩:=x;exact e
structure Fly (h0:Heap)(H:Hp)(h:Heap)(a Cc:Addr):Prop where
 new:h0.get? a=none
 free:H a=none
 at_:∃ a0 oe vs T oT ts,h.get? a=some oe/\(oe.cls=.ref Cc/\vs[0]?=some a0)/\oe.data=.fields vs/\vs[1]?=some (.ref T)/\h0.get? T=none/\H T=none/\T≠a/\h.get? T=some oT/\oT.data=.fields ts/\ts[3]?=some .none
section
variable {X:Cx} {pins:yA} {W:St} {H:Hp} {s:ae} {a Cc:Addr} {a0:Value}
theorem aW9 (I:Inv X pins W H s)(J:X.ex=[]){bs:List Addr}(a2:∀ b∈frs X.stack,b∈bs)(hb:∀ b∈bs,b∈frs X.stack\/(X.s₀.heap.get? b=none/\H b=none))(n0:X.s₀.heap.get? a=none)(nH:H a=none)(F:∀ b∈X.fs,b∈frs X.stack)
  {h':Heap} (L:Heap.LeftW (zx s.heap bs) X.stack a (.ref Cc) a0 s.heap h'):Un X.fs [] X.H₀ H X.s₀.heap h'/\HOk X.prog X.w H h'/\Fly X.s₀.heap H h' a Cc:=by
 obtain⟨st,ff,tr,sl⟩:=L
 have un:=I.base
 rw[J]at un
 have keep:∀ b o,b ∉ bs->s.heap.get? b=some o->h'.get? b=some o:=λ b o n e=>st b o (by rw[qm n];exact e)
 have slot:∀ b o,b∈frs X.stack->s.heap.get? b=some o->∃ sl,h'.get? b=some { o with slots:=sl }:=λ b o n e=>by
  obtain⟨_,o',e',d⟩:=I.stack.mem n
  rw[e]at e';cases e'
  exact sl b o e d
 have out:∀ b o,X.s₀.heap.get? b=some o->b ∉ frs X.stack->b ∉ bs:=λ b o e n z=>by
  rcases hb b z with q|⟨q,_⟩
  .exact n q
  .rw[e]at q;cases q
 have Z:∀ b o,X.s₀.heap.get? b=some o->b ∉ X.fs->b ∉ frs X.stack:=λ b o e n z=>by
  rcases ax.mp (I.stkSub b z)with q|q
  .subst q
   exact absurd (aH e) (Nat.not_lt.mpr I.ok.above)
  .exact n q
 refine⟨⟨λ b o e n G nx=>?_,λ b o e n G nx=>?_,un.free,λ b o e nx=>?_,un.tups,un.frzs,un.tbls⟩,I.hok.part λ b u o e q=>?_,⟨n0,nH,?_⟩⟩
 .exact keep b o (out b o e (Z b o e G)) (un.keep b o e n G nx)
 .obtain⟨a1,e1⟩:=un.slot b o e n G nx
  obtain⟨Y,e2⟩:=slot b _ (F b G) e1
  exact⟨Y,e2⟩
 .obtain⟨o1,e1⟩:=un.there b o e nx
  by_cases z:b∈frs X.stack
  .obtain⟨_,e2⟩:=slot b _ z e1
   exact⟨_,e2⟩
  .exact⟨_,keep b o1 (out b o e z) e1⟩
 .refine keep b o (λ z=>?_) q
  rcases hb b z with y|⟨_,y⟩
  .rw[I.stkFree b y]at e;cases e
  .rw[y]at e;cases e
 .obtain⟨oe,vs,T,oT,ts,h1,h2,h3,h4,h5,h6,h7,h8,h9⟩:=tr
  have key:X.s₀.heap.get? T=none/\H T=none:=by
   rcases without_none h5 with z|z
   .rcases hb T z with y|y
    .obtain⟨_,o',e',d⟩:=ff.mem y
     rw[h7]at e';cases e'
     exact absurd h8 (d _)
    .exact y
   .refine⟨?_,?_⟩
    .cases e:X.s₀.heap.get? T with
     | none=>rfl
     | some o=>obtain⟨o',e'⟩:=un.there T o e (by simp);rw[z]at e';cases e'
    .cases e:H T with
     | none=>rfl
     | some o=>obtain⟨u,e'⟩:=(I.hok T o e).at_;rw[z]at e';cases e'
  exact⟨a0,oe,vs,T,oT,ts,h1,h2,h3,h4,key.1,key.2,h6,h7,h8,h9⟩
theorem aQ9 {oe:Obj}{vs:yJ}(I:Inv X pins W H s)(Z:X.ex=[])(z:X.stack=X.env::X.outer)(J:X.env.frame=some X.env.locals)(n0:X.s₀.heap.get? a=none)(nH:H a=none)
  (h1:s.heap.get? a=some oe) (h2:oe.cls=.ref Cc) (h3:oe.data=.fields vs) (h4:vs[1]?=some .none) (h5:vs[0]?=some a0) {Q:Unit->ae->Prop} {E:Value->ae->Prop}
  (k:∀ h',Un X.fs [] X.H₀ H X.s₀.heap h'->HOk X.prog X.w H h'->Fly X.s₀.heap H h' a Cc->Q () { s with heap:=h' }):wpAny (model X.prog X.w) X.A (leaving X.env (.ref a)) Q E s:=by
 have Y:s.heap.FunFrames (zx s.heap (a::frs X.stack)) X.stack:=aj9 I.stack λ b hb=>zv (ak _ hb)
 have F:∀ b∈X.fs,b∈frs X.stack:=λ b hb=>by rw[z];unfold frs;rw[bF,J];exact ak _ hb
 have G:=I.ok.frames
 rw[z]at G
 refine wpAny_leaving_firstW (base:=zx s.heap (a::frs X.stack)) G (by rw[<-z];exact Y) J h1 zP (zv (aw ..)) h3 h4 h5 λ h' L=>?_
 rw[h2,<-z]at L
 obtain⟨u,o,f⟩:=aW9 I Z (λ b hb=>ak _ hb) (λ b hb=>by
  rcases ax.mp hb with q|q
  .subst q;exact .inr ⟨n0,nH⟩
  .exact .inl q) n0 nH F L
 exact k h' u o f
theorem aJ7 (I:Inv X pins W H s)(a1:X.ex=[])(z:X.stack=X.env::X.outer)(Y:X.env.frame=some X.env.locals)(F:Fly X.s₀.heap H s.heap a Cc){Q:Unit->ae->Prop}{E:Value->ae->Prop}
  (k:∀ h',Un X.fs [] X.H₀ H X.s₀.heap h'->HOk X.prog X.w H h'->Fly X.s₀.heap H h' a Cc->Q () { s with heap:=h' }):wpAny (model X.prog X.w) X.A (leaving X.env (.ref a)) Q E s:=by
 obtain⟨n0,nH,a0,oe,vs,T,oT,ts,h1,h2,h3,h4,h5,h6,h7,h8,h9,a2⟩:=F
 have Z:s.heap.FunFrames (zx s.heap (a::T::frs X.stack)) X.stack:=aj9 I.stack λ b hb=>zv (ak _ (ak _ hb))
 have G:∀ b∈X.fs,b∈frs X.stack:=λ b hb=>by rw[z];unfold frs;rw[bF,Y];exact ak _ hb
 have J:=I.ok.frames
 rw[z]at J
 refine wpAny_leaving_nextW (base:=zx s.heap (a::T::frs X.stack)) J (by rw[<-z];exact Z) Y ⟨oe,vs,T,oT,ts,h1,h2,h3,h4,zv (by simp),h7,h8,h9,a2⟩ zP (zv (aw ..)) λ h' L=>?_
 rw[<-z]at L
 obtain⟨u,o,f⟩:=aW9 I a1 (λ b hb=>ak _ (ak _ hb)) (λ b hb=>by
  rcases ax.mp hb with q|q
  .subst q;exact .inr ⟨n0,nH⟩
  .rcases ax.mp q with q|q
   .subst q;exact .inr ⟨h5,h6⟩
   .exact .inl q) n0 nH G L
 exact k h' u o f
end
noncomputable def CX1 (P:aD)(w:World):CXT:=λ outer H s E e s'=>∃ a Cc H',e=.ref a/\s'.os=s.os/\eR s'.gens/\Un (frs outer) [] H H' s.heap s'.heap/\HOk P w H' s'.heap/\Fly s.heap H' s'.heap a Cc/\E e (some Cc) H'
theorem CX1.inv {X:Cx}{G:yA}{W:St}{H:Hp}{s s':ae}{E:XK}{e:Value}(I:Inv X G W H s)(Y:X.ex=[])(h:CX1 X.prog X.w X.stack H s E e s') :
  ∃ a Cc H',e=.ref a/\Inv X G W H' s'/\Fly X.s₀.heap H' s'.heap a Cc/\E e (some Cc) H':=by
 obtain⟨a,Cc,H',rfl,os,bare,un,hok,F,q⟩:=h
 have J:∀ b,s.heap.get? b=none->X.s₀.heap.get? b=none:=λ b z=>by
  cases e:X.s₀.heap.get? b with
  | none=>rfl
  | some o=>obtain⟨o',e'⟩:=I.base.there b o e (by rw[Y];simp);rw[z]at e';cases e'
 obtain⟨n0,nH,a0,oe,vs,T,oT,ts,h1,h2,h3,h4,h5,h6,Z⟩:=F
 exact⟨a,Cc,H',rfl,I.call' os un hok bare (ch:=[]) (λ b z=>absurd z (by simp)),⟨J _ n0,nH,a0,oe,vs,T,oT,ts,h1,h2,h3,h4,J _ h5,h6,Z⟩,q⟩
section
variable {P:aD} {w:World} {K:ac} {mg:yC} {base:Heap} {N:yH} {qual:Str} {scope:Scope} {f:Addr} {cd:Value} {A:aN} {outer:List Env} {s0:ae} {H0:Hp} {E:XK}
theorem bQ6:af9 (CX1 P w) (ai8 (CX1 P w) P w K mg base N qual scope f cd A outer s0 H0 E) E:=by
 intro z W H s e s' I h
 obtain⟨a,Cc,H',rfl,J,F,q⟩:=CX1.inv I rfl h
 exact aJ7 J rfl rfl rfl F λ h' u o G=>⟨a,Cc,H',rfl,J.os,J.bare,u,o,G,q⟩
def aA2 (X:Cx)(E:XK):Prop:=∀(pins:yA) (W:St) (H:Hp) (s:ae) (h':Heap) (a Cc:Addr) (args:yG),Inv X pins W H s->Heap.MadeExcOf s.heap h' a (.ref Cc) args->E (.ref a) (some Cc) H->X.xe (.ref a) { s with heap:=h' }
theorem bU1:aA2 (ai8 (CX1 P w) P w K mg base N qual scope f cd A outer s0 H0 E) E:=by
 intro z W H s h' a Cc args I M q
 have J:Inv (ai8 (CX1 P w) P w K mg base N qual scope f cd A outer s0 H0 E) z W H { s with heap:=h' }:=I.kept (t':=s.toks) M.keeps
 obtain⟨t,G,_⟩:=M.there
 refine aQ9 (a0:=.ref t) J rfl rfl rfl ?_ ?_ G rfl rfl rfl rfl λ Z u o F=>⟨a,Cc,H,rfl,J.os,J.bare,u,o,F,q⟩
 .show s0.heap.get? a=none
  cases e:s0.heap.get? a with
  | none=>rfl
  | some o =>
   obtain⟨Y,e'⟩:=I.base.there a o e (by show a ∉ ([]:List Addr);simp)
   rw[M.new]at e';cases e'
 .cases e:H a with
  | none=>rfl
  | some o =>
   obtain⟨u,e'⟩:=(I.hok a o e).at_
   rw[M.new]at e';cases e'
end
noncomputable def excTail:List Value:=[.type "ValueError",.type "Exception",.type "BaseException",.type "object"]
noncomputable def nsQ (K:ac)(N:Addr):Bool:=match K.lookup N with
 | some ⟨_,_,.dict es _,_⟩=>(es.all λ e=>match e.key with|.str _ _=>true|_=>false)&&jB.all λ n=>(nsFind es n).isNone
 | _=>false
noncomputable def aZ6 (K:ac):List Value->Bool
 | .ref A::tl=>(match K.lookup A with|some ⟨_,_,.cls cd,_⟩=>nsQ K cd.ns|_=>false)&&aZ6 K tl
 | l=>l==excTail
noncomputable def bU3 (K:ac)(Cc:Addr):Bool:=match K.lookup Cc with
 | some ⟨c,_,.cls cd,⟨[_,_,_,_,k4,_]⟩⟩=>c==.type "type"&&(!cd.hasDel&&(nsQ K cd.ns&&((match cd.mro with|m::tl=>m==.ref Cc&&aZ6 K tl|[]=>false)&&k4==some (.builtin "ValueError.__new__"))))
 | _=>false
theorem bj2 {K:ac}{N:Addr}(h:nsQ K N=true):∃ z:Str->Option Value,(∀ n∈jB,z n=none)/\∀ h:Heap,K.In h->h.Ns N z:=by
 unfold nsQ at h
 split at h
 .rename_i c d es F sl e
  rw[am]at h
  refine⟨nsFind es,λ n hn=>?_,λ hp G=>⟨_,es,F,G _ _ e,rfl,λ x hx=>?_,λ _=>rfl⟩⟩
  .have:=aB.mp h.2 n hn
   exact Option.isNone_iff_eq_none.mp this
  .have:=Array.all_eq_true'.mp h.1 x hx
   split at this
   .rename_i q;exact⟨_,_,q⟩
   .cases this
 .cases h
theorem aE1 {K:ac}:∀ {l:yG},aZ6 K l=true->∀ h:Heap,K.In h->OwnTailQ h excTail l
 | l,h,hp,hK=>by
  unfold aZ6 at h
  split at h
  .rename_i A J
   rw[am]at h
   obtain⟨z,F⟩:=h
   split at z
   .rename_i c d G sl e
    obtain⟨Y,q,n⟩:=bj2 z
    exact .own (hK _ _ e) (n hp hK) q (aE1 F hp hK)
   .cases z
  .have:=eq_of_beq h
   subst this
   exact .base
structure ExcCls (K:ac)(Cc:Addr):Prop where
 obj:∃ bm N nm q bs hdct sn sub ab col dd k0 k1 k2 k3 k5 mN,K.lookup Cc=some (excClassObj nm q Cc N bs bm hdct sn sub ab col dd k0 k1 k2 k3 k5 "ValueError.__new__")/\(∀ n∈jB,mN n=none)/\∀ h:Heap,K.In h->h.Ns N mN/\OwnTailQ h excTail bm
theorem bs5 {K:ac}{Cc:Addr}(h:bU3 K Cc=true):ExcCls K Cc:=by
 unfold bU3 at h
 split at h
 .rename_i c dd cd k0 k1 k2 k3 k4 k5 e
  obtain⟨nm,bs,a0,N,q,hdct,sn,sub,ab,col,F⟩:=cd
  simp only[am,fo]at h
  obtain⟨h1,G,Z,z,h5⟩:=h
  split at z
  .rename_i m tl
   rw[am]at z
   have e1:=eq_of_beq h1
   have e5:=eq_of_beq h5
   have e4:=eq_of_beq z.1
   subst e1 e5 e4
   have G:F=false:=G
   subst G
   obtain⟨mN,Y,n⟩:=bj2 Z
   exact⟨tl,N,nm,q,bs,hdct,sn,sub,ab,col,dd,k0,k1,k2,k3,k5,mN,e,Y,λ hp J=>⟨n hp J,aE1 z.2 hp J⟩⟩
  .cases z
 .cases h
theorem aY5 {K:ac}{x D:Addr}(hc:ExcCls K D)(F:bP K (.ref D) (bf "__getattribute__")=some (some (.builtin "BaseException.__getattribute__")))(hk:bP K (.ref D) (bf "__getattr__")=some none)
  (hf:bP K (.ref D) (bf "__class__")=some (some (.builtin "object.__class__")))
  (hs:fj K (.builtin "object.__class__") (bf "__get__")=some (some (.builtin "getset_descriptor.__get__")))
  (J:fY K (.builtin "object.__class__")=some true) (hm:gS K D (.type "object")=some true) :
  ci K (.ref x) (.ref D) (λ h=>XAt h x D):=by
 obtain⟨bm,N,nm,q,bs,hdct,sn,sub,ab,col,dd,k0,k1,k2,k3,k5,mN,hl,hq,hN⟩:=hc.obj
 refine⟨λ M h _ I=>I.type,λ M h X I=>?_,λ h G dd its n sl X z=>?_,λ {prog w A E Q s} X I h=>?_⟩
 .intro Z Q' Y s' k q
  exact ai (wpAny_loadPart (k _ _ (X _ _ hl)) (az q))
 .cases e:(Value.ref D==Value.ref G)with
  | false=>rfl
  | true =>
   have e:=eq_of_beq e
   cases e
   rw[X _ _ hl]at z
   cases congrArg (λ o:Option Obj=>o.map Obj.data) z
 .obtain⟨o,ho,hcl⟩:=I
  have L:=XAt.type (M:=model prog w) ⟨o,ho,hcl⟩
  exact bz2 X L (bS5 X hf hs J) F hk (X _ _ hl) (hN _ X).2 ho hcl (g7 (aJ5 X L hm (PySem.W.handed_on rfl h)))
noncomputable def excI (K:ac)(Cc:Addr):Bool:=bP K (.ref Cc) (bf "__getattribute__")==some (some (.builtin "BaseException.__getattribute__"))&&(bP K (.ref Cc) (bf "__getattr__")==some none&&(bP K (.ref Cc) (bf "__class__")==some (some (.builtin "object.__class__"))&&(fj K (.builtin "object.__class__") (bf "__get__")==some (some (.builtin "getset_descriptor.__get__"))&&(fY K (.builtin "object.__class__")==some true&&gS K Cc (.type "object")==some true))))
theorem bp9 {K:ac}{x Cc:Addr}(hc:ExcCls K Cc)(h:excI K Cc=true):ci K (.ref x) (.ref Cc) (λ h=>XAt h x Cc):=by
 unfold excI at h
 simp only[am]at h
 obtain⟨h0,G,J,F,z,h5⟩:=h
 exact aY5 hc (eq_of_beq h0) (eq_of_beq G) (eq_of_beq J) (eq_of_beq F) (eq_of_beq z) (eq_of_beq h5)
section
variable {X:Cx} {E:XK} {Cc:Addr} {x:Str}
theorem bf8 {np F pos p:Pos}{y:Str}{j:Nat}(T:aA2 X E)(hc:ExcCls X.K Cc)(hg:Gl X x)(hm:X.mg x=some (.ref Cc))(hh:X.A.handled=none)(hd:(x==("__debug__":Str))=false) :
  PS X (.Raise (some (.Call (.Name x np) [.Constant (.str y) j p] [] F)) none pos) (λ D W H=>∀ a,E (.ref a) (some Cc) H):=by
 intro z s W H D I q
 obtain⟨bm,N,nm,q',bs,hdct,sn,sub,ab,col,dd,k0,k1,k2,k3,k5,mN,e,hq,hN⟩:=hc.obj
 have Y:=hN _ I.kIn
 refine wpAny_Raise_call_subT (nm:=nm) (q:=q') (C:=Cc) (N:=N) (bs:=bs) (hdct:=hdct) (sn:=sn) (sub:=sub) (ab:=ab) (col:=col) (dd:=dd) (k0:=k0) (k1:=k1) (k2:=k2) (k3:=k3) (k5:=k5) gq (OwnTail.hasType Y.2.tail gq.hasBase) hh rfl (hq _ (aw ..)) ?_
 refine thn (ai4 (v:=.ref Cc) hg hm rfl hd z s W H (λ v J=>v=.ref Cc/\J=H) I ⟨rfl,rfl⟩) λ u s1 ⟨v,J,I1,r,e1,e2⟩=>?_
 subst e1 e2
 refine⟨r,gh ?_⟩
 have pa:PA X [.Constant (.str y) j p] (an3 (tC (.str y)) aY1):=zt ay0 ac5
 refine thn (pa F z s1 W J (λ vs Z=>vs.length=1/\Z=J) I1 ⟨rfl,rfl⟩) λ us s2 ⟨vs,Z,G,r2,e3,e4⟩=>?_
 subst e4
 have hl:us.length=1:=by rw[<-r2.length];exact e3
 refine⟨rfl,by show us.length<=_;rw[hl];decide,G.kIn _ _ e,(hN _ G.kIn).1,(hN _ G.kIn).2.tail,λ h' a M=>?_⟩
 exact T z W Z s2 h' a Cc us G M (q a)
end
structure Tr (X:Cx)(pins:yA)(W:St)(H:Hp)(s:ae)(a Cc:Addr)(fl:Value):Prop where
 inv:Inv X pins W H s
 n0:X.s₀.heap.get? a=none
 nH:H a=none
 np:∀ p∈X.pn++pins,p.1≠a
 tr:∃ a0 oe vs T oT ts,s.heap.get? a=some oe/\(oe.cls=.ref Cc/\vs[0]?=some a0)/\oe.data=.fields vs/\vs[1]?=some (.ref T)/\X.s₀.heap.get? T=none/\H T=none/\(∀ p∈X.pn++pins,p.1≠T)/\T≠a/\s.heap.get? T=some oT/\oT.data=.fields ts/\ts[3]?=some fl
section
variable {X:Cx} {pins:yA} {W:St} {H:Hp} {s:ae} {a Cc T:Addr} {fl fl' a0:Value} {h':Heap}
theorem Tr.stk (z:X.stack=X.env::X.outer)(F:X.env.frame=some X.env.locals):∀ b∈X.fs,b∈frs X.stack:=λ b hb=>by rw[z];unfold frs;rw[bF,F];exact ak _ hb
theorem Tr.moved (t:Tr X pins W H s a Cc fl)(a5:X.ex=[])(b7:X.stack=X.env::X.outer)(b6:X.env.frame=some X.env.locals){oT:Obj}{ts:yJ}(a3:X.s₀.heap.get? T=none)(Y:H T=none)(a6:∀ p∈X.pn++pins,p.1≠T)(c1:s.heap.get? T=some oT)(c2:oT.data=.fields ts)
  (st:(zx s.heap (a::T::frs X.stack)).StaysIn h') (ff:h'.FunFrames (zx s.heap (a::T::frs X.stack)) X.stack) (tr:h'.TracedAtW (zx s.heap (a::T::frs X.stack)) a (.ref Cc) a0 fl')
  (sl:∀ b o,s.heap.get? b=some o->(∀ vs,o.data≠.fields vs)->∃ sl,h'.get? b=some { o with slots:=sl }):Tr X pins W H { s with heap:=h' } a Cc fl':=by
 have I:=t.inv
 have un:=I.base
 rw[a5]at un
 have a1:=Tr.stk b7 b6
 obtain⟨b0,oe,vs,_,_,_,g1,_,g3,_⟩:=t.tr
 have a2:∀ b,b∈a::T::frs X.stack->b=a\/b=T\/b∈frs X.stack:=λ b hb=>by
  rcases ax.mp hb with q|q
  .exact .inl q
  .exact .inr (ax.mp q)
 have keep:∀ b o,b≠a->b≠T->b ∉ frs X.stack->s.heap.get? b=some o->h'.get? b=some o:=λ b o n1 n2 n3 e=>st b o (by
  rw[qm λ z=>(a2 b z).elim n1 λ z=>z.elim n2 n3];exact e)
 have slot:∀ b o,b∈frs X.stack->s.heap.get? b=some o->∃ sl,h'.get? b=some { o with slots:=sl }:=λ b o n e=>by
  obtain⟨_,o',e',d⟩:=I.stack.mem n
  rw[e]at e';cases e'
  exact sl b o e d
 have c0:∀ b o,X.s₀.heap.get? b=some o->b ∉ X.fs->b ∉ frs X.stack:=λ b o e n z=>by
  rcases ax.mp (I.stkSub b z)with q|q
  .subst q
   exact absurd (aH e) (Nat.not_lt.mpr I.ok.above)
  .exact n q
 have F:∀ b o,X.s₀.heap.get? b=some o->b≠a/\b≠T:=λ b o e=>⟨λ z=>(by rw[z,t.n0]at e;cases e),λ z=>(by rw[z,a3]at e;cases e)⟩
 have c3:∀ b o,s.heap.get? b=some o->(∀ vs,o.data≠.fields vs)->b≠a/\b≠T:=λ b o e d=>⟨λ z=>(by rw[z,g1]at e;cases e;exact d _ g3),λ z=>(by rw[z,c1]at e;cases e;exact d _ c2)⟩
 have up:∀ b o,s.heap.get? b=some o->(∀ vs,o.data≠.fields vs)->∃ sl,h'.get? b=some { o with slots:=sl }:=sl
 have a4:Inv X pins W H { s with heap:=h' }:=by
  refine⟨I.ok,I.os,I.bare,?_,?_,λ x c e=>?_,I.free,I.freeC,λ p hp=>?_,I.hok.part λ b u o e q=>?_,I.len⟩
  .rw[a5]
   refine⟨λ b o e n nf nx=>?_,λ b o e n nf nx=>?_,un.free,λ b o e nx=>?_,un.tups,un.frzs,un.tbls⟩
   .exact keep b o (F b o e).1 (F b o e).2 (c0 b o e nf) (un.keep b o e n nf nx)
   .obtain⟨b5,e1⟩:=un.slot b o e n nf nx
    obtain⟨J,e2⟩:=slot b _ (a1 b nf) e1
    exact⟨J,e2⟩
   .obtain⟨o1,e1⟩:=un.there b o e nx
    by_cases z:b∈frs X.stack
    .obtain⟨_,e2⟩:=slot b _ z e1
     exact⟨_,e2⟩
    .exact⟨_,keep b o1 (F b o e).1 (F b o e).2 z e1⟩
  .obtain⟨m,⟨o,es,ep,ho,hd,hr⟩,hl⟩:=I.loc
   obtain⟨b5,e1⟩:=up _ o ho (λ vs z=>by rw[hd]at z;cases z)
   refine⟨m,⟨_,es,ep,e1,hd,hr⟩,λ i x v h1 h2 h3=>?_⟩
   obtain⟨u,r,lk⟩:=hl i x v h1 h2 h3
   refine⟨u,r,?_⟩
   rcases lk with z|⟨z1,c,z2,oc,z3,Z⟩
   .exact .inl z
   .obtain⟨J,e2⟩:=up c oc z3 (λ vs z=>by rw[Z]at z;cases z)
    exact .inr ⟨z1,c,z2,_,e2,Z⟩
  .obtain⟨v,oc,z3,Z⟩:=I.cell x c e
   obtain⟨J,e2⟩:=up c oc z3 (λ vs z=>by rw[Z]at z;cases z)
   exact⟨v,_,e2,Z⟩
  .obtain⟨q1,q2,q3,q4,q5⟩:=I.pin p hp
   refine⟨keep _ _ (t.np p hp) (a6 p hp) (λ z=>?_) q1,q2,q3,q4,q5⟩
   rcases ax.mp (I.stkSub _ z)with q|q
   .exact q3 q
   .exact q4 q
  .refine keep b o (λ z=>?_) (λ z=>?_) (λ z=>?_) q
   .rw[z,t.nH]at e;cases e
   .rw[z,Y]at e;cases e
   .rw[I.stkFree b z]at e;cases e
 refine⟨a4,t.n0,t.nH,t.np,?_⟩
 obtain⟨b2,b1,G,b3,b4,h1,h2,h3,h4,h5,h6,h7,h8,h9⟩:=tr
 have key:X.s₀.heap.get? G=none/\H G=none/\∀ p∈X.pn++pins,p.1≠G:=by
  rcases without_none h5 with z|z
  .rcases a2 G z with y|y|y
   .exact absurd y h6
   .subst y;exact⟨a3,Y,a6⟩
   .obtain⟨_,o',e',d⟩:=ff.mem y
    rw[h7]at e';cases e'
    exact absurd h8 (d _)
  .refine⟨?_,?_,λ p hp y=>?_⟩
   .cases e:X.s₀.heap.get? G with
    | none=>rfl
    | some o=>obtain⟨o',e'⟩:=un.there G o e (by simp);rw[z]at e';cases e'
   .cases e:H G with
    | none=>rfl
    | some o=>obtain⟨u,e'⟩:=(I.hok G o e).at_;rw[z]at e';cases e'
   .have:=(I.pin p hp).1
    rw[y,z]at this;cases this
 exact⟨a0,b2,b1,G,b3,b4,h1,h2,h3,h4,key.1,key.2.1,key.2.2,h6,h7,h8,h9⟩
theorem Tr.noted (t:Tr X pins W H s a Cc .none)(Y:X.ex=[])(z:X.stack=X.env::X.outer)(G:X.env.frame=some X.env.locals){Q:Unit->ae->Prop}{E:Value->ae->Prop}
  (k:∀ h' fl,Tr X pins W H { s with heap:=h' } a Cc fl->Q () { s with heap:=h' }):wpAny (model X.prog X.w) X.A (iP (.ref a) X.env) Q E s:=by
 have I:=t.inv
 obtain⟨a0,oe,vs,T,oT,ts,h1,h2,h3,h4,h5,h6,a1,h7,h8,h9,Z⟩:=t.tr
 have J:s.heap.FunFrames (zx s.heap (a::T::frs X.stack)) X.stack:=aj9 I.stack λ b hb=>zv (ak _ (ak _ hb))
 have F:=I.ok.frames
 rw[z]at F
 refine wpAny_noteFrame_onW (base:=zx s.heap (a::T::frs X.stack)) F (by rw[<-z];exact J) G ⟨oe,vs,T,oT,ts,h1,h2,h3,h4,zv (by simp),h7,h8,h9,Z⟩ zP (zv (aw ..)) λ h' L=>?_
 rw[<-z]at L
 obtain⟨st,ff,tr,sl⟩:=L
 exact k h' _ (t.moved Y z G h5 h6 a1 h8 h9 st ff tr sl)
theorem Tr.down (t:Tr X pins W H s a Cc fl)(G:X.ex=[])(J:X.stack=X.env::X.outer)(F:X.env.frame=some X.env.locals){A:aN}{Q:Unit->ae->Prop}{E:Value->ae->Prop}
  (k:∀ h',Tr X pins W H { s with heap:=h' } a Cc .none->Q () { s with heap:=h' }):wpAny (model X.prog X.w) A (iV (.ref a) none) Q E s:=by
 have I:=t.inv
 obtain⟨a0,oe,vs,T,oT,ts,h1,h2,h3,h4,h5,h6,Z,h7,h8,h9,Y⟩:=t.tr
 have z:s.heap.FunFrames (zx s.heap (a::T::frs X.stack)) X.stack:=aj9 I.stack λ b hb=>zv (ak _ (ak _ hb))
 refine wpAny_setFlight_noneW (base:=zx s.heap (a::T::frs X.stack)) zP z ⟨oe,vs,T,oT,ts,h1,h2,h3,h4,zv (by simp),h7,h8,h9,Y⟩ λ h' st ff tr sl=>?_
 exact k h' (t.moved G J F h5 h6 Z h8 h9 st ff tr.at λ b o e d=>⟨o.slots,sl b o e d⟩)
theorem CX1.tr {s':ae}{E:XK}{e:Value}(I:Inv X pins W H s)(Y:X.ex=[])(h:CX1 X.prog X.w X.stack H s E e s') :
  ∃ a Cc H',e=.ref a/\Tr X pins W H' s' a Cc .none/\E e (some Cc) H':=by
 have h0:=h
 obtain⟨a,Cc,H',rfl,os,bare,un,hok,F,q⟩:=h
 obtain⟨a',Cc',a1,e,J,G,q'⟩:=CX1.inv I Y h0
 have Z:∀ b,s.heap.get? b=none->X.s₀.heap.get? b=none:=λ b z=>by
  cases e:X.s₀.heap.get? b with
  | none=>rfl
  | some o=>obtain⟨o',e'⟩:=I.base.there b o e (by rw[Y];simp);rw[z]at e';cases e'
 have pn:∀ b,s.heap.get? b=none->∀ p∈X.pn++pins,p.1≠b:=λ b z p hp y=>by
  have:=(I.pin p hp).1
  rw[y,z]at this;cases this
 obtain⟨n0,nH,a0,oe,vs,T,oT,ts,h1,h2,h3,h4,h5,h6,h7⟩:=F
 exact⟨a,Cc,H',rfl,⟨I.call' os un hok bare (ch:=[]) (λ b z=>absurd z (by simp)),Z _ n0,nH,pn _ n0,a0,oe,vs,T,oT,ts,h1,h2,h3,h4,Z _ h5,h6,pn _ h5,h7⟩,q⟩
end
noncomputable abbrev Cx.hnd (X:Cx)(a:Addr)(oe:Obj):Cx:={ X with A:=X.A.mark (some (.ref a)),calm:=false,pn:=(a,oe)::X.pn,xe:=λ _ _=>False }
section
variable {X:Cx} {pins:yA} {W:St} {H:Hp} {s:ae} {a Cc:Addr} {oe:Obj} {fl:Value}
theorem Cx.Ok.hnd (ok:X.Ok)(a:Addr)(oe:Obj):(X.hnd a oe).Ok:=⟨ok.mod,ok.kind,ok.glob,ok.blt,ok.above,ok.inj,ok.has,ok.cab,(λ z=>by cases z),ok.frames,ok.stk,ok.exf,ok.bs,ok.bsz,ok.noex,ok.exfs,ok.funs,ok.frf⟩
theorem Inv.apart (I:Inv X pins W H s){b:Addr}{o:Obj}{vs:yJ}(e:s.heap.get? b=some o)(d:o.data=.fields vs):b≠X.env.locals/\b ∉ X.fs/\∀ v,o.data≠.cell v:=by
 refine⟨λ z=>?_,λ z=>?_,λ v z=>by rw[d]at z;cases z⟩
 .obtain⟨m,⟨F,es,G,ho,hd,_⟩,_⟩:=I.loc
  rw[<-z,e]at ho;cases ho
  rw[d]at hd;cases hd
 .obtain⟨_,F,e',d'⟩:=I.funs.mem z
  rw[e]at e';cases e'
  exact d' _ d
theorem Inv.hnd {vs:yJ}(I:Inv X pins W H s)(e:s.heap.get? a=some oe)(n:H a=none)(d:oe.data=.fields vs):Inv (X.hnd a oe) pins W H s :=
 ⟨I.ok.hnd a oe,I.os,I.bare,I.base,I.loc,I.cell,I.free,I.freeC,λ p hp=>by
  rcases ax.mp hp with z|z
  .subst z;exact⟨e,n,I.apart e d⟩
  .exact I.pin p z,I.hok,I.len⟩
theorem Inv.unhnd (ok:X.Ok)(I:Inv (X.hnd a oe) pins W H s):Inv X pins W H s:=⟨ok,I.os,I.bare,I.base,I.loc,I.cell,I.free,I.freeC,λ p hp=>I.pin p (ak _ hp),I.hok,I.len⟩
theorem aX5 {M:Model}{A:aN}{E:Value->ae->Prop}{i:Nat}{x:Str}{v:V}{Q:Unit->ae->Prop}(I:Inv X pins W H s)(hN:X.N.Nodup)(Z:X.N[i]?=some x)(hx:X.env.scope.names.lookup x=some .local)(hv:W[i]?=some (some v))
  (h:∀ s',Inv X pins (W.set i none) H s'->Q () s'):wpAny M A (unbindName X.env x) Q E s:=by
 obtain⟨m,hn,hl⟩:=id I.loc
 have G:(X.env.scope.kind==.class||(X.env.scope.kind==.module&&X.env.locals != X.env.globals))=false:=by rw[I.ok.kind];rfl
 obtain⟨u,r,lk⟩:=hl i x v Z hv (.inl hx)
 have hm:m x=some u:=by
  rcases lk with⟨_,e⟩|⟨e,_⟩
  .exact e
  .have J:X.env.kindOf x=some .local:=hx
   rw[J]at e
   rcases e with e|e<;>cases e
 have cne:=I.cne
 refine wpAny_unbindName_local hx hn hm G λ h' u' Y hs=>?_
 obtain⟨oL,_,_,a0,_⟩:=id hn
 have F:∀ b o,X.s₀.heap.get? b=some o->b≠X.env.locals:=λ b o e=>aE (aG (aH e) I.ok.above)
 refine h _ ⟨I.ok,I.os,I.bare,⟨λ b o e n hb hx=>?_,λ b o e n hb hx=>?_,I.base.free,λ b o e hx=>?_,I.base.tups,I.base.frzs,I.base.tbls⟩,⟨_,Y,λ j y v' e1 e2 e3=>?_⟩,λ y c e=>?_,I.free,I.freeC,λ p hp=>?_,I.hok.part λ b w o e q=>?_,by rw[br];exact I.len⟩
 .exact(hs.2 b (F b o e)).trans (I.base.keep b o e n hb hx)
 .obtain⟨sl,e1⟩:=I.base.slot b o e n hb hx
  exact⟨sl,(hs.2 b (F b o e)).trans e1⟩
 .obtain⟨o',e1⟩:=I.base.there b o e hx
  exact⟨o',(hs.2 b (F b o e)).trans e1⟩
 .have hj:j≠i:=λ z=>by
   subst z
   rw[aR (af.mp hv).1]at e2
   cases e2
  rw[aU (dq hj)]at e2
  obtain⟨w,r',q⟩:=hl j y v' e1 e2 e3
  refine⟨w,r',?_⟩
  rcases q with⟨k,e⟩|⟨k,c,e,z⟩
  .refine .inl ⟨k,?_⟩
   have:y≠x:=λ e=>hj (au1 hN e1 (e▸Z))
   simp[this,e]
  .exact .inr ⟨k,c,e,z.sameBut hs (cne y c e)⟩
 .obtain⟨w',z⟩:=I.cell y c e
  exact⟨w',z.sameBut hs (cne y c e)⟩
 .obtain⟨e,n,ne,nf,d⟩:=I.pin p hp
  exact⟨(hs.2 p.1 ne).trans e,n,ne,nf,d⟩
 .refine(hs.2 b λ z=>?_).trans q
  rw[z,I.free]at e;cases e
theorem Tr.own (t:Tr X pins W H s a Cc fl):∃ oe vs,s.heap.get? a=some oe/\oe.cls=.ref Cc/\oe.data=.fields vs:=by
 obtain⟨a0,oe,vs,T,J,ts,F,G,z,_⟩:=t.tr
 exact⟨oe,vs,F,G.1,z⟩
theorem Tr.again (t:Tr X pins W H s a Cc fl){Q:V->Hp->Prop}{e:Expr}{v:V}(he:∀ oe,PE (X.hnd a oe) e (tC v)){E:Value->ae->Prop}{R:Value->ae->Prop}
  (k:∀ u s',RelV v u->Tr X pins W H s' a Cc fl->R u s'):wpAny (model X.prog X.w) (X.A.mark (some (.ref a))) (eval e X.env) R E s:=by
 obtain⟨a0,oe,vs,T,G,ts,h1,h2,h3,h4,h5,h6,Z,h7,h8,h9,Y⟩:=t.tr
 have I:=t.inv
 have J:Inv (X.hnd a oe) ((T,G)::pins) W H s:=(I.hnd h1 t.nH h3).pins_of λ p hp=>by
  rcases ax.mp hp with z|z
  .subst z;exact⟨h8,h6,I.apart h8 h9⟩
  .exact I.pin p (aJ _ z)
 refine aZ (he oe ((T,G)::pins) s W H (λ w H1=>w=v/\H1=H) J ⟨rfl,rfl⟩) (λ u s1 ⟨w,H1,F,r,e1,e2⟩=>?_) (λ _ _ z=>a8 z)
 subst e1 e2
 refine k u s1 r ⟨(F.pins_of λ p hp=>F.pin p (aJ _ (ak _ hp))).unhnd I.ok,t.n0,t.nH,t.np,a0,oe,vs,T,G,ts,(F.pin (a,oe) (aw ..)).1,h2,h3,h4,h5,h6,Z,h7,(F.pin (T,G) (aJ _ (aw ..))).1,h9,Y⟩
end
section
variable {prog:aD} {w:World} {A:aN} {R:iK->ae->Prop} {I:Addr} {fp wr:List Addr} {n:Nat} {P:Nat->Value->Prop} {St:Nat->Heap->Prop} {h₀:Heap}
end
section
variable {X:Cx} {pins:yA} {W:St} {H:Hp} {s:ae} {a Cc:Addr} {oe:Obj} {fl:Value}
end
theorem bb2 {X:Cx}{e:Expr}:PG X e (λ _ _ _ _=>False):=λ _ _ _ _ _ _ _ _ _ z=>z.elim
theorem PG.nox {X:Cx}{e:Expr}{t:TG}(h:PG X.nox e t):PG X e t:=λ F s W H v u Q I r hw =>
 aZ (h F s W H v u Q (I.wish _) r hw) (λ _ _ ⟨W',H',G,q⟩=>⟨W',H',G.unwish,q⟩) λ _ _ z=>a8 z
theorem PI.nox {X:Cx}{tg e:Expr}{t:TI}(h:PI X.nox tg e t):PI X tg e t:=λ F s W H R I hw =>
 aZ (h F s W H R (I.wish _) hw) (λ _ _ z=>aZ z (λ _ _ z=>by
  obtain⟨it,Z,tn,J,H2,e,Y,T,G,f2,q⟩:=z
  exact⟨it,Z,tn,J,H2,e,Y.unwish,T,G,f2,q⟩) λ _ _ z=>a8 z) λ _ _ z=>a8 z
theorem bE2 {P:aD}{w:World}{A:aN}{E:Value->ae->Prop}{s:ae}{env:Env}{K:ac}{e Cc D:Addr}{t:Expr}{n:Str}{J:Stmt}{z:yL}{pos:Pos}{rest:List d5}{Q:Flow->ae->Prop}(hx:bD K (.ref Cc) (.ref D)=some true)
  (h:wpAny (model P w) (A.mark (some (.ref e))) (eval t env) (λ c F=>c=.ref D/\K.In F.heap/\(∃ oe,F.heap.get? e=some oe/\oe.cls=.ref Cc) /\
   wpAny (model P w) (A.mark (some (.ref e))) (iV (.ref e) none) (λ _ Y=>wpAny (model P w) (A.mark (some (.ref e))) (jU env n (.ref e)) (λ _ s₃=>wpAny (model P w) (A.mark (some (.ref e))) (execs (J::z) env)
    (λ f Z=>wpAny (model P w) A (do bindName env n .none;unbindBehindTheSuite env n pos) (λ _ s₅=>Q f s₅) E Z)
    (AsSuiteRaised (model P w) (A.mark (some (.ref e))) env n pos (eV (model P w) (A.mark (some (.ref e))) env (im (model P w) A env E))) s₃) (eV (model P w) (A.mark (some (.ref e))) env (im (model P w) A env E)) Y) (eV (model P w) (A.mark (some (.ref e))) env (im (model P w) A env E)) F) (eV (model P w) (A.mark (some (.ref e))) env (im (model P w) A env E)) s) :
  wpAny (model P w) A (handleBy (.ref e) env (.ExceptHandler (some t) (some n) (J::z) pos::rest)) Q E s:=by
 refine wpAny_handleBy_cons (codeAny_handlers_test (aZ h (λ c F h₁=>?_) λ _ _ y=>y)) (by intro q;cases q)
 obtain⟨rfl,X,⟨oe,he,G⟩,hk⟩:=h₁
 have LT:dB (model P w) F.heap (hR (.ref e)) (.ref Cc):=by
  rw[<-G]
  exact(iU he).andThen .now
 exact(PySem.W.exm_one X LT hx).here (codeAny_handlers_suite_as hk)
section
variable {X:Cx} {pins:yA} {W:St} {H:Hp} {s:ae} {a Cc D':Addr} {oe:Obj} {fl:Value}
theorem aL5 {x n:Str}{i:Nat}{np pos:Pos}{b₀:Stmt}{F:yL}{rest:List d5}{th:TS}{D:Ends}(t:Tr X pins W H s a Cc .none)(Y:X.ex=[])(Z:X.stack=X.env::X.outer)(J:X.env.frame=some X.env.locals)
  (hx:bD X.K (.ref Cc) (.ref D')=some true) (hg:Gl X x) (hm:X.mg x=some (.ref D')) (hd:(x==("__debug__":Str))=false) (hN:X.N.Nodup) (hi:X.N[i]?=some n) (hl:X.env.scope.names.lookup n=some .local)
  (hb:∀ oe,oe.cls=.ref Cc->PSs (X.hnd a oe) (b₀::F) th) (hq:th { nx:=λ _ _=>False,rt:=D.rt } (W.set i (some (.ref a))) H) :
  wpAny (model X.prog X.w) X.A (iP (.ref a) X.env) (λ _ s₂=>wpAny (model X.prog X.w) X.A (iV (.ref a) none) (λ _ s₃=>wpAny (model X.prog X.w) X.A (handleBy (.ref a) X.env (.ExceptHandler (some (.Name x np)) (some n) (b₀::F) pos::rest)) (SP X pins D) X.xe s₃) X.xe s₂) X.xe s:=by
 refine t.noted Y Z J λ h2 fl t2=>t2.down Y Z J λ h3 t3=>?_
 refine bE2 (K:=X.K) hx ?_
 refine t3.again (Q:=λ _ _=>True) (v:=.ref D') (λ oe=>ai4 (X:=X.hnd a oe) hg hm rfl hd) λ u s4 r t4=>?_
 obtain⟨a6,b2,a4,a3,b4⟩:=t4.own
 refine⟨r,t4.inv.kIn,⟨a6,a4,a3⟩,?_⟩
 refine t4.down Y Z J λ h5 t5=>?_
 obtain⟨G,b3,a0,a2,a1⟩:=t5.own
 have J5:Inv X ((a,G)::pins) W H { s4 with heap:=h5 }:=t5.inv.pins_of λ p hp=>by
  rcases ax.mp hp with z|z
  .subst z;exact⟨a0,t5.nH,t5.inv.apart a0 a1⟩
  .exact t5.inv.pin p (aJ _ z)
 refine aj1 J5 hN hi (.inl hl) (v:=.ref a) rfl (λ s6 J6=>?_) (.inr hl)
 have J7:Inv (X.hnd a G) pins (W.set i (some (.ref a))) H s6:=(J6.pins_of λ p hp=>J6.pin p (aJ _ (ak _ hp))).hnd (J6.pin (a,G) (aJ _ (aw ..))).1 t5.nH a1
 refine aZ (hb G a2 pins s6 _ H { nx:=λ _ _=>False,rt:=D.rt } J7 hq) (λ f s8 z=>?_) (λ _ _ z=>a8 z)
 cases f with
 | next=>obtain⟨_,_,_,z⟩:=z;exact a8 z
 | brk=>obtain⟨_,_,_,z⟩:=z;exact a8 z
 | cont=>obtain⟨_,_,_,z⟩:=z;exact a8 z
 | ret u8 =>
  obtain⟨v8,W8,H8,J8,r8,q8⟩:=z
  have J8:=J8.unhnd t5.inv.ok
  refine ai (wpAny_bindName (aj1 J8 hN hi (.inl hl) (v:=.non) (u:=.none) rfl (λ s9 J9=>?_) (.inr hl)))
  have b0:i < W8.length:=by rw[J8.len];exact(af.mp hi).1
  exact wpAny_onRaise (aX5 J9 hN hi hl (by rw[aR b0]) λ b1 a5=>⟨v8,_,H8,a5,r8,q8⟩)
end
section
open PySem.AutoSeq1 (wpAny_loadPart')
open PySem.MeetsSeq PySem.MeetsSeq2 PySem.MeetsSeq3 PySem.SeqAt
end
section
variable {A:aN} {s:ae}
end
section
variable {prog:aD} {w:World} {A:aN} {E:Value->ae->Prop} {s:ae} {x y:Str} {t u:Tok}
end
end L2
end
noncomputable section
namespace DV
inductive D where
 | non|bl (b:Bool)|int (i:Int)|str (x:List Nat)|tup (l:List D)|ref (n:Nat)|fn (f:String)|clo (f:String) (cs:List D)
noncomputable instance:DecidableEq D:=λ a b=>cb (a=b)
noncomputable instance (x:D):Decidable (x=.non):=match x with
 | .non=>.isTrue rfl
 | .bl _=>.isFalse nofun
 | .int _=>.isFalse nofun
 | .str _=>.isFalse nofun
 | .tup _=>.isFalse nofun
 | .ref _=>.isFalse nofun
 | .fn _=>.isFalse nofun
 | .clo _ _=>.isFalse nofun
inductive O where
 | lst (l:List D)|ro (l:List D)|ins (c:String) (fs:List (String×D))
noncomputable instance:DecidableEq O:=λ a b=>cb (a=b)
noncomputable abbrev Sto:=List O
noncomputable def O.kd:O->Nat
 | .lst _=>0|.ro _=>1|.ins _ _=>3
inductive R (α:Type) where
 | ok (a:α) (s:Sto)|exc (e:D) (s:Sto)|bad
noncomputable abbrev M (α:Type):=Sto->R α
noncomputable def R.bind {α β:Type}(r:R α)(f:α->Sto->R β):R β:=match r with
 | .ok a s=>f a s
 | .exc e s=>.exc e s
 | .bad=>.bad
@[simp] theorem R.bind_ok {α β:Type} (a:α) (s:Sto) (f:α->Sto->R β):(R.ok a s).bind f=f a s:=rfl
@[simp] theorem R.bind_bad {α β:Type} (f:α->Sto->R β):(R.bad:R α).bind f=.bad:=rfl
@[simp] theorem R.bind_exc {α β:Type} (e:D) (s:Sto) (f:α->Sto->R β):(R.exc e s:R α).bind f=.exc e s:=rfl
theorem R.bind_inv {α β:Type}{r:R α}{f:α->Sto->R β}{b:β}{t:Sto}(h:r.bind f=.ok b t):∃ a s,r=.ok a s/\f a s=.ok b t:=by
 cases r with
 | ok a s=>exact⟨a,s,rfl,h⟩
 | exc e s=>cases h
 | bad=>cases h
@[simp] theorem R.bind_assoc {α β γ:Type} (r:R α) (f:α->Sto->R β) (g:β->Sto->R γ):(r.bind f).bind g=r.bind λ a s=>(f a s).bind g:=by cases r<;>rfl
mutual
noncomputable def D.bnd (n:Nat):D->Bool
 | .tup l=>D.bndL n l
 | .ref k=>decide (k<n)
 | .clo _ l=>D.bndL n l
 | _=>true
noncomputable def D.bndL (n:Nat):List D->Bool
 | []=>true
 | d::l=>D.bnd n d&&D.bndL n l
end
noncomputable def O.bnd (n:Nat):O->Bool
 | .lst l=>D.bndL n l
 | .ro l=>D.bndL n l
 | .ins _ fs=>D.bndL n (fs.map (·.2))
mutual
noncomputable def D.plain:D->Bool
 | .non=>true|.int _=>true|.str _=>true
 | .tup l=>D.plainL l
 | _=>false
noncomputable def D.plainL:List D->Bool
 | []=>true
 | d::l=>D.plain d&&D.plainL l
end
mutual
noncomputable def D.ncl:D->Bool
 | .tup l=>D.nclL l
 | .clo _ _=>false
 | _=>true
noncomputable def D.nclL:List D->Bool
 | []=>true
 | d::l=>D.ncl d&&D.nclL l
end
noncomputable def O.ncl:O->Bool
 | .lst l=>D.nclL l
 | .ro l=>D.nclL l
 | _=>false
noncomputable def D.key:D->Bool
 | .int _=>true|.str _=>true|_=>false
noncomputable def D.hdI:List D->Bool
 | .int _::_=>true|.non::_=>true|.tup _::_=>true|_=>false
noncomputable def LIM:Nat:=1000000
@[irreducible] noncomputable def BIG:Nat:=2^60000
@[irreducible] noncomputable def DIVL:Nat:=2^4096
inductive BOp where
 | add|sub|mul|fdiv|mod|pow|shl|shr|band|bor
 deriving DecidableEq
inductive COp where
 | eq|ne|lt|le|gt|ge|isin|notin
 deriving DecidableEq
inductive Cn where
 | non|bl (b:Bool)|int (i:Int)|str (x:List Nat)
 deriving DecidableEq
noncomputable def Cn.d:Cn->D
 | .non=>.non|.bl b=>.bl b|.int i=>.int i|.str x=>.str x
inductive Bi where
 | len|abs|int|str|min2|max2|max3|min3|isInt|isBool|isStr|isTup|isList|ord
 deriving DecidableEq
inductive Mk where
 | tuple|list|all|any|sum|min|max|sorted|lenset
 deriving DecidableEq
inductive Mt where
 | append|pop|partition
 deriving DecidableEq
inductive Tg where
 | one (i:Nat)|tup (is:List Nat)
 deriving DecidableEq
mutual
inductive E where
 | var (i:Nat)|cst (c:Cn)|glob (x:String)
 | bin (op:BOp) (a b:E)|neg (a:E)|not (a:E)
 | cmp (op:COp) (a b:E)
 | isN (a:E)
 | and (a b:E)|or (a b:E)|ite (c a b:E)
 | tup (es:Es)|lst (es:Es)|inC (e:E) (c:String)|getC (c:String) (e:E)
 | ix (a b:E)|slL (a lo:E)|slU (a hi:E)
 | call (f:String) (as:As)
 | bi (b:Bi) (es:Es)|mk (k:Mk) (l:L)
 | meth (m:Mt) (o:E) (es:Es)
inductive Es where
 | nil|cons (e:E) (es:Es)
inductive As where
 | nil|ex (e:E) (as:As)|fn (f:String) (as:As)
inductive I where
 | seq (e:E)|rng1 (a:E)|rng3 (a b:E) (c:Int)
inductive L where
 | comp (tg:Tg) (it:I) (e:E) (caps:yD)|compIf (tg:Tg) (it:I) (c e:E) (caps:yD)|disp (es:Es)|seq (e:E)
end
mutual
inductive S where
 | asg (tg:Tg) (e:E)|setIx (o i e:E)|ex (e:E)|ret (e:E)
 | ite (c:E) (a b:Ss)|whl (c:E) (b:Ss)|for_ (tg:Tg) (it:I) (b:Ss)|raise
inductive Ss where
 | nil|cons (s:S) (ss:Ss)
end
noncomputable abbrev Env:=List (Option D)
noncomputable def af0 (o:O):M D:=λ s=>.ok (.ref s.length) (s++[o])
noncomputable def pur (d:D):M D:=λ s=>.ok d s
noncomputable def bad {α:Type}:M α:=λ _=>.bad
noncomputable def mulOk (a b:Int):Bool:=decide (a.natAbs<2^64)||decide (b.natAbs<2^64)||(decide (a.natAbs<BIG)&&decide (b.natAbs<BIG))
noncomputable def rep:Nat->List Nat->List Nat
 | 0,_=>[]
 | n+1,a=>a++rep n a
noncomputable def aW0:Nat->List D->List D
 | 0,_=>[]
 | n+1,a=>a++aW0 n a
noncomputable def qa:BOp->D->D->M D
 | .add,.int a,.int b=>pur (.int (a+b))
 | .add,.str a,.str b=>if a.length+b.length<=LIM then pur (.str (a++b))else bad
 | .add,.tup a,.tup b=>if a.length+b.length<=LIM then pur (.tup (a++b))else bad
 | .add,.ref a,.ref b=>λ s=>match s[a]?,s[b]? with
  | some (.lst l),some (.lst m)=>if l.length+m.length<=LIM then af0 (.lst (l++m)) s else .bad
  | _,_=>.bad
 | .sub,.int a,.int b=>pur (.int (a - b))
 | .mul,.int a,.int b=>if mulOk a b then pur (.int (a*b))else bad
 | .mul,.str a,.int n=>if 0<=n/\n<=1000000/\a.length*n.toNat<=LIM then pur (.str (rep n.toNat a))else bad
 | .mul,.tup a,.int n=>if 0<=n/\n<=1000000/\a.length*n.toNat<=LIM then pur (.tup (aW0 n.toNat a))else bad
 | .mul,.ref a,.int n=>λ s=>match s[a]? with
  | some (.lst l)=>if 0<=n/\n<=1000000/\l.length*n.toNat<=LIM then af0 (.lst (aW0 n.toNat l)) s else .bad
  | _=>.bad
 | .fdiv,.int a,.int b=>if 0<b/\b<(DIVL:Int)then pur (.int (a / b))else bad
 | .mod,.int a,.int b=>if 0<b then pur (.int (a % b))else bad
 | .pow,.int a,.int b=>if 0<=b/\b<=1000000/\a.natAbs<2^64 then pur (.int (a^b.toNat))else bad
 | _,_,_=>bad
noncomputable def kd (s:Sto):D->Nat
 | .non=>0|.bl _=>1|.int _=>1|.str _=>2|.tup _=>3
 | .ref r=>match s[r]? with|some (.lst _)=>4|_=>9
 | _=>9
noncomputable def ay8 (a b:Nat):Bool:=a==9||b==9||a==b
noncomputable def b2i (b:Bool):Int:=if b then 1 else 0
noncomputable def aC6:D->D->Option Bool
 | .non,.non=>some true
 | .bl a,.bl b=>some (a==b)
 | .int a,.int b=>some (a==b)
 | .bl a,.int b=>some (b2i a==b)
 | .int a,.bl b=>some (a==b2i b)
 | .str a,.str b=>some (a==b)
 | _,_=>none
noncomputable def ac6 (s:Sto)(a b:D):Option Bool:=match aC6 a b with
 | some z=>some z
 | none=>if ay8 (kd s a) (kd s b)then none else some false
noncomputable def eqL (f:D->D->Option Bool):List D->List D->Option Bool
 | [],[]=>some true
 | [],_::_=>some false
 | _::_,[]=>some false
 | a::l,b::m=>match f a b,eqL f l m with
  | some x,some y=>some (x&&y)
  | _,_=>none
noncomputable def eqv (s:Sto):Nat->D->D->Option Bool
 | 0,a,b=>ac6 s a b
 | n+1,a,b=>match a,b with
  | .tup l,.tup m=>eqL (eqv s n) l m
  | .ref x,.ref y=>match s[x]?,s[y]? with
   | some (.lst l),some (.lst m)=>if l.length=m.length then eqL (eqv s n) l m else some false
   | _,_=>none
  | a,b=>ac6 s a b
noncomputable def DEEP:Nat:=30
noncomputable def eqM (a b:D):M D:=λ s=>match eqv s DEEP a b with
 | some r=>.ok (.bl r) s
 | none=>.bad
noncomputable def inL (s:Sto)(x:D):List D->Option Bool
 | []=>some false
 | y::l=>match eqv s DEEP y x,inL s x l with
  | some a,some b=>some (a||b)
  | _,_=>none
noncomputable def look (k:D):List (D×D)->Option D
 | []=>none
 | (a,v)::l=>if a=k then some v else look k l
noncomputable def inM (a b:D):M Bool:=λ s=>match b with
 | .tup l=>match inL s a l with|some r=>.ok r s|none=>.bad
 | .ref r=>match s[r]? with
  | some (.lst l)=>match inL s a l with|some r=>.ok r s|none=>.bad
  | _=>.bad
 | .str y=>match a with|.str [c]=>.ok (decide (c∈y)) s|_=>.bad
 | _=>.bad
noncomputable def bb1:D->Option (Int×List Nat)
 | .tup [.int i,.str x]=>some (i,x)
 | _=>none
noncomputable def bX6 (f:Int->List Nat->Int->List Nat->Bool)(a b:D):M D:=λ s=>match bb1 a,bb1 b with
 | some (i,x),some (j,y)=>.ok (.bl (f i x j y)) s
 | _,_=>.bad
noncomputable def zL:COp->D->D->M D
 | .eq,a,b=>eqM a b
 | .ne,a,b=>λ s=>match eqv s DEEP a b with|some r=>.ok (.bl (!r)) s|none=>.bad
 | .lt,.int a,.int b=>pur (.bl (decide (a<b)))
 | .le,.int a,.int b=>pur (.bl (decide (a<=b)))
 | .gt,.int a,.int b=>pur (.bl (decide (b<a)))
 | .isin,a,b=>λ s=>(inM a b s).bind λ r s=>.ok (.bl r) s
 | .notin,a,b=>λ s=>(inM a b s).bind λ r s=>.ok (.bl (!r)) s
 | _,_,_=>bad
noncomputable def ixn (n:Nat)(i:Int):Option Nat:=if 0<=i then(if i<n then some i.toNat else none)else if -(n:Int)<=i then some (i+n).toNat else none
noncomputable def sbd (n:Nat)(i:Int):Nat:=if 0<=i then min i.toNat n else(i+n).toNat
noncomputable def loB (n:Nat):Option Int->Nat
 | none=>0
 | some i=>sbd n i
noncomputable def hiB (n:Nat):Option Int->Nat
 | none=>n
 | some i=>sbd n i
noncomputable def ac8 {α:Type}(l:List α)(lo hi:Option Int):List α:=(l.drop (loB l.length lo)).take (hiB l.length hi - loB l.length lo)
noncomputable def ixM (a b:D):M D:=λ s=>match a,b with
 | .tup l,.int i=>match(ixn l.length i).bind λ j=>l[j]? with|some d=>.ok d s|none=>.bad
 | .str l,.int i=>match(ixn l.length i).bind λ j=>l[j]? with|some c=>.ok (.str [c]) s|none=>.bad
 | .ref r,b=>match s[r]? with
  | some (.lst l)=>match b with
   | .int i=>match(ixn l.length i).bind λ j=>l[j]? with|some d=>.ok d s|none=>.bad
   | _=>.bad
  | some (.ro l)=>match b with
   | .int i=>match(ixn l.length i).bind λ j=>l[j]? with|some d=>.ok d s|none=>.bad
   | _=>.bad
  | _=>.bad
 | _,_=>.bad
noncomputable def slM (a:D)(lo hi:Option Int):M D:=λ s=>match a with
 | .tup l=>.ok (.tup (ac8 l lo hi)) s
 | .str l=>.ok (.str (ac8 l lo hi)) s
 | .ref r=>match s[r]? with
  | some (.lst l)=>af0 (.lst (ac8 l lo hi)) s
  | _=>.bad
 | _=>.bad
noncomputable def ai7:List D->Option (List Bool)
 | []=>some []
 | .bl b::l=>(ai7 l).map (b::·)
 | _=>none
noncomputable def qA:List D->Option (List Int)
 | []=>some []
 | .int i::l=>(qA l).map (i::·)
 | _=>none
noncomputable def aq4:List D->Option (List (List Nat))
 | []=>some []
 | .str i::l=>(aq4 l).map (i::·)
 | _=>none
noncomputable def bL2 (d:D):M D:=λ s=>match d with
 | .tup l=>.ok (.int l.length) s
 | .str l=>.ok (.int l.length) s
 | .ref r=>match s[r]? with
  | some (.lst l)=>.ok (.int l.length) s
  | some (.ro l)=>.ok (.int l.length) s
  | _=>.bad
 | _=>.bad
noncomputable def isK (k:Nat)(d:D):M D:=λ s=>match d with
 | .non=>.ok (.bl false) s
 | .bl _=>.ok (.bl (k==1||k==2)) s
 | .int _=>.ok (.bl (k==1)) s
 | .str _=>.ok (.bl (k==3)) s
 | .tup _=>.ok (.bl (k==4)) s
 | .ref r=>match s[r]? with
  | some (.lst _)=>.ok (.bl (k==5)) s
  | _=>.bad
 | _=>.bad
noncomputable def bi1 (f:D->M D):List D->M D
 | [d]=>f d
 | _=>bad
noncomputable def bp5:List D->M D
 | [.str [c]]=>λ s=>if 48<=c/\c<=57 then .ok (.int ((c - 48:Nat):Int)) s else .bad
 | _=>bad
noncomputable def bm8:List D->M D
 | [.int i]=>λ s=>if 0<=i/\i<=9 then .ok (.str [48+i.toNat]) s else .bad
 | [.str w]=>λ s=>.ok (.str w) s
 | _=>bad
noncomputable def bi:Bi->List D->M D
 | .len,l=>bi1 bL2 l
 | .abs,l=>λ s=>match qA l with|some [i]=>.ok (.int (if i<0 then -i else i)) s|_=>.bad
 | .int,l=>λ s=>match ai7 l with|some [b]=>.ok (.int (if b then 1 else 0)) s|some _=>.bad|none=>bp5 l s
 | .str,l=>bm8 l
 | .min2,l=>λ s=>match qA l with|some [a,b]=>.ok (.int (if b<a then b else a)) s|_=>.bad
 | .max2,l=>λ s=>match qA l with|some [a,b]=>.ok (.int (if b > a then b else a)) s|_=>.bad
 | .max3,l=>λ s=>match qA l with|some [a,b,c]=>.ok (.int (max (max a b) c)) s|_=>.bad
 | .isInt,l=>bi1 (isK 1) l
 | .isBool,l=>bi1 (isK 2) l
 | .isStr,l=>bi1 (isK 3) l
 | .isTup,l=>bi1 (isK 4) l
 | .isList,l=>bi1 (isK 5) l
 | _,_=>bad
noncomputable def bP3:List Int->Option Int
 | []=>none
 | a::l=>some (l.foldl min a)
noncomputable def cb3:List Int->Option Int
 | []=>none
 | a::l=>some (l.foldl max a)
noncomputable def ins (a:Int):List Int->List Int
 | []=>[a]
 | b::l=>if a<=b then a::b::l else b::ins a l
noncomputable def bN6:List Int->List Int
 | []=>[]
 | a::l=>ins a (bN6 l)
noncomputable def bA0 (is:List Int):Bool:=is.all (λ i=>decide (-1000000000<=i/\i<=1000000000))&&decide (is.length<=1000000)
noncomputable def mk:Mk->List D->M D
 | .tuple,l=>λ s=>.ok (.tup l) s
 | .list,l=>af0 (.lst l)
 | .all,l=>λ s=>match ai7 l with|some bs=>.ok (.bl (bs.all id)) s|none=>.bad
 | .any,l=>λ s=>match ai7 l with|some bs=>.ok (.bl (bs.any id)) s|none=>.bad
 | .sum,l=>λ s=>match qA l with|some is=>if bA0 is then .ok (.int is.sum) s else .bad|none=>.bad
 | .min,l=>λ s=>match(qA l).bind bP3 with|some m=>.ok (.int m) s|none=>.bad
 | .max,l=>λ s=>match(qA l).bind cb3 with|some m=>.ok (.int m) s|none=>.bad
 | .sorted,l=>λ s=>match qA l with|some is=>af0 (.lst ((bN6 is).map D.int)) s|none=>.bad
 | .lenset,l=>bad
noncomputable def ca3 (k v:D)(l:List (D×D)):List (D×D):=if(look k l).isSome then l.map (λ p=>if p.1=k then(p.1,v)else p)else l++[(k,v)]
noncomputable def setIx (o i v:D):Sto->R Unit:=λ s=>match o with
 | .ref r=>match s[r]? with
  | some (.lst l)=>match i with
   | .int i=>match ixn l.length i with|some j=>.ok () (s.set r (.lst (l.set j v)))|none=>.bad
   | _=>.bad
  | _=>.bad
 | _=>.bad
noncomputable def meth:Mt->D->List D->M D
 | .append,.ref r,[d]=>λ s=>match s[r]? with
  | some (.lst l)=>if l.length<LIM then .ok .non (s.set r (.lst (l++[d])))else .bad
  | _=>.bad
 | .pop,.ref r,[]=>λ s=>match s[r]? with
  | some (.lst l)=>match l.getLast? with|some d=>.ok d (s.set r (.lst l.dropLast))|none=>.bad
  | _=>.bad
 | _,_,_=>bad
structure Fns where
 call:String->List D->M D
 lam:String->List D->List D->M D
 con:String->Option D
 xcall:String->List D->Sto->Option (String×Sto)
 xc:String->Bool
 xt:String->Bool
 cdc:String->Option (List (List Nat×List Nat))
 kd:String->Bool
noncomputable def bk9 (U:Env)(i:Nat):M D:=λ s=>match U[i]? with|some (some d)=>.ok d s|_=>.bad
noncomputable def ad0 (U:Env)(caps:yD):Env:=caps.map λ o=>match o with|none=>none|some j=>(U[j]?).join
noncomputable def aF7 (U:Env)(i:Nat)(d:D):Option Env:=if i < U.length then some (U.set i (some d))else none
noncomputable def aI3 (U:Env)(i:Nat):Option Env:=if i < U.length then some (U.set i none)else none
noncomputable def am4 (U:Env):List Nat->List D->Option Env
 | [],[]=>some U
 | i::is,d::l=>(aF7 U i d).bind λ U=>am4 U is l
 | _,_=>none
noncomputable def qK (U:Env):Tg->D->Option Env
 | .one i,d=>aF7 U i d
 | .tup is,.tup l=>am4 U is l
 | _,_=>none
structure Sq where
 its:List D
 src:List Nat
noncomputable def aY3 (d:D):M Sq:=λ s=>match d with
 | .tup l=>.ok ⟨l,[]⟩ s
 | .str l=>.ok ⟨l.map λ c=>.str [c],[]⟩ s
 | .ref r=>match s[r]? with
  | some (.lst l)=>.ok ⟨l,[r]⟩ s
  | some (.ro l)=>.ok ⟨l,[]⟩ s
  | _=>.bad
 | _=>.bad
noncomputable def bT3 (d:D):Sto->R (List D):=λ s=>match d with
 | .tup l=>.ok l s
 | .str l=>.ok (l.map λ c=>.str [c]) s
 | .ref r=>match s[r]? with
  | some (.lst l)=>.ok l s
  | some (.ro l)=>.ok l s
  | _=>.bad
 | _=>.bad
noncomputable def Ww62:Int:=4611686018427387904
noncomputable def al0 (a b:Int):List D:=(bB (b - a).toNat).map λ(k:Nat)=>.int (a+k)
noncomputable def aK8 (a b c:Int):List D:=if 0<c then(bB ((b - a+c - 1) / c).toNat).map λ(k:Nat)=>.int (a+c*k)else(bB ((a - b+(-c) - 1) / (-c)).toNat).map λ(k:Nat)=>.int (a+c*k)
noncomputable def chk (s0 s:Sto)(src:List Nat):Bool:=src.all λ r=>decide (s[r]?=s0[r]?)
noncomputable def tru {α:Type}(r:R D)(f:Bool->Sto->R α):R α:=r.bind λ d s=>match d with|.bl b=>f b s|_=>.bad
@[simp] theorem zq {α:Type} (b:Bool) (s:Sto) (f:Bool->Sto->R α):tru (.ok (.bl b) s) f=f b s:=rfl
noncomputable def ae1 (ok:Sto->Bool)(g:D->Env->Sto->R (Option D×Env)):List D->Env->Sto->R (List D)
 | [],_,s=>if ok s then .ok [] s else .bad
 | d::l,U,s=>if ok s then(g d U s).bind λ p s=>(ae1 ok g l p.2 s).bind λ r s=>.ok (match p.1 with|some v=>v::r|none=>r) s else .bad
noncomputable def aL6 (F:Fns)(c:String)(x:D):M D:=λ s=>match F.cdc c,x with|some kvs,.str w=>.ok (.bl (kvs.lookup w).isSome) s|some _,.non=>.ok (.bl false) s|_,_=>.bad
noncomputable def aO2 (F:Fns)(c:String)(x:D):M D:=λ s=>match F.cdc c,x with|some kvs,.str w=>(match kvs.lookup w with|some v=>if v.length<=LIM then .ok (.str v) s else .bad|none=>.bad)|_,_=>.bad
mutual
noncomputable def ev (F:Fns):E->Env->Sto->R D
 | .var i,U,s=>bk9 U i s
 | .cst c,_,s=>.ok c.d s
 | .glob x,_,s=>match F.con x with|some d=>.ok d s|none=>.bad
 | .bin op a b,U,s=>(ev F a U s).bind λ x s=>(ev F b U s).bind λ y s=>qa op x y s
 | .neg a,U,s=>(ev F a U s).bind λ x s=>match x with|.int i=>.ok (.int (-i)) s|_=>.bad
 | .not a,U,s=>tru (ev F a U s) λ b s=>.ok (.bl (!b)) s
 | .cmp op a b,U,s=>(ev F a U s).bind λ x s=>(ev F b U s).bind λ y s=>zL op x y s
 | .isN a,U,s=>(ev F a U s).bind λ x s=>.ok (.bl (decide (x=.non))) s
 | .and a b,U,s=>tru (ev F a U s) λ c s=>if c then tru (ev F b U s) λ c s=>.ok (.bl c) s else .ok (.bl false) s
 | .or a b,U,s=>tru (ev F a U s) λ c s=>if c then .ok (.bl true) s else tru (ev F b U s) λ c s=>.ok (.bl c) s
 | .ite c a b,U,s=>tru (ev F c U s) λ k s=>if k then ev F a U s else ev F b U s
 | .tup es,U,s=>(evs F es U s).bind λ l s=>.ok (.tup l) s
 | .lst es,U,s=>(evs F es U s).bind λ l s=>af0 (.lst l) s
 | .inC e c,U,s=>(ev F e U s).bind λ x s=>aL6 F c x s
 | .getC c e,U,s=>(ev F e U s).bind λ x s=>aO2 F c x s
 | .ix a b,U,s=>(ev F a U s).bind λ x s=>(ev F b U s).bind λ y s=>ixM x y s
 | .slL a lo,U,s=>(ev F a U s).bind λ x s=>(ev F lo U s).bind λ y s=>match y with|.int i=>slM x (some i) none s|_=>.bad
 | .slU a hi,U,s=>(ev F a U s).bind λ x s=>(ev F hi U s).bind λ y s=>match y with|.int i=>slM x none (some i) s|_=>.bad
 | .call f as,U,s=>(ao1 F as U s).bind λ l s=>F.call f l s
 | .bi b es,U,s=>(evs F es U s).bind λ l s=>bi b l s
 | .mk k it,U,s=>(evL F it U s).bind λ q s=>mk k q s
 | .meth m o es,U,s=>(ev F o U s).bind λ x s=>(evs F es U s).bind λ l s=>meth m x l s
noncomputable def evs (F:Fns):Es->Env->Sto->R (List D)
 | .nil,_,s=>.ok [] s
 | .cons e es,U,s=>(ev F e U s).bind λ d s=>(evs F es U s).bind λ l s=>.ok (d::l) s
noncomputable def ao1 (F:Fns):As->Env->Sto->R (List D)
 | .nil,_,s=>.ok [] s
 | .ex e as,U,s=>(ev F e U s).bind λ d s=>(ao1 F as U s).bind λ l s=>.ok (d::l) s
 | .fn f as,U,s=>(ao1 F as U s).bind λ l s=>.ok (.fn f::l) s
noncomputable def evI (F:Fns):I->Env->Sto->R Sq
 | .seq e,U,s=>(ev F e U s).bind λ d s=>aY3 d s
 | .rng1 a,U,s=>(ev F a U s).bind λ x s=>match x with|.int i=>if -Ww62<=i/\i<Ww62 then .ok ⟨al0 0 i,[]⟩ s else .bad|_=>.bad
 | .rng3 a b c,U,s=>(ev F a U s).bind λ x s=>(ev F b U s).bind λ y s=>match x,y with|.int i,.int j=>if c=2/\(0<=i/\i<1048576)/\0<=j/\j<1048576 then .ok ⟨aK8 i j c,[]⟩ s else .bad|_,_=>.bad
noncomputable def evL (F:Fns):L->Env->Sto->R (List D)
 | .comp tg it e caps,U,s=>(evI F it U s).bind λ q s0=>if q.its.length<=LIM then ae1 (λ s=>chk s0 s q.src) (λ d U s=>match qK U tg d with
   | some U=>(ev F e U s).bind λ v s=>.ok (some v,U) s
   | none=>.bad) q.its (ad0 U caps) s0 else .bad
 | .compIf tg it c e caps,U,s=>(evI F it U s).bind λ q s0=>if q.its.length<=LIM then ae1 (λ s=>chk s0 s q.src) (λ d U s=>match qK U tg d with
   | some U=>tru (ev F c U s) λ k s=>if k then(ev F e U s).bind λ v s=>.ok (some v,U) s else .ok (none,U) s
   | none=>.bad) q.its (ad0 U caps) s0 else .bad
 | .disp es,U,s=>evs F es U s
 | .seq e,U,s=>(ev F e U s).bind λ d s=>bT3 d s
end
inductive Ct where
 | next (U:Env)|ret (d:D)|cont (U:Env)|brk (U:Env)
noncomputable def av3 (ok:Sto->Bool)(g:D->Env->Sto->R Ct):List D->Env->Sto->R Ct
 | [],U,s=>if ok s then .ok (.next U) s else .bad
 | d::l,U,s=>if ok s then(g d U s).bind λ c s=>match c with
   | .next U=>av3 ok g l U s
   | .cont U=>av3 ok g l U s
   | .brk U=>.ok (.next U) s
   | .ret d=>.ok (.ret d) s
  else .bad
noncomputable def af5 (c:Env->Sto->R D)(g:Env->Sto->R Ct):Nat->Env->Sto->R Ct
 | 0,_,_=>.bad
 | n+1,U,s=>tru (c U s) λ b s=>if b then(g U s).bind λ c' s=>match c' with
   | .next U=>af5 c g n U s
   | .cont U=>af5 c g n U s
   | .brk U=>.ok (.next U) s
   | .ret d=>.ok (.ret d) s
  else .ok (.next U) s
open Classical in
noncomputable def whl (c:Env->Sto->R D)(g:Env->Sto->R Ct)(U:Env)(s:Sto):R Ct :=
 if h:∃ n,af5 c g n U s≠.bad then af5 c g h.choose U s else .bad
mutual
noncomputable def ex (F:Fns):S->Env->Sto->R Ct
 | .asg tg e,U,s=>(ev F e U s).bind λ d s=>match qK U tg d with|some U=>.ok (.next U) s|none=>.bad
 | .setIx o i e,U,s=>(ev F e U s).bind λ d s=>(ev F o U s).bind λ x s=>(ev F i U s).bind λ y s=>(setIx x y d s).bind λ _ s=>.ok (.next U) s
 | .ex e,U,s=>(ev F e U s).bind λ _ s=>.ok (.next U) s
 | .ret e,U,s=>(ev F e U s).bind λ d s=>.ok (.ret d) s
 | .ite c a b,U,s=>tru (ev F c U s) λ k s=>if k then exs F a U s else exs F b U s
 | .whl c b,U,s=>whl (ev F c) (exs F b) U s
 | .for_ tg it b,U,s=>(evI F it U s).bind λ q s0=>av3 (λ s=>chk s0 s q.src) (λ d U s=>match qK U tg d with
   | some U=>exs F b U s
   | none=>.bad) q.its U s0
 | .raise,_,_=>.bad
noncomputable def exs (F:Fns):Ss->Env->Sto->R Ct
 | .nil,U,s=>.ok (.next U) s
 | .cons st ss,U,s=>(ex F st U s).bind λ c s=>match c with|.next U=>exs F ss U s|c=>.ok c s
end
structure Df where
 name:String
 ps:Nat
 vs:Nat
 body:Ss
structure Lm where
 id:String
 ps:Nat
 cs:Nat
 body:E
inductive HT where
 | ve
 | isi (cs:List String)|one (c:String)|not (t:HT)|or (a b:HT)
inductive Hd where
 | ret (t:HT)|iff (t:HT) (b:Bool) (h:Hd)|nob (b:Bool)|noe|iffN (t:HT) (h:Hd)|aoN (a b:HT)|sup (x:String) (h:Hd)
 | kin (f:String) (l:Bool)
noncomputable def subC (c d:String):Bool:=c==d||(d == "TollError"||d == "ValueError")
noncomputable def ab5:List String:=["NotSteady", "TooMuch", "TooLong", "NoMaking", "NoPaper", "NoPair", "NoText", "NoRow", "NoName"]
noncomputable def ae5:List (List Nat):=[[115,116,101,97,100,121],[109,117,99,104],[108,111,110,103],[109,97,107,105,110,103],[112,97,112,101,114],[112,97,105,114],[116,101,120,116],[114,111,119],[110,97,109,101]]
noncomputable def ai9:List Nat:=[97,110,111,116,104,101,114]
noncomputable def bC0 (bs:List Bool):List Nat:=if bs.countP id=1 then ae5.getD (bs.findIdx id) []else ai9
noncomputable def ae0 (c:String):List Nat:=bC0 (ab5.map (subC c))
noncomputable def HT.val (c:String):HT->Bool
 | .isi cs=>cs.any (subC c)
 | .one d=>subC c d
 | .not t=>!t.val c
 | .or a b=>if a.val c then true else b.val c
 | .ve=>true
noncomputable def HT.ok (p:String->Bool):HT->Bool
 | .isi cs=>cs.all p
 | .one d=>p d
 | .not t=>t.ok p
 | .or a b=>a.ok p&&b.ok p
 | .ve=>true
noncomputable def Hd.val (c:String):Hd->Bool
 | .ret t=>t.val c
 | .iff t b h=>if t.val c then b else h.val c
 | .nob b=>b
 | .noe=>false
 | .iffN _ h=>h.val c
 | .aoN a b=>a.val c&&b.val c
 | .sup _ h=>h.val c
 | .kin _ _=>false
noncomputable def Hd.ok (p:String->Bool):Hd->Bool
 | .ret t=>t.ok p
 | .iff t _ h=>t.ok p&&h.ok p
 | .nob _=>true
 | .noe=>true
 | .iffN t h=>t.ok p&&h.ok p
 | .aoN a b=>a.ok p&&b.ok p
 | .sup x h=>p x&&h.ok p
 | .kin _ _=>ab5.all p
noncomputable def Hd.vD (c:String):Hd->D
 | .ret t=>.bl (t.val c)
 | .iff t b h=>if t.val c then .bl b else h.vD c
 | .nob b=>.bl b
 | .noe=>.non
 | .iffN t h=>if t.val c then .non else h.vD c
 | .aoN a b=>if a.val c then(if b.val c then .bl true else .non)else .non
 | .sup _ h=>h.vD c
 | .kin _ _=>.non
noncomputable def Hd.kn:Hd->Option (String×Bool)
 | .kin f l=>some (f,l)
 | .sup _ h=>h.kn
 | _=>none
noncomputable def Hd.kok (k:String->Bool)(h:Hd):Bool:=match h.kn with|some (f,_)=>k f|none=>true
noncomputable def Hd.cls (c:String):Hd->String
 | .sup x _=>x|_=>c
noncomputable def Hd.supOk (c:String):Hd->Bool
 | .sup x _=>subC c x|_=>true
noncomputable def Hd.nn:Hd->Bool
 | .nob _=>true|.noe=>true|_=>false
noncomputable def af1 (ok:Sto->Bool)(g:D->Env->Sto->R Ct)(gx:D->Env->Sto->Option (String×Sto)):List D->Env->Sto->Option (String×Sto)
 | [],_,_=>none
 | d::l,U,s=>if ok s then match g d U s with
   | .ok (.next U1) s1=>af1 ok g gx l U1 s1
   | .ok (.cont U1) s1=>af1 ok g gx l U1 s1
   | .ok _ _=>none
   | _=>gx d U s
  else none
noncomputable def aY9 (c:Env->Sto->R D)(g:Env->Sto->R Ct)(gx:Env->Sto->Option (String×Sto)):Nat->Env->Sto->Option (String×Sto)
 | 0,_,_=>none
 | n+1,U,s=>match c U s with
  | .ok (.bl true) s1=>match g U s1 with
   | .ok (.next U1) s2=>aY9 c g gx n U1 s2
   | .ok (.cont U1) s2=>aY9 c g gx n U1 s2
   | .ok _ _=>none
   | _=>gx U s1
  | _=>none
open Classical in
noncomputable def whlX (c:Env->Sto->R D)(g:Env->Sto->R Ct)(gx:Env->Sto->Option (String×Sto))(U:Env)(s:Sto):Option (String×Sto):=if h:∃ n,(aY9 c g gx n U s).isSome=true then aY9 c g gx h.choose U s else none
inductive XB where
 | no|rais (c:String)|call (f:String) (as:As)|iteT (c:E) (a r:XB)|seq (s:S) (b:XB)
 | kind|alt (a b:XB)
 | iteE (c:E) (a r:XB)|forX (tg:Tg) (it:I) (b:Ss) (x:XB)|whlX (c:E) (b:Ss) (x:XB)
noncomputable def xB (F:Fns):XB->Env->Sto->Option (String×Sto)
 | .no,_,_=>none
 | .kind,_,_=>none
 | .alt a b,U,s=>match xB F a U s with|some r=>some r|none=>xB F b U s
 | .rais c,_,s=>if F.xc c=true then some (c,s)else none
 | .call f as,U,s=>match ao1 F as U s with|.ok l s1=>F.xcall f l s1|_=>none
 | .iteT c a r,U,s=>match ev F c U s with|.ok (.bl b) s1=>if b then xB F a U s1 else xB F r U s1|_=>none
 | .seq st b,U,s=>match ex F st U s with|.ok (.next U1) s1=>xB F b U1 s1|_=>none
 | .forX tg it b x,U,s=>match evI F it U s with
  | .ok q s0=>af1 (λ s=>chk s0 s q.src) (λ d U s=>match qK U tg d with
   | some U=>exs F b U s
   | none=>.bad) (λ d U s=>match qK U tg d with
   | some U=>xB F x U s
   | none=>none) q.its U s0
  | _=>none
 | .iteE c a r,U,s=>match ev F c U s with|.ok (.bl b) s1=>if b then xB F a U s1 else xB F r U s1|_=>none
 | .whlX c b x,U,s=>DV.whlX (ev F c) (exs F b) (xB F x) U s
structure Xf where
 ps:Nat
 vs:Nat
 body:XB
structure Tf where
 ps:Nat
 vs:Nat
 body:Ss
 xb:XB
 c:String
 i:Nat
 h:Hd
 tl:Ss
 pre:Ss
structure Pr where
 df:String->Option Df
 lm:String->Option Lm
 con:String->Option D
 xf:String->Option Xf
 tf:String->Option Tf
 xc:String->Bool
 xt:String->Bool
 cdc:String->Option (List (List Nat×List Nat))
noncomputable def an6 (st st':Sto):Bool:=(bB st.length).all λ i=>decide (st'[i]?=st[i]?)||(match st'[i]? with|some o=>o.bnd st.length|none=>false)
noncomputable def zr (st:Sto)(d:D)(st':Sto):R D :=
 if an6 st st' then
  match d with
  | .ref r=>if r<st.length then .ok d (st'.take st.length)else match st'[r]? with
   | some o=>if o.bnd st.length then .ok (.ref st.length) (st'.take st.length++[o])else .ok d st'
   | none=>.bad
  | d=>if d.bnd st.length then .ok d (st'.take st.length)else .ok d st'
 else .ok d st'
noncomputable def Hd.out (h:Hd)(c:String)(s s':Sto):R D:=match h with
 | .noe=>zr s (.ref s'.length) (s'++[.lst []])
 | h=>match h.kn with
  | some (_,true)=>zr s (.ref s'.length) (s'++[.lst [.str (ae0 c)]])
  | some (_,false)=>zr s (.str (ae0 c)) s'
  | none=>zr s (h.vD c) s'
noncomputable def Tf.tk (d:Tf)(c:String):Bool:=match d.h with|.sup x _=>subC c x|_=>c==d.c
noncomputable def XB.isK:XB->Bool
 | .kind=>true|_=>false
noncomputable def by1 (P:Pr)(f:String):Bool:=match P.xf f with|some d=>d.ps==1&&(d.vs==1&&d.body.isK)|none=>false
noncomputable def be7 (F:Fns)(d:Tf)(s:Sto)(U0:Env)(s0:Sto):R D:=match xB F d.xb U0 s0 with
 | some (c,s')=>if d.tk c=true/\F.xc c=true/\d.h.ok F.xt=true/\d.h.kok F.kd=true then d.h.out c s s' else .bad
 | none=>(exs F d.body U0 s0).bind λ c s1=>match c with
  | .ret v=>zr s v s1
  | .next U=>(exs F d.tl U s1).bind λ c s2=>match c with
   | .ret v=>zr s v s2
   | .next _=>zr s .non s2
   | _=>.bad
  | _=>.bad
noncomputable def bx3 (F:Fns)(d:Tf)(l:List D)(s:Sto):R D:=match exs F d.pre (l.map some++aj d.vs none) s with
 | .ok (.next U0) s0=>be7 F d s U0 s0
 | _=>.bad
noncomputable def aa0 (P:Pr):Nat->Fns
 | 0=>⟨λ _ _ _=>.bad,λ _ _ _ _=>.bad,P.con,λ _ _ _=>none,P.xc,P.xt,P.cdc,by1 P⟩
 | n+1=>⟨λ f l s=>match P.df f with
   | some d=>if l.length=d.ps then(exs (aa0 P n) d.body (l.map some++aj d.vs none) s).bind λ c s'=>match c with
     | .ret v=>zr s v s'
     | .next _=>zr s .non s'
     | _=>.bad else .bad
   | none=>match P.tf f with
    | some d=>if l.length=d.ps then bx3 (aa0 P n) d l s else .bad
    | none=>.bad,
  λ id cs l s=>match P.lm id with
   | some d=>if l.length=d.ps/\cs.length=d.cs/\(D.nclL l&&D.nclL cs&&s.all O.ncl)=true then(ev (aa0 P n) d.body (l.map some++cs.map some) s).bind λ v s'=>zr s v s' else .bad
   | none=>.bad,P.con,
  λ f l s=>match P.xf f with
   | some d=>if l.length=d.ps then xB (aa0 P n) d.body (l.map some++aj d.vs none) s else none
   | none=>none,P.xc,P.xt,P.cdc,by1 P⟩
end DV
end
open DV renaming Sto->km,D->ko,Env->kq,ev->ku,R->ky,aa0->kz,subC->kB,LIM->kD,eqv->kE,Fns->kF,tru->kG,Pr->kH,ae0->kI,DEEP->kJ,eqL->kK,rep->kL,kd->kM,qK->kN,ac6->kO,Es->kP,ac8->kQ,O->kS,chk->kT,evs->kU,Ct->kW,xB->kX,Tg->kY,Bi->kZ,aW0->k8,sbd->k9,ao1->la,look->lb,loB->lc,inL->lf,ixn->lh,ad0->li,exs->lj,qA->ln,Hd->lp,E->lq,ay8->lr,af0->ls,ai7->lu,Sq->lv,al0->lw,aK8->lx,aF7->ly,ae1->lz,mk->lA,evI->lB,zr->lC,As->lD,Df->lE,hiB->lF,slM->lG,am4->lH,meth->lI,aq4->lJ,M->lK,bi->lL,Mk->lM,Mt->lN,aC6->lO,COp->lP,pur->lQ,inM->lR,bi1->lS,av3->lT,ae5->lU,bC0->lV,BOp->lX,isK->lY,Ww62->lZ,Ss->l7,bP3->l8,XB->l9,af1->ma,an6->mf,Tf->mn
open DV.D renaming bndL->kr,bnd->kA,hdI->kR
open DV.O renaming bnd->kC
open DV.Hd renaming out->lW
noncomputable section
namespace L2
theorem fb {α:Type}{d:α}{s:km}{p:Prop}(h:(DV.R.bad:ky α)=.ok d s):p:=nomatch h
open PySem PySem.Spec PyProof.Rows
structure LamI where
 qual:Str
 params:dW
 body:Expr
 scope:Scope
 ps:List Str
 fr:List Str
 nm:Option (Str×Pos)
def aw8 (H:Hp)(f:Addr)(J:LamI)(cap:List V)(clos:yB):Prop:=match J.nm with
 | none=>aR3 H f J.qual J.params J.body J.scope J.fr cap clos
 | some p=>aw2 H f p.1 J.qual J.params [.Return (some J.body) p.2] J.scope J.fr cap clos
def az7 (H:Hp)(f:Addr)(J:LamI)(clos:yB):Prop:=match J.nm with
 | none=>∃ pm c' ctv,H f=some (bx9 f (jz "<lambda>" J.qual J.params J.body J.scope clos pm (.ref c') ctv))/\H c'=some (aM3 c' J.qual)
 | some p=>∃ doc pm c' ctv,H f=some (bx9 f (kg p.1 J.qual J.params [.Return (some J.body) p.2] J.scope clos .none .none doc pm none (.ref c') ctv))/\H c'=some (aM3 c' J.qual)
structure Gm where
 K:ac
 fa:String->Option Addr
 lg:String->LamI->Prop
 T:List (Addr×Str)
variable (Γ:Gm)
mutual
noncomputable def RV (C:Nat->Addr)(H:Hp):ko->V->Prop
 | .non,v=>v=.non
 | .bl b,v=>v=.bl b
 | .int i,v=>v=.int i
 | .str x,v=>v=.str ⟨x.toArray⟩/\x.length<=kD
 | .tup l,v=>∃ a xs,v=.ref a/\(SqT Γ.K H a xs/\(kR l=true->H a=some (.tup xs)))/\RVL C H l xs
 | .ref n,v=>v=.ref (C n)
 | .fn f,v=>∃ a,Γ.fa f=some a/\v=.ref a
 | .clo id cs,v=>∃ f cap J clos,v=.ref f/\Γ.lg id J/\aw8 H f J cap clos/\cap.length=J.fr.length/\RVL C H cs cap
noncomputable def RVL (C:Nat->Addr)(H:Hp):List ko->List V->Prop
 | [],xs=>xs=[]
 | d::l,xs=>∃ x r,xs=x::r/\RV C H d x/\RVL C H l r
end
noncomputable def bQ0:HO->Bool
 | .tup _=>true
 | .frz _ _=>true
 | .ext _=>true
 | _=>false
def Kp (H H':Hp):Prop:=∀ b o,H b=some o->bQ0 o=true->H' b=some o
theorem Kp.refl (H:Hp):Kp H H:=λ _ _ h _=>h
theorem Kp.trans {H z F:Hp}(a:Kp H z)(b:Kp z F):Kp H F:=λ c o h f=>b c o (a c o h f) f
theorem Kp.new {H z:Hp}{p:Addr}{o:HO}(a:Kp H z)(h:z p=none):Kp H (upd z p o):=λ c u e f=>by
 have e1:=a c u e f
 rw[zn (zf e1 h)];exact e1
theorem Kp.put {H F:Hp}{p:Addr}{o u:HO}(a:Kp H F)(h:F p=some u)(hu:bQ0 u=false):Kp H (upd F p o):=λ c v e f=>by
 have e1:=a c v e f
 rw[zn (λ z=>by subst z;rw[h]at e1;cases e1;rw[hu]at f;cases f)];exact e1
theorem Kp.sqT {K:ac}{H H':Hp}{a:Addr}{z:List V}(e:Kp H H')(h:SqT K H a z):SqT K H' a z:=by
 rcases h with(h|⟨o,h⟩)|h
 .exact .inl (.inl (e _ _ h rfl))
 .exact .inl (.inr ⟨o,e _ _ h rfl⟩)
 .exact .inr h
theorem aR3.kp {H H':Hp}{f:Addr}{qual:Str}{params:dW}{body:Expr}{scope:Scope}{fr:yH}{cap:List V}{F:yB}(h:aR3 H f qual params body scope fr cap F)(e:Kp H H'):aR3 H' f qual params body scope fr cap F:=by
 obtain⟨J,c',G,h1,h2,Y,h4,h5,h6⟩:=h
 refine⟨J,c',G,e _ _ h1 rfl,e _ _ h2 rfl,λ x c q=>?_,h4,h5,λ i x v a b=>?_⟩
 .obtain⟨o,v,z,d⟩:=Y x c q
  exact⟨o,v,e _ _ z rfl,d⟩
 .obtain⟨c,o,u,z1,z2,Z⟩:=h6 i x v a b
  exact⟨c,o,u,z1,e _ _ z2 rfl,Z⟩
theorem aw2.kp {H H':Hp}{f:Addr}{name qual:Str}{params:dW}{body:yL}{scope:Scope}{fr:yH}{cap:List V}{F:yB}(h:aw2 H f name qual params body scope fr cap F)(e:Kp H H'):aw2 H' f name qual params body scope fr cap F:=by
 obtain⟨J,Y,c',G,h1,h2,Z,h4,h5,h6⟩:=h
 refine⟨J,Y,c',G,e _ _ h1 rfl,e _ _ h2 rfl,λ x c q=>?_,h4,h5,λ i x v a b=>?_⟩
 .obtain⟨o,v,z,d⟩:=Z x c q
  exact⟨o,v,e _ _ z rfl,d⟩
 .obtain⟨c,o,u,z1,z2,z3⟩:=h6 i x v a b
  exact⟨c,o,u,z1,e _ _ z2 rfl,z3⟩
theorem aw8.kp {H H':Hp}{f:Addr}{J:LamI}{cap:List V}{z:yB}(h:aw8 H f J cap z)(e:Kp H H'):aw8 H' f J cap z:=by
 unfold aw8 at h ⊢
 cases q:J.nm with
 | none=>rw[q]at h;exact aR3.kp h e
 | some p=>rw[q]at h;exact aw2.kp h e
theorem az7.kp {H H':Hp}{f:Addr}{J:LamI}{z:yB}(h:az7 H f J z)(e:Kp H H'):az7 H' f J z:=by
 unfold az7 at h ⊢
 cases q:J.nm with
 | none =>
  rw[q]at h
  obtain⟨G,c',F,Z,h2⟩:=h
  exact⟨G,c',F,e _ _ Z rfl,e _ _ h2 rfl⟩
 | some p =>
  rw[q]at h
  obtain⟨Y,G,c',F,Z,h2⟩:=h
  exact⟨Y,G,c',F,e _ _ Z rfl,e _ _ h2 rfl⟩
theorem aw8.fn {K:ac}{H:Hp}{f:Addr}{J:LamI}{cap:List V}{z:yB}(h:aw8 H f J cap z):bP2 K H f:=by
 unfold aw8 at h
 cases q:J.nm with
 | none=>rw[q]at h;obtain⟨Y,Z,F,G,_⟩:=h;exact .inl ⟨_,G⟩
 | some p=>rw[q]at h;exact aw2.fn h
structure Gw (C:Nat->Addr)(n:Nat)(H:Hp)(C':Nat->Addr)(H':Hp):Prop where
 map:∀ i,i<n->C' i=C i
 kp:Kp H H'
variable {Γ:Gm}
mutual
theorem RV.monoW {C C':Nat->Addr}{n:Nat}{H H':Hp}(g:Gw C n H C' H'):∀(d:ko) (v:V),d.bnd n=true->RV Γ C H d v->RV Γ C' H' d v
 | .non,_,_,h=>by unfold RV at h ⊢;exact h
 | .bl _,_,_,h=>by unfold RV at h ⊢;exact h
 | .int _,_,_,h=>by unfold RV at h ⊢;exact h
 | .str _,_,_,h=>by unfold RV at h ⊢;exact h
 | .tup l,_,b,h=>by
  unfold RV at h ⊢
  unfold kA at b
  obtain⟨a,G,e,q,r⟩:=h
  exact⟨a,G,e,⟨g.kp.sqT q.1,λ z=>g.kp _ _ (q.2 z) rfl⟩,RVL.monoW g l G b r⟩
 | .ref k,_,b,h=>by
  unfold RV at h ⊢
  unfold kA at b
  rw[g.map k (of_decide_eq_true b)];exact h
 | .fn _,_,_,h=>by unfold RV at h ⊢;exact h
 | .clo id cs,_,b,h=>by
  unfold RV at h ⊢
  unfold kA at b
  obtain⟨f,cap,J,F,e,Z,h2,Y,h4⟩:=h
  exact⟨f,cap,J,F,e,Z,h2.kp g.kp,Y,RVL.monoW g cs cap b h4⟩
theorem RVL.monoW {C C':Nat->Addr}{n:Nat}{H H':Hp}(g:Gw C n H C' H'):∀(l:List ko) (z:List V),kr n l=true->RVL Γ C H l z->RVL Γ C' H' l z
 | [],_,_,h=>by unfold RVL at h ⊢;exact h
 | d::l,_,b,h=>by
  unfold RVL at h ⊢
  unfold kr at b
  rw[am]at b
  obtain⟨x,r,e,q,t⟩:=h
  exact⟨x,r,e,RV.monoW g d x b.1 q,RVL.monoW g l r b.2 t⟩
end
mutual
theorem zp {n m:Nat}(h:n<=m):∀ d:ko,d.bnd n=true->d.bnd m=true
 | .non,_=>rfl
 | .bl _,_=>rfl
 | .int _,_=>rfl
 | .str _,_=>rfl
 | .tup l,b=>by unfold kA at b ⊢;exact ab9 h l b
 | .ref k,b=>by unfold kA at b ⊢;exact decide_eq_true (aG (of_decide_eq_true b) h)
 | .fn _,_=>rfl
 | .clo _ l,b=>by unfold kA at b ⊢;exact ab9 h l b
theorem ab9 {n m:Nat}(h:n<=m):∀ l:List ko,kr n l=true->kr m l=true
 | [],_=>rfl
 | d::l,b=>by
  unfold kr at b ⊢
  rw[am]at b ⊢
  exact⟨zp h d b.1,ab9 h l b.2⟩
end
theorem ab6 {n:Nat}:∀ {l:List ko},kr n l=true↔∀ d∈l,d.bnd n=true
 | []=>by unfold kr;simp
 | d::l=>by
  unfold kr
  rw[am,ab6 (l:=l)]
  simp
theorem zT {n:Nat}{l m:List ko}(h:kr n l=true)(h':kr n m=true):kr n (l++m)=true :=
 ab6.mpr λ d hd=>(cf.mp hd).elim (ab6.mp h d) (ab6.mp h' d)
theorem au3 {n:Nat}{l m:List ko}(h:kr n l=true)(s:∀ d∈m,d∈l):kr n m=true:=ab6.mpr λ d hd=>ab6.mp h d (s d hd)
theorem ag5 {n:Nat}{l:List ko}{i:Nat}{d:ko}(h:kr n l=true)(e:l[i]?=some d):d.bnd n=true:=ab6.mp h d (bS e)
section
variable {C:Nat->Addr} {H:Hp}
theorem RVL.nil:RVL Γ C H [] []:=by unfold RVL;rfl
theorem RVL.cons {d:ko}{l:List ko}{x:V}{z:List V}(a:RV Γ C H d x)(b:RVL Γ C H l z):RVL Γ C H (d::l) (x::z):=by unfold RVL;exact⟨x,z,rfl,a,b⟩
theorem RVL.unnil {z:List V}(h:RVL Γ C H [] z):z=[]:=by unfold RVL at h;exact h
theorem RVL.uncons {d:ko}{l:List ko}{z:List V}(h:RVL Γ C H (d::l) z):∃ x r,z=x::r/\RV Γ C H d x/\RVL Γ C H l r:=by unfold RVL at h;exact h
theorem RVL.length:∀ {l:List ko} {z:List V},RVL Γ C H l z->z.length=l.length
 | [],_,h=>by rw[h.unnil];rfl
 | d::l,_,h=>by
  obtain⟨x,r,rfl,_,t⟩:=h.uncons
  rw[aA,aA,RVL.length t]
theorem RVL.get:∀ {l:List ko} {z:List V} {i:Nat} {d:ko},RVL Γ C H l z->l[i]?=some d->∃ x,z[i]?=some x/\RV Γ C H d x
 | [],_,_,_,_,e=>by simp at e
 | d::l,_,0,d',h,e=>by
  obtain⟨x,r,rfl,q,t⟩:=h.uncons
  have e':d=d':=by simpa using e
  subst e'
  exact⟨x,rfl,q⟩
 | d::l,_,i+1,_,h,e=>by
  obtain⟨x,r,rfl,q,t⟩:=h.uncons
  obtain⟨y,e1,e2⟩:=RVL.get (i:=i) t (by simpa using e)
  exact⟨y,by simpa using e1,e2⟩
theorem RVL.append:∀ {l m:List ko} {z ys:List V},RVL Γ C H l z->RVL Γ C H m ys->RVL Γ C H (l++m) (z++ys)
 | [],_,_,_,h,h'=>by rw[h.unnil];exact h'
 | d::l,_,_,_,h,h'=>by
  obtain⟨x,r,rfl,q,t⟩:=h.uncons
  exact .cons q (RVL.append t h')
theorem RVL.drop:∀ {l:List ko} {z:List V} (n:Nat),RVL Γ C H l z->RVL Γ C H (l.drop n) (z.drop n)
 | _,_,0,h=>h
 | [],_,n+1,h=>by rw[h.unnil];exact .nil
 | d::l,_,n+1,h=>by
  obtain⟨x,r,rfl,q,t⟩:=h.uncons
  exact RVL.drop n t
theorem RVL.take:∀ {l:List ko} {z:List V} (n:Nat),RVL Γ C H l z->RVL Γ C H (l.take n) (z.take n)
 | _,_,0,h=>.nil
 | [],_,n+1,h=>by rw[h.unnil];exact .nil
 | d::l,_,n+1,h=>by
  obtain⟨x,r,rfl,q,t⟩:=h.uncons
  exact .cons q (RVL.take n t)
theorem RVL.set:∀ {l:List ko} {z:List V} {d:ko} {x:V} (i:Nat),RVL Γ C H l z->RV Γ C H d x->RVL Γ C H (l.set i d) (z.set i x)
 | [],_,_,_,_,h,_=>by rw[h.unnil];exact .nil
 | d::l,_,_,_,0,h,q=>by
  obtain⟨x,r,rfl,_,t⟩:=h.uncons
  exact .cons q t
 | d::l,_,_,_,i+1,h,q=>by
  obtain⟨x,r,rfl,F,t⟩:=h.uncons
  exact .cons F (RVL.set i t q)
theorem RVL.reverse:∀ {l:List ko} {z:List V},RVL Γ C H l z->RVL Γ C H l.reverse z.reverse
 | [],_,h=>by rw[h.unnil];exact .nil
 | d::l,_,h=>by
  obtain⟨x,r,rfl,q,t⟩:=h.uncons
  rw[bI,bI]
  exact(RVL.reverse t).append (.cons q .nil)
theorem RV.intE {i:Int}{v:V}(h:RV Γ C H (.int i) v):v=.int i:=by unfold RV at h;exact h
theorem RV.blE {i:Bool}{v:V}(h:RV Γ C H (.bl i) v):v=.bl i:=by unfold RV at h;exact h
theorem RV.nonE {v:V}(h:RV Γ C H .non v):v=.non:=by unfold RV at h;exact h
theorem RV.strE {x:List Nat}{v:V}(h:RV Γ C H (.str x) v):v=.str ⟨x.toArray⟩:=by unfold RV at h;exact h.1
theorem RV.strL {x:List Nat}{v:V}(h:RV Γ C H (.str x) v):x.length<=kD:=by unfold RV at h;exact h.2
theorem RV.tupE {l:List ko}{v:V}(h:RV Γ C H (.tup l) v):∃ a z,v=.ref a/\SqT Γ.K H a z/\RVL Γ C H l z:=by unfold RV at h;obtain⟨a,z,e,q,r⟩:=h;exact⟨a,z,e,q.1,r⟩
theorem RV.tupZ {l:List ko}{v:V}(h:RV Γ C H (.tup l) v):∃ a z,(v=.ref a/\(kR l=true->H a=some (.tup z)))/\SqT Γ.K H a z/\RVL Γ C H l z:=by unfold RV at h;obtain⟨a,z,e,q,r⟩:=h;exact⟨a,z,⟨e,q.2⟩,q.1,r⟩
theorem RVL.tonil {l:List ko}(h:RVL Γ C H l []):l=[]:=cP.mp h.length.symm
theorem RV.refE {n:Nat}{v:V}(h:RV Γ C H (.ref n) v):v=.ref (C n):=by unfold RV at h;exact h
theorem RV.intI {i:Int}:RV Γ C H (.int i) (.int i):=by unfold RV;rfl
theorem RV.blI {i:Bool}:RV Γ C H (.bl i) (.bl i):=by unfold RV;rfl
theorem RV.nonI:RV Γ C H .non .non:=by unfold RV;rfl
theorem RV.strI {x:List Nat}(h:x.length<=kD):RV Γ C H (.str x) (.str ⟨x.toArray⟩):=by unfold RV;exact⟨rfl,h⟩
theorem RV.tupI {l:List ko}{a:Addr}{z:List V}(h:H a=some (.tup z))(q:RVL Γ C H l z):RV Γ C H (.tup l) (.ref a):=by unfold RV;exact⟨a,z,rfl,⟨SqT.of h,λ _=>h⟩,q⟩
theorem RV.tupC {l:List ko}{a:Addr}{F:List V}(h:SqT Γ.K H a F)(z:kR l=true->H a=some (.tup F))(q:RVL Γ C H l F):RV Γ C H (.tup l) (.ref a):=by unfold RV;exact⟨a,F,rfl,⟨h,z⟩,q⟩
theorem RV.refI {n:Nat}:RV Γ C H (.ref n) (.ref (C n)):=by unfold RV;rfl
end
theorem bo3 {n:Nat}{l:List ko}(h:kR (k8 n l)=true):kR l=true:=by
 cases n with
 | zero=>cases h
 | succ n =>
  cases l with
  | nil => 
   have:∀ k,k8 k ([]:List ko)=[]:=λ k=>by
    induction k with
    | zero=>rfl
    | succ k ih=>show[]++k8 k []=[];rw[ih];rfl
   rw[this]at h;cases h
  | cons a l =>
   have e:k8 (n+1) (a::l)=a::(l++k8 n (a::l)):=rfl
   rw[e]at h
   cases a with
   | int _=>rfl
   | non=>rfl
   | tup _=>rfl
   | _=>cases h
theorem aQ1 {α:Type}{l:List α}{F G:Option Int}(h:(kQ l F G).length=l.length):kQ l F G=l:=by
 unfold kQ at h ⊢
 rw[bE,bV]at h
 by_cases z:l=[]
 .subst z;simp
 .have hp:=gM.mpr z
  have e1:lc l.length F=0:=by omega
  rw[e1]at h ⊢
  rw[e9]
  exact cW (by omega)
def SqF (K:ac)(H:Hp)(a:Addr)(xs:List V):Prop:=SqL K H a xs/\∀ H',Kp H H'->SqL K H' a xs
noncomputable def RVD {κ:Type}(kf:ko->Option κ)(Γ:Gm)(C:Nat->Addr)(H:Hp):List (ko×ko)->List (κ×V)->Prop
 | [],kvs=>kvs=[]
 | (d,e)::l,kvs=>∃ k v r,kvs=(k,v)::r/\kf d=some k/\RV Γ C H e v/\RVD kf Γ C H l r
variable (Γ)
noncomputable def RO (C:Nat->Addr)(H:Hp)(a:Addr):kS->Prop
 | .lst l=>∃ xs,H a=some (.lst xs)/\RVL Γ C H l xs
 | .ro l=>∃ xs,SqF Γ.K H a xs/\RVL Γ C H l xs
 | .ins _ _=>False
noncomputable abbrev okd:kS->Nat:=DV.O.kd
noncomputable def isMut:kS->Bool
 | .ro _=>false
 | _=>true
structure Rp (C:Nat->Addr)(H:Hp)(s:km):Prop where
 inj:∀(i j:Nat) (o o':kS),s[i]?=some o->s[j]?=some o'->isMut o=true->isMut o'=true->C i=C j->i=j
 obj:∀(i:Nat) (o:kS),s[i]?=some o->RO Γ C H (C i) o
 wf:∀(i:Nat) (o:kS),s[i]?=some o->o.bnd s.length=true
 tab:TabsH Γ.T H
structure RE (C:Nat->Addr)(H:Hp)(n:Nat)(U:kq)(W:St):Prop where
 len:U.length=W.length
 val:∀(i:Nat) (d:ko),U[i]?=some (some d)->d.bnd n=true/\∃ v,W[i]?=some (some v)/\RV Γ C H d v
structure Gr (C:Nat->Addr)(s:km)(H:Hp)(C':Nat->Addr)(s':km)(H':Hp):Prop where
 w:Gw C s.length H C' H'
 le:s.length<=s'.length
 new:∀ i:Nat,s.length<=i->i<s'.length->H (C' i)=none
 kd:∀(i:Nat) (o o':kS),s[i]?=some o->s'[i]?=some o'->okd o'=okd o
 st:∀ b,H b≠none->H' b≠none
 fr:∀ b o,H b=some o->(∀ ps,o≠.tbl ps)->(∀(i:Nat) (ob:kS),s[i]?=some ob->isMut ob=true->C i≠b)->H' b=some o
variable {Γ}
theorem bs0 {o z:kS}(h:okd z=okd o)(m:isMut z=true):isMut o=true:=by
 cases o with
 | ro _=>cases z with
  | ro _=>cases m
  | _=>cases h
 | _=>rfl
theorem Gr.mu {C C':Nat->Addr}{s s':km}{H H':Hp}(g:Gr C s H C' s' H')(i:Nat)(o z:kS)(e:s[i]?=some o)(e':s'[i]?=some z)(m:isMut z=true):isMut o=true:=bs0 (g.kd i o z e e') m
theorem Gr.refl (C:Nat->Addr)(s:km)(H:Hp):Gr C s H C s H:=⟨⟨λ _ _=>rfl,Kp.refl H⟩,ao _,λ i G z=>absurd z (by omega),λ i o F e e'=>by rw[e]at e';cases e';rfl,λ _ h=>h,λ _ _ h _ _=>h⟩
theorem Gr.trans {C C1 C2:Nat->Addr}{s s1 s2:km}{H Z H2:Hp}(a:Gr C s H C1 s1 Z)(b:Gr C1 s1 Z C2 s2 H2)(_h:s.length<=s1.length):Gr C s H C2 s2 H2:=by
 refine⟨⟨λ i F=>(b.w.map i (aG F a.le)).trans (a.w.map i F),a.w.kp.trans b.w.kp⟩,al a.le b.le,λ i h1 h2=>?_,λ i o o' e e'=>?_,λ c h=>b.st c (a.st c h),λ c o h nt ne=>?_⟩
 .by_cases F:i<s1.length
  .rw[b.w.map i F];exact a.new i h1 F
  .have e:=b.new i (by omega) h2
   cases q:H (C2 i)with
   | none=>rfl
   | some o=>exact absurd e (a.st _ (by rw[q];simp))
 .have hl:i<s1.length:=aG (af.mp e).1 a.le
  obtain⟨J,e1⟩:∃ J,s1[i]?=some J:=⟨s1[i],ag hl⟩
  exact(b.kd i J o' e1 e').trans (a.kd i o J e e1)
 .refine b.fr c o (a.fr c o h nt ne) nt λ i ob e m z=>?_
  by_cases F:i<s.length
  .obtain⟨G,Y⟩:∃ G,s[i]?=some G:=⟨s[i],ag F⟩
   exact ne i G Y (a.mu i G ob Y e m) (by rw[<-a.w.map i F];exact z)
  .have:=a.new i (by omega) (af.mp e).1
   rw[z,h]at this;cases this
theorem RV.mono {C C':Nat->Addr}{s s':km}{H H':Hp}(g:Gr C s H C' s' H')(d:ko)(v:V)(b:d.bnd s.length=true)(h:RV Γ C H d v):RV Γ C' H' d v:=RV.monoW g.w d v b h
theorem RVL.mono {C C':Nat->Addr}{s s':km}{H H':Hp}(g:Gr C s H C' s' H')(d:List ko)(v:List V)(b:kr s.length d=true)(h:RVL Γ C H d v):RVL Γ C' H' d v:=RVL.monoW g.w d v b h
theorem RE.mono {C C':Nat->Addr}{s s':km}{H H':Hp}{U:kq}{W:St}(h:RE Γ C H s.length U W)(g:Gr C s H C' s' H')(hn:s.length<=s'.length):RE Γ C' H' s'.length U W :=
 ⟨h.len,λ i d e=>by
  obtain⟨b,v,e1,e2⟩:=h.val i d e
  exact⟨zp hn d b,v,e1,RV.mono g d v b e2⟩⟩
def ae6 (Γ:Gm)(C:Nat->Addr)(s:km)(H:Hp)(d:ko)(s':km)(Q:VK):Prop :=
 ∀ v C' H',Gr C s H C' s' H'->s.length<=s'.length->d.bnd s'.length=true->RV Γ C' H' d v->Rp Γ C' H' s'->Q v H'
theorem ae6.trans {C C1:Nat->Addr}{s s1 s':km}{H z:Hp}{d:ko}{Q:VK}(h:ae6 Γ C s H d s' Q)(g:Gr C s H C1 s1 z)(l:s.length<=s1.length):ae6 Γ C1 s1 z d s' Q :=
 λ v C' H' g' F b r p=>h v C' H' (g.trans g' l) (al l F) b r p
theorem ae6.here {C:Nat->Addr}{s:km}{H:Hp}{d:ko}{Q:VK}{v:V}(h:ae6 Γ C s H d s Q)(p:Rp Γ C H s)(b:d.bnd s.length=true)(r:RV Γ C H d v):Q v H :=
 h v C H (Gr.refl C s H) (ao _) b r p
theorem RVD.monoW {κ:Type}{z:ko->Option κ}{C C':Nat->Addr}{n:Nat}{H H':Hp}(g:Gw C n H C' H'):∀(l:List (ko×ko)) (kvs:List (κ×V)),kr n (l.map (·.2))=true->RVD z Γ C H l kvs->RVD z Γ C' H' l kvs
 | [],_,_,h=>h
 | (d,e)::l,_,b,h=>by
  obtain⟨k,v,r,e1,e2,F,G⟩:=h
  rw[bz]at b
  unfold kr at b
  rw[am]at b
  exact⟨k,v,r,e1,e2,RV.monoW g e v b.1 F,RVD.monoW g l r b.2 G⟩
theorem RO.mono {C C':Nat->Addr}{n:Nat}{H H':Hp}{a:Addr}{o:kS}(h:RO Γ C H a o)(g:Gw C n H C' H')(b:o.bnd n=true)(hl:isMut o=true->∀ u,H a=some u->H' a=some u):RO Γ C' H' a o:=by
 cases o with
 | lst l =>
  unfold kC at b
  obtain⟨z,e,r⟩:=h
  exact⟨z,hl rfl _ e,RVL.monoW g l z b r⟩
 | ro l =>
  unfold kC at b
  obtain⟨z,e,r⟩:=h
  exact⟨z,⟨e.2 _ g.kp,λ F k=>e.2 _ (g.kp.trans k)⟩,RVL.monoW g l z b r⟩
 | ins _ _=>exact h.elim
theorem RO.there {C:Nat->Addr}{H:Hp}{a:Addr}{o:kS}(h:RO Γ C H a o)(m:isMut o=true):∃ u,H a=some u/\bQ0 u=false/\∀ ps,u≠.tbl ps:=by
 cases o with
 | lst l=>obtain⟨z,e,_⟩:=h;exact⟨_,e,rfl,by nofun⟩
 | ro l=>cases m
 | ins _ _=>exact h.elim
theorem Rp.addr {C:Nat->Addr}{H:Hp}{s:km}(p:Rp Γ C H s){i:Nat}{l:List ko}(e:s[i]?=some (.lst l)):∃ z,H (C i)=some (.lst z)/\RVL Γ C H l z:=p.obj i _ e
theorem zQ {n m:Nat}(h:n<=m)(o:kS)(b:o.bnd n=true):o.bnd m=true:=by
 cases o with
 | lst l=>unfold kC at b ⊢;exact ab9 h l b
 | ro l=>unfold kC at b ⊢;exact ab9 h l b
 | ins c l=>unfold kC at b ⊢;exact ab9 h _ b
theorem TabsH.keepF {T:List (Addr×Str)}{H H':Hp}(h:TabsH T H)(k:∀ b o,(bQ0 o=true\/∃ ps,o=.tbl ps)->H b=some o->H' b=some o):TabsH T H':=λ y hy=>by
 obtain⟨ps,e,t,c⟩:=h y hy
 refine⟨ps,k _ _ (.inr ⟨_,rfl⟩) e,t,λ pos z q=>?_⟩
 obtain⟨F,e1,e2⟩:=c pos z q
 exact⟨F,e1,k _ _ (.inl rfl) e2⟩
theorem Rp.new {C:Nat->Addr}{H:Hp}{s:km}{p:Addr}{u:HO}{o:kS}(r:Rp Γ C H s)(hp:H p=none)(hb:o.bnd s.length=true)
  (ho:∀ C' H',Gw C s.length H C' H'->H' p=some u->RO Γ C' H' p o):Gr C s H (λ i=>if i=s.length then p else C i) (s++[o]) (upd H p u)/\Rp Γ (λ i=>if i=s.length then p else C i) (upd H p u) (s++[o]):=by
 have g:Gw C s.length H (λ i=>if i=s.length then p else C i) (upd H p u):=⟨λ i z=>if_neg (aE z),(Kp.refl H).new hp⟩
 have key:∀ i F,(s++[o])[i]?=some F->(i<s.length/\s[i]?=some F)\/(i=s.length/\F=o):=λ i F e=>by
  rcases fq i s.length with h|h|h
  .rw[aS h]at e;exact .inl ⟨h,e⟩
  .subst h;simp at e;exact .inr ⟨rfl,e.symm⟩
  .rw[c8 (by simp;omega)]at e;cases e
 refine⟨⟨g,by simp,λ i h1 h2=>?_,λ i o1 o2 e1 e2=>?_,λ b hb=>?_,λ b ob hb _ _=>by rw[zn (zf hb hp)];exact hb⟩,λ i j J Y G ej Z mj e=>?_,λ i F e=>?_,λ i F e=>?_,r.tab.new hp⟩
 .rw[au,bn]at h2
  rw[if_pos (by omega)];exact hp
 .rcases key i o2 e2 with⟨_,e⟩|⟨z,_⟩
  .rw[e1]at e;cases e;rfl
  .have:=(af.mp e1).1;omega
 .unfold upd;split
  .simp
  .exact hb
 .rcases key i J G with⟨z,G⟩|⟨z,rfl⟩<;>rcases key j Y ej with⟨hj,ej⟩|⟨hj,ej'⟩
  .rw[if_neg (aE z),if_neg (aE hj)]at e
   exact r.inj i j J Y G ej Z mj e
  .rw[if_neg (aE z),if_pos hj]at e
   obtain⟨u,hu,_,_⟩:=(r.obj i J G).there Z
   rw[e,hp]at hu;cases hu
  .rw[if_neg (aE hj),if_pos z]at e
   obtain⟨u,hu,_,_⟩:=(r.obj j Y ej).there mj
   rw[<-e,hp]at hu;cases hu
  .rw[z,hj]
 .rcases key i F e with⟨z,e⟩|⟨z,rfl⟩
  .show RO Γ _ _ (if i=s.length then p else C i) F
   rw[if_neg (aE z)]
   exact(r.obj i F e).mono g (r.wf i F e) λ _ v hv=>by rw[zn (zf hv hp)];exact hv
  .show RO Γ _ _ (if i=s.length then p else C i) F
   rw[if_pos z]
   exact ho _ _ g zo
 .rw[au,bn]
  rcases key i F e with⟨z,e⟩|⟨z,rfl⟩
  .exact zQ (d9 _) _ (r.wf i F e)
  .exact zQ (d9 _) _ hb
theorem Rp.set {C:Nat->Addr}{H:Hp}{s:km}{k:Nat}{u:HO}{o G:kS}(r:Rp Γ C H s)(hk:s[k]?=some G)(Z:isMut G=true)(hb:o.bnd s.length=true)
  (ho:∀ H',Gw C s.length H C H'->H' (C k)=some u->RO Γ C H' (C k) o) (a1:okd o=okd G:=by rfl):Gr C s H C (s.set k o) (upd H (C k) u)/\Rp Γ C (upd H (C k) u) (s.set k o):=by
 obtain⟨v0,Y,f0,a0⟩:=(r.obj k G hk).there Z
 have a2:k<s.length:=(af.mp hk).1
 have g:Gw C s.length H C (upd H (C k) u):=⟨λ _ _=>rfl,(Kp.refl H).put Y f0⟩
 have key:∀ i F,(s.set k o)[i]?=some F->(i≠k/\s[i]?=some F)\/(i=k/\F=o):=λ i F e=>by
  by_cases h:i=k
  .subst h;rw[aR a2]at e;exact .inr ⟨rfl,(ay e).symm⟩
  .rw[aU (dq h)]at e;exact .inl ⟨h,e⟩
 have mm:∀ i F,(s.set k o)[i]?=some F->isMut F=true->∃ J,s[i]?=some J/\isMut J=true:=λ i F e m=>by
  rcases key i F e with⟨_,e⟩|⟨h,_⟩
  .exact⟨F,e,m⟩
  .exact⟨G,by rw[h];exact hk,Z⟩
 refine⟨⟨g,by simp,λ i h1 h2=>by rw[br]at h2;omega,λ i o1 o2 e1 e2=>?_,λ b hb=>?_,λ b ob hb nt ne=>by rw[zn (dq (ne k G hk Z))];exact hb⟩,λ i j oi oj ei ej mi mj e=>?_,λ i F e=>?_,λ i F e=>?_,r.tab.keepF λ b v hv q=>?_⟩
 .rcases key i o2 e2 with⟨_,e⟩|⟨h,rfl⟩
  .rw[e1]at e;cases e;rfl
  .subst h;rw[hk]at e1;cases e1;exact a1
 .unfold upd;split
  .simp
  .exact hb
 .obtain⟨o1,e1,m1⟩:=mm i oi ei mi
  obtain⟨o2,e2,m2⟩:=mm j oj ej mj
  exact r.inj i j o1 o2 e1 e2 m1 m2 e
 .rcases key i F e with⟨h,e⟩|⟨h,rfl⟩
  .refine(r.obj i F e).mono g (r.wf i F e) λ m v hv=>?_
   rw[zn λ z=>h (r.inj i k F G e hk m Z z)];exact hv
  .subst h
   exact ho _ g zo
 .rw[br]
  rcases key i F e with⟨_,e⟩|⟨_,rfl⟩
  .exact r.wf i F e
  .exact hb
 .rw[zn λ z=>by
   subst z;rw[Y]at q;cases q
   rcases hv with h|⟨ps,h⟩
   .rw[f0]at h;cases h
   .exact a0 _ h]
  exact q
theorem Rp.same {C:Nat->Addr}{H H':Hp}{s:km}(r:Rp Γ C H s)(e:ad3 H H'):Gr C s H C s H'/\Rp Γ C H' s:=by
 have g:Gw C s.length H C H':=⟨λ _ _=>rfl,λ b o h _=>e b o h⟩
 exact⟨⟨g,ao _,λ i G z=>absurd z (by omega),λ i o F e e'=>by rw[e]at e';cases e';rfl,λ b hb=>by
  cases q:H b with
  | none=>exact absurd q hb
  | some o=>rw[e b o q];simp,λ b o h _ _=>e b o h⟩,r.inj,λ i o h=>(r.obj i o h).mono g (r.wf i o h) λ _ u hu=>e _ u hu,r.wf,r.tab.same e⟩
section
variable {C:Nat->Addr} {H:Hp} {s:km} {Q:VK}
theorem ae6.alloc {l:List ko}{z:List V}(h:ae6 Γ C s H (.ref s.length) (s++[.lst l]) Q)(r:Rp Γ C H s)(hl:RVL Γ C H l z)(hb:kr s.length l=true){p:Addr}(hp:H p=none):Q (.ref p) (upd H p (.lst z)):=by
 obtain⟨g,F⟩:=r.new (o:=.lst l) (u:=.lst z) hp hb λ C' H' g e=>⟨z,e,RVL.monoW g l z hb hl⟩
 have:=h (.ref p) _ _ g (by simp) (by unfold kA;simp) (by unfold RV;simp) F
 exact this
theorem ae6.tup {l:List ko}{z:List V}(h:ae6 Γ C s H (.tup l) s Q)(r:Rp Γ C H s)(hl:RVL Γ C H l z)(hb:kr s.length l=true){p:Addr}(hp:H p=none):Q (.ref p) (upd H p (.tup z)):=by
 obtain⟨g,F⟩:=r.same (H':=upd H p (.tup z)) ((ad3.refl H).new hp)
 exact h _ _ _ g (ao _) (by unfold kA;exact hb) (RV.tupI zo (RVL.mono g l z hb hl)) F
theorem ae6.put {k:Nat}{l l0:List ko}{z:List V}{d:ko}{v:V}(h:ae6 Γ C s H d (s.set k (.lst l)) Q)(r:Rp Γ C H s)(hk:s[k]?=some (.lst l0))(hl:RVL Γ C H l z)(hb:kr s.length l=true)
  (hd:d.bnd s.length=true) (hv:RV Γ C H d v):Q v (upd H (C k) (.lst z)):=by
 obtain⟨g,F⟩:=r.set (o:=.lst l) (u:=.lst z) hk rfl hb λ H' g e=>⟨z,e,RVL.monoW g l z hb hl⟩
 exact h _ _ _ g (by simp) (by rw[br];exact hd) (RV.mono g d v hd hv) F
end
variable {Γ:Gm}
def bP9 {κ:Type}(kf:ko->Option κ):Prop:=∀ {a b:ko} {k:κ},kf a=some k->kf b=some k->a=b
section
variable {κ:Type} [DecidableEq κ] {kf:ko->Option κ}
theorem RVD.val {C:Nat->Addr}{H:Hp}{d:ko}{k:κ}(G:bP9 kf)(hk:kf d=some k):∀ {l:List (ko×ko)} {kvs:List (κ×V)},RVD kf Γ C H l kvs->(lb d l=none/\bh1 kvs k=none)\/∃ e v,lb d l=some e/\bh1 kvs k=some v/\RV Γ C H e v/\e∈l.map (·.2)
 | [],kvs,h=>by
  have h:kvs=[]:=h
  subst h
  exact .inl ⟨rfl,rfl⟩
 | (a,e)::l,kvs,h=>by
  obtain⟨F,v,r,rfl,e2,e3,e4⟩:=h
  by_cases z:a=d
  .subst z
   rw[hk]at e2;cases e2
   exact .inr ⟨e,v,by unfold lb;rw[if_pos rfl],au8 rfl,e3,by simp⟩
  .have zk:¬ F=k:=λ q=>z (G e2 (by rw[q];exact hk))
   have Z:lb d ((a,e)::l)=lb d l:=by
    conv=>lhs;unfold lb
    rw[if_neg z]
   rw[Z,ar9 (show ¬(F,v).1=k from zk)]
   rcases RVD.val G hk e4 with q|⟨e',v',Y,q2,q3,J⟩
   .exact .inl q
   .exact .inr ⟨e',v',Y,q2,q3,by simp at J ⊢;exact .inr J⟩
theorem RVD.repl {C:Nat->Addr}{H:Hp}{d e:ko}{k:κ}{v:V}(F:bP9 kf)(hk:kf d=some k)(hv:RV Γ C H e v):∀ {l:List (ko×ko)} {kvs:List (κ×V)},RVD kf Γ C H l kvs->RVD kf Γ C H (l.map λ p=>if p.1=d then(p.1,e)else p) (kvs.map λ G=>if G.1=k then(G.1,v)else G)
 | [],kvs,h=>by
  have h:kvs=[]:=h
  subst h;exact(rfl:([]:List (κ×V))=[])
 | (a,e0)::l,kvs,h=>by
  obtain⟨Y,v0,r,rfl,e2,Z,J⟩:=h
  rw[bz,bz]
  by_cases z:a=d
  .subst z
   rw[hk]at e2;cases e2
   rw[if_pos rfl,if_pos rfl]
   exact⟨k,v,_,rfl,hk,hv,RVD.repl F hk hv J⟩
  .have zk:¬ Y=k:=λ q=>z (F e2 (by rw[q];exact hk))
   rw[if_neg z,if_neg zk]
   exact⟨Y,v0,_,rfl,e2,Z,RVD.repl F hk hv J⟩
theorem RVD.snoc {C:Nat->Addr}{H:Hp}{d e:ko}{k:κ}{v:V}(F:bP9 kf)(hk:kf d=some k)(hv:RV Γ C H e v):∀ {l:List (ko×ko)} {kvs:List (κ×V)},RVD kf Γ C H l kvs->RVD kf Γ C H (l++[(d,e)]) (kvs++[(k,v)])
 | [],kvs,h=>by
  have h:kvs=[]:=h
  subst h;exact⟨k,v,[],rfl,hk,hv,rfl⟩
 | (a,e0)::l,kvs,h=>by
  obtain⟨J,v0,r,rfl,e2,z,G⟩:=h
  exact⟨J,v0,_,rfl,e2,z,RVD.snoc F hk hv G⟩
theorem RVD.put {C:Nat->Addr}{H:Hp}{d e:ko}{k:κ}{v:V}{l:List (ko×ko)}{kvs:List (κ×V)}(z:bP9 kf)(hk:kf d=some k)(hv:RV Γ C H e v)(h:RVD kf Γ C H l kvs):RVD kf Γ C H (DV.ca3 d e l) (bO5 kvs k v):=by
 unfold DV.ca3 bO5
 rw[aH3]
 rcases h.val z hk with⟨F,q2⟩|⟨e',v',F,q2,_⟩
 .rw[F,q2];exact h.snoc z hk hv
 .rw[F,q2];exact h.repl z hk hv
theorem RVD.get {C:Nat->Addr}{H:Hp}:∀ {l:List (ko×ko)} {kvs:List (κ×V)} {i:Nat} {d e:ko},RVD kf Γ C H l kvs->l[i]?=some (d,e)->∃ k v,kvs[i]?=some (k,v)/\kf d=some k/\RV Γ C H e v
 | [],_,_,_,_,_,h=>by cases h
 | (a,b)::l,kvs,0,d,e,h,q=>by
  obtain⟨k,v,r,rfl,e2,z,F⟩:=h
  cases q
  exact⟨k,v,rfl,e2,z⟩
 | (a,b)::l,kvs,i+1,d,e,h,q=>by
  obtain⟨k,v,r,rfl,e2,z,F⟩:=h
  exact RVD.get (i:=i) F (show l[i]?=some (d,e)from q)
theorem RVD.length {C:Nat->Addr}{H:Hp}:∀ {l:List (ko×ko)} {kvs:List (κ×V)},RVD kf Γ C H l kvs->kvs.length=l.length
 | [],kvs,h=>by
  have h:kvs=[]:=h
  subst h;rfl
 | (a,e)::l,kvs,h=>by
  obtain⟨G,v,r,rfl,e2,F,z⟩:=h
  rw[aA,aA,RVD.length z]
end
theorem aj7 {f:ko->ko->Option Bool}{a b:ko}{l m:List ko}{z:Bool}(h:kK f (a::l) (b::m)=some z):∃ x y,f a b=some x/\kK f l m=some y/\z=(x&&y):=by
 unfold kK at h
 cases e1:f a b with
 | none=>rw[e1]at h;cases h
 | some x =>
  cases e2:kK f l m with
  | none=>rw[e1,e2]at h;cases h
  | some y=>rw[e1,e2]at h;exact⟨x,y,rfl,rfl,(ay h).symm⟩
theorem aQ4 {f:ko->ko->Option Bool}:∀ {l m:List ko} {z:Bool},kK f l m=some z->∃ e:Nat->Bool,(∀ j d d',l[j]?=some d->m[j]?=some d'->f d d'=some (e j))/\((l.length==m.length)&&(bB (min l.length m.length)).all e)=z
 | [],[],z,h=>by
  unfold kK at h
  cases h
  exact⟨λ _=>true,λ j d d' h=>by simp at h,by simp⟩
 | [],b::m,z,h=>by
  unfold kK at h
  cases h
  exact⟨λ _=>true,λ j d d' h=>by simp at h,by simp⟩
 | a::l,[],z,h=>by
  unfold kK at h
  cases h
  exact⟨λ _=>true,λ j d d' J G=>by simp at G,by simp⟩
 | a::l,b::m,z,h=>by
  obtain⟨x,y,e1,e2,Y⟩:=aj7 h
  obtain⟨e,J,G⟩:=aQ4 e2
  refine⟨λ j=>match j with|0=>x|j+1=>e j,λ j d d' g1 F=>?_,?_⟩
  .cases j with
   | zero=>simp at g1 F;subst g1;subst F;exact e1
   | succ j=>exact J j d d' (by simpa using g1) (by simpa using F)
  .rw[aA,aA,show min (l.length+1) (m.length+1)=min l.length m.length+1 by omega,List.range_succ_eq_map,d6,List.all_map,Y,<-G]
   have:((l.length+1==m.length+1)=(l.length==m.length)):=by
    by_cases q:l.length=m.length
    .simp[q]
    .have:¬ l.length+1=m.length+1:=by omega
     simp[q]
   rw[this]
   show((l.length==m.length)&&(x&&(bB _).all e))=_
   cases x<;>cases(l.length==m.length)<;>simp
section
variable {X:Cx} {pins:yA} {W:St} {H:Hp} {sh:ae} {C:Nat->Addr} {s:km}
theorem an5 (I:Inv X pins W H sh){a:Addr}{F ys:List V}(h:H a=some (.lst F))(h':SqT X.K H a ys):False:=by
 rcases h' with(z|⟨o,z⟩)|⟨o,its,n,hk,_⟩
 .rw[h]at z;cases z
 .rw[h]at z;cases z
 .have:=(I.bs a o (I.mod.kin a o hk)).2
  rw[h]at this;cases this
theorem rv_two (I:Inv X pins W H sh)(hK:X.K=Γ.K)(R:Rp Γ C H s){a b:ko}{x:V}(J:RV Γ C H a x)(z:RV Γ C H b x)(n1:kM s a≠9)(F:kM s b≠9):a=b\/∃ l m p Y,a=.tup l/\b=.tup m/\x=.ref p/\RVL Γ C H l Y/\RVL Γ C H m Y:=by
 have G:∀ {r:Nat},kM s (.ref r)≠9->∃ l,s[r]?=some (.lst l):=λ {r} h=>by
  have h:(match s[r]? with|some (DV.O.lst l)=>4|_=>9:Nat)≠9:=h
  cases hs:s[r]? with
  | none=>rw[hs]at h;exact absurd rfl h
  | some o =>
   rw[hs]at h
   cases o with
   | lst l=>exact⟨l,rfl⟩
   | _=>exact absurd rfl h
 cases a with
 | non=>have e:=J.nonE;subst e;cases b with
  | non=>exact .inl rfl
  | bl _=>cases z.blE
  | int _=>cases z.intE
  | str _=>cases z.strE
  | tup _=>obtain⟨_,_,e,_⟩:=z.tupE;cases e
  | ref _=>cases z.refE
  | fn _=>exact absurd rfl F
  | clo _ _=>exact absurd rfl F
 | bl p=>have e:=J.blE;subst e;cases b with
  | non=>cases z.nonE
  | bl _=>cases z.blE;exact .inl rfl
  | int _=>cases z.intE
  | str _=>cases z.strE
  | tup _=>obtain⟨_,_,e,_⟩:=z.tupE;cases e
  | ref _=>cases z.refE
  | fn _=>exact absurd rfl F
  | clo _ _=>exact absurd rfl F
 | int p=>have e:=J.intE;subst e;cases b with
  | non=>cases z.nonE
  | bl _=>cases z.blE
  | int _=>cases z.intE;exact .inl rfl
  | str _=>cases z.strE
  | tup _=>obtain⟨_,_,e,_⟩:=z.tupE;cases e
  | ref _=>cases z.refE
  | fn _=>exact absurd rfl F
  | clo _ _=>exact absurd rfl F
 | str p=>have e:=J.strE;subst e;cases b with
  | non=>cases z.nonE
  | bl _=>cases z.blE
  | int _=>cases z.intE
  | str q =>
   have e':p.toArray=q.toArray:=ki (V.str.inj z.strE)
   have a0:p=q:=by simpa using congrArg fJ e'
   subst a0;exact .inl rfl
  | tup _=>obtain⟨_,_,e,_⟩:=z.tupE;cases e
  | ref _=>cases z.refE
  | fn _=>exact absurd rfl F
  | clo _ _=>exact absurd rfl F
 | tup l =>
  obtain⟨p,Y,e,Z,d1⟩:=J.tupE;subst e;cases b with
  | non=>cases z.nonE
  | bl _=>cases z.blE
  | int _=>cases z.intE
  | str _=>cases z.strE
  | tup m =>
   obtain⟨p',ys,e,q2,d2⟩:=z.tupE
   cases e
   rw[<-hK]at Z q2
   rw[I.tuple_inj q2 Z]at d2
   exact .inr ⟨l,m,p,Y,rfl,rfl,rfl,d1,d2⟩
  | ref r =>
   cases z.refE
   obtain⟨m,hm⟩:=G F
   obtain⟨ys,hy,_⟩:=R.addr hm
   rw[<-hK]at Z
   exact(an5 I hy Z).elim
  | fn _=>exact absurd rfl F
  | clo _ _=>exact absurd rfl F
 | ref r =>
  have e:=J.refE;subst e
  obtain⟨l,hl⟩:=G n1
  obtain⟨Y,hx,_⟩:=R.addr hl
  cases b with
  | non=>cases z.nonE
  | bl _=>cases z.blE
  | int _=>cases z.intE
  | str _=>cases z.strE
  | tup m =>
   obtain⟨p',ys,e,q2,d2⟩:=z.tupE
   cases e
   rw[<-hK]at q2
   exact(an5 I hx q2).elim
  | ref r' =>
   obtain⟨m,hm⟩:=G F
   have e:C r=C r':=V.ref.inj z.refE
   rw[R.inj r r' _ _ hl hm rfl rfl e]
   exact .inl rfl
  | fn _=>exact absurd rfl F
  | clo _ _=>exact absurd rfl F
 | fn _=>exact absurd rfl n1
 | clo _ _=>exact absurd rfl n1
theorem qJ {a b:ko}{z:Bool}(h:kO s a b=some z):lO a b=some z\/(lO a b=none/\lr (kM s a) (kM s b)=false/\z=false):=by
 unfold kO at h
 cases e:lO a b with
 | some w=>rw[e]at h;exact .inl h
 | none =>
  rw[e]at h
  cases q:lr (kM s a) (kM s b)with
  | true=>rw[q]at h;cases h
  | false=>rw[q]at h;exact .inr ⟨rfl,rfl,(ay h).symm⟩
theorem be8 {a b:ko}{z:Bool}(h:lO a b=some z):kM s a≠9/\kM s b≠9:=by
 cases a<;>cases b<;>first|(cases h;done)|(constructor<;>(intro z;cases z))
theorem ag8 {a b:ko}{z:Bool}(h:kO s a b=some z):kM s a≠9/\kM s b≠9:=by
 rcases qJ h with h|⟨_,h,_⟩
 .exact be8 h
 .unfold lr at h
  simp only[dk,beq_eq_false_iff_ne]at h
  exact⟨h.1.1,h.1.2⟩
theorem aD1 {a:ko}{z:Bool}(h:kO s a a=some z):z=true:=by
 rcases qJ h with h|⟨_,h,_⟩
 .cases a<;>cases h<;>first|rfl|exact beq_self_eq_true _
 .unfold lr at h;simp at h
theorem aE9 (I:Inv X pins W H sh)(hK:X.K=Γ.K)(R:Rp Γ C H s):∀(n:Nat) (a b:ko) (x:V) (z:Bool),kE s n a b=some z->RV Γ C H a x->RV Γ C H b x->z=true:=by
 have J:∀(a b:ko) (x:V) (z:Bool),kO s a b=some z->RV Γ C H a x->RV Γ C H b x->z=true:=by
  intro a b x z h F G
  rcases rv_two I hK R F G (ag8 h).1 (ag8 h).2 with e|⟨l,m,_,_,rfl,rfl,_⟩
  .subst e;exact aD1 h
  .rcases qJ h with h|⟨_,h,_⟩
   .cases h
   .unfold lr at h;simp[kM]at h
 intro n
 induction n with
 | zero=>intro a b x z h;unfold kE at h;exact J a b x z h
 | succ n ih =>
  have Z:∀(l m:List ko) (Y:List V) (z:Bool),kK (kE s n) l m=some z->RVL Γ C H l Y->RVL Γ C H m Y->z=true:=by
   intro l
   induction l with
   | nil =>
    intro m Y z h F G
    cases m with
    | nil=>unfold kK at h;exact(ay h).symm
    | cons b m=>obtain⟨x,r,e,_⟩:=G.uncons;rw[F.unnil]at e;cases e
   | cons a l ihl =>
    intro m Y z h F G
    cases m with
    | nil=>obtain⟨x,r,e,_⟩:=F.uncons;rw[G.unnil]at e;cases e
    | cons b m =>
     obtain⟨p,q,e1,e2,ez⟩:=aj7 h
     obtain⟨v,r,rfl,g1,g2⟩:=F.uncons
     obtain⟨v',r',e,g3,g4⟩:=G.uncons
     cases e
     rw[ez,ih a b v p e1 g1 g3,ihl m r q e2 g2 g4];rfl
  intro a b x z h F G
  unfold kE at h
  split at h
  .rename_i l m
   obtain⟨a,Y,rfl,q1,d1⟩:=F.tupE
   obtain⟨b,ys,e,q2,d2⟩:=G.tupE
   cases e
   rw[<-hK]at q1 q2
   rw[I.tuple_inj q2 q1]at d2
   exact Z l m Y z h d1 d2
  .rename_i p q
   split at h
   .rename_i l m hl hm
    obtain⟨Y,e1,d1⟩:=R.addr hl
    obtain⟨ys,e2,d2⟩:=R.addr hm
    have e:=F.refE.symm.trans G.refE
    have e':C p=C q:=V.ref.inj e
    rw[e',e2]at e1
    have e3:ys=Y:=by injection (ay e1)
    subst e3
    split at h
    .exact Z l m ys z h d1 d2
    .rename_i a0;exact absurd (d1.length.symm.trans d2.length) a0
   .cases h
  .exact J a b x z h F G
end
variable {Γ:Gm}
inductive Vw (sh:ae):Nat->Value->Prop where
 | non:Vw sh 0 .none
 | bl (b:Bool):Vw sh 1 (.bool b)
 | int (i:Int) (t:Tok):Vw sh 1 (.int i t)
 | str (x:Str) (t:Tok):Vw sh 2 (.str x t)
 | tup {l:Addr} {items:yJ} (h:sh.heap.IsTuple l items):Vw sh 3 (.ref l)
 | lst {l:Addr} {items:yJ} (h:sh.heap.IsList l items):Vw sh 4 (.ref l)
theorem Vw.eq {A:aN}{sh:ae}{k F:Nat}{u v:Value}(a:Vw sh k u)(b:Vw sh F v)(z:k≠F)(hu:A.units<cLine):fc A sh u v false:=by
 cases a with
 | non=>cases b with
  | non=>exact absurd rfl z
  | bl b=>exact SeqAt.EqAt.none_bool b
  | int i t=>exact gE i t
  | str x t=>exact gF x t
  | tup h=>exact SeqAt.EqAt.none_tuple h hu
  | lst h=>exact SeqAt.EqAt.none_list h hu
 | bl a=>cases b with
  | non=>exact SeqAt.EqAt.bool_none a
  | bl b=>exact absurd rfl z
  | int i t=>exact absurd rfl z
  | str x t=>exact SeqAt.EqAt.bool_str a x t
  | tup h=>exact SeqAt.EqAt.bool_tuple a h hu
  | lst h=>exact SeqAt.EqAt.bool_list a h hu
 | int a q=>cases b with
  | non=>exact gG a q
  | bl b=>exact absurd rfl z
  | int i t=>exact absurd rfl z
  | str x t=>exact gU a q x t
  | tup h=>exact SeqAt.EqAt.int_tuple a q h hu
  | lst h=>exact SeqAt.EqAt.int_list a q h hu
 | str a q=>cases b with
  | non=>exact gH a q
  | bl b=>exact SeqAt.EqAt.str_bool a q b
  | int i t=>exact gW a q i t
  | str x t=>exact absurd rfl z
  | tup h=>exact SeqAt.EqAt.str_tuple a q h hu
  | lst h=>exact SeqAt.EqAt.str_list a q h hu
 | tup g=>cases b with
  | non=>exact SeqAt.EqAt.tuple_none g hu
  | bl b=>exact SeqAt.EqAt.tuple_bool b g hu
  | int i t=>exact SeqAt.EqAt.tuple_int i t g hu
  | str x t=>exact SeqAt.EqAt.tuple_str x t g hu
  | tup h=>exact absurd rfl z
  | lst h=>exact SeqAt.EqAt.tuple_list g h hu
 | lst g=>cases b with
  | non=>exact SeqAt.EqAt.list_none g hu
  | bl b=>exact SeqAt.EqAt.list_bool b g hu
  | int i t=>exact SeqAt.EqAt.list_int i t g hu
  | str x t=>exact SeqAt.EqAt.list_str x t g hu
  | tup h=>exact SeqAt.EqAt.list_tuple g h hu
  | lst h=>exact absurd rfl z
theorem Vw.rc {A:aN}{sh:ae}{k F:Nat}{u v:Value}(a:Vw sh k u)(b:Vw sh F v)(z:k≠F)(hu:A.units<cLine):kj A sh u v false:=by
 cases a with
 | non=>cases b with
  | non=>exact absurd rfl z
  | bl b=>exact SeqAt.RcAt.none_bool b
  | int i t=>exact SeqAt.RcAt.none_int i t
  | str x t=>exact SeqAt.RcAt.none_str x t
  | tup h=>exact SeqAt.RcAt.none_tuple h hu
  | lst h=>exact SeqAt.RcAt.none_list h hu
 | bl a=>cases b with
  | non=>exact SeqAt.RcAt.bool_none a
  | bl b=>exact absurd rfl z
  | int i t=>exact absurd rfl z
  | str x t=>exact SeqAt.RcAt.bool_str a x t
  | tup h=>exact SeqAt.RcAt.bool_tuple a h hu
  | lst h=>exact SeqAt.RcAt.bool_list a h hu
 | int a q=>cases b with
  | non=>exact SeqAt.RcAt.int_none a q
  | bl b=>exact absurd rfl z
  | int i t=>exact absurd rfl z
  | str x t=>exact SeqAt.RcAt.int_str a q x t
  | tup h=>exact SeqAt.RcAt.int_tuple a q h hu
  | lst h=>exact SeqAt.RcAt.int_list a q h hu
 | str a q=>cases b with
  | non=>exact SeqAt.RcAt.str_none a q
  | bl b=>exact SeqAt.RcAt.str_bool a q b
  | int i t=>exact SeqAt.RcAt.str_int a q i t
  | str x t=>exact absurd rfl z
  | tup h=>exact SeqAt.RcAt.str_tuple a q h hu
  | lst h=>exact SeqAt.RcAt.str_list a q h hu
 | tup g=>cases b with
  | non=>exact SeqAt.RcAt.tuple_none g hu
  | bl b=>exact SeqAt.RcAt.tuple_bool b g hu
  | int i t=>exact SeqAt.RcAt.tuple_int i t g hu
  | str x t=>exact SeqAt.RcAt.tuple_str x t g hu
  | tup h=>exact absurd rfl z
  | lst h=>exact SeqAt.RcAt.tuple_list g h hu
 | lst g=>cases b with
  | non=>exact SeqAt.RcAt.list_none g hu
  | bl b=>exact SeqAt.RcAt.list_bool b g hu
  | int i t=>exact SeqAt.RcAt.list_int i t g hu
  | str x t=>exact SeqAt.RcAt.list_str x t g hu
  | tup h=>exact SeqAt.RcAt.list_tuple g h hu
  | lst h=>exact absurd rfl z
theorem Vw.ne {A:aN}{sh:ae}{k F:Nat}{u v:Value}(a:Vw sh k u)(b:Vw sh F v)(z:k≠F)(hu:A.units<cLine):j0 A sh u v true:=by
 cases a with
 | non=>cases b with
  | non=>exact absurd rfl z
  | bl b=>exact SeqAt.RcNeAt.none_bool b
  | int i t=>exact SeqAt.RcNeAt.none_int i t
  | str x t=>exact SeqAt.RcNeAt.none_str x t
  | tup h=>exact SeqAt.RcNeAt.none_tuple h hu
  | lst h=>exact SeqAt.RcNeAt.none_list h hu
 | bl a=>cases b with
  | non=>exact SeqAt.RcNeAt.bool_none a
  | bl b=>exact absurd rfl z
  | int i t=>exact absurd rfl z
  | str x t=>exact SeqAt.RcNeAt.bool_str a x t
  | tup h=>exact SeqAt.RcNeAt.bool_tuple a h hu
  | lst h=>exact SeqAt.RcNeAt.bool_list a h hu
 | int a q=>cases b with
  | non=>exact SeqAt.RcNeAt.int_none a q
  | bl b=>exact absurd rfl z
  | int i t=>exact absurd rfl z
  | str x t=>exact SeqAt.RcNeAt.int_str a q x t
  | tup h=>exact SeqAt.RcNeAt.int_tuple a q h hu
  | lst h=>exact SeqAt.RcNeAt.int_list a q h hu
 | str a q=>cases b with
  | non=>exact SeqAt.RcNeAt.str_none a q
  | bl b=>exact SeqAt.RcNeAt.str_bool a q b
  | int i t=>exact SeqAt.RcNeAt.str_int a q i t
  | str x t=>exact absurd rfl z
  | tup h=>exact SeqAt.RcNeAt.str_tuple a q h hu
  | lst h=>exact SeqAt.RcNeAt.str_list a q h hu
 | tup g=>cases b with
  | non=>exact SeqAt.RcNeAt.tuple_none g hu
  | bl b=>exact SeqAt.RcNeAt.tuple_bool b g hu
  | int i t=>exact SeqAt.RcNeAt.tuple_int i t g hu
  | str x t=>exact SeqAt.RcNeAt.tuple_str x t g hu
  | tup h=>exact absurd rfl z
  | lst h=>exact SeqAt.RcNeAt.tuple_list g h hu
 | lst g=>cases b with
  | non=>exact SeqAt.RcNeAt.list_none g hu
  | bl b=>exact SeqAt.RcNeAt.list_bool b g hu
  | int i t=>exact SeqAt.RcNeAt.list_int i t g hu
  | str x t=>exact SeqAt.RcNeAt.list_str x t g hu
  | tup h=>exact SeqAt.RcNeAt.list_tuple g h hu
  | lst h=>exact absurd rfl z
theorem bD6 (a b:List Nat):((⟨a.toArray⟩:Str)==⟨b.toArray⟩)=(a==b):=by
 by_cases e:a=b
 .subst e;simp
 .have:(⟨a.toArray⟩:Str)≠⟨b.toArray⟩:=λ q=>e (by simpa using congrArg (λ z=>z.cps.toList) q)
  rw[beq_eq_false_iff_ne.mpr this,beq_eq_false_iff_ne.mpr e]
structure Cmp (A:aN)(sh:ae)(u v:Value)(z:Bool):Prop where
 rc:kj A sh u v z
 ne:j0 A sh u v (!z)
section
variable {X:Cx} {pins:yA} {W:St} {H:Hp} {sh:ae} {C:Nat->Addr} {s:km}
theorem bE7 (I:Inv X pins W H sh)(z:X.K=Γ.K)(R:Rp Γ C H s){d:ko}{x:V}{u:Value}(h:RV Γ C H d x)(r:RelV x u)(hk:kM s d≠9):Vw sh (kM s d) u:=by
 cases d with
 | non=>have e:=h.nonE;subst e;cases r;exact .non
 | bl b=>have e:=h.blE;subst e;cases r;exact .bl b
 | int i=>have e:=h.intE;subst e;obtain⟨t,rfl⟩:=r;exact .int i t
 | str y=>have e:=h.strE;subst e;obtain⟨t,rfl⟩:=r;exact .str _ t
 | tup l =>
  obtain⟨a,F,e,q,_⟩:=h.tupE
  subst e;cases r
  rw[<-z]at q
  obtain⟨its,_,t,_⟩:=I.tuple q
  exact .tup t
 | ref n =>
  have e:=h.refE;subst e;cases r
  have hk:(match s[n]? with|some (DV.O.lst l)=>4|_=>9:Nat)≠9:=hk
  show Vw sh (match s[n]? with|some (DV.O.lst l)=>4|_=>9:Nat) _
  cases hs:s[n]? with
  | none=>rw[hs]at hk;exact absurd rfl hk
  | some o =>
   rw[hs]at hk
   cases o with
   | lst l =>
    obtain⟨F,e,_⟩:=R.addr hs
    obtain⟨its,_,t,_⟩:=I.list (SqL.of e)
    exact .lst t.isList
   | _=>exact absurd rfl hk
 | fn _=>exact absurd rfl hk
 | clo _ _=>exact absurd rfl hk
theorem ay9 (I:Inv X pins W H sh)(hK:X.K=Γ.K)(R:Rp Γ C H s){a b:ko}{x y:V}{u v:Value}{A:aN}{z:Bool}(h:kO s a b=some z)(F:RV Γ C H a x)(J:RV Γ C H b y)(r1:RelV x u)(G:RelV y v)(hu:A.units<cLine) :
  fc A sh u v z/\Cmp A sh u v z:=by
 rcases qJ h with h|⟨_,hn,hz⟩
 .cases a<;>cases b<;>try cases h
  .cases F.nonE;cases J.nonE;cases r1;cases G
   exact⟨et _,SeqAt.RcAt.none_none,SeqAt.RcNeAt.none_none⟩
  .cases F.blE;cases J.blE;cases r1;cases G
   exact⟨gr _ _,SeqAt.RcAt.bool_bool _ _,SeqAt.RcNeAt.bool_bool _ _⟩
  .cases F.blE;cases J.intE;cases r1;obtain⟨t',rfl⟩:=G
   exact⟨SeqAt.EqAt.bool_int _ _ _,SeqAt.RcAt.bool_int _ _ _,SeqAt.RcNeAt.bool_int _ _ _⟩
  .cases F.intE;cases J.blE;obtain⟨t,rfl⟩:=r1;cases G
   exact⟨SeqAt.EqAt.int_bool _ _ _,SeqAt.RcAt.int_bool _ _ _,SeqAt.RcNeAt.int_bool _ _ _⟩
  .cases F.intE;cases J.intE;obtain⟨t,rfl⟩:=r1;obtain⟨t',rfl⟩:=G
   exact⟨SeqAt.EqAt.int_int _ _ _ _,SeqAt.RcAt.int_int _ _ _ _,SeqAt.RcNeAt.int_int _ _ _ _⟩
  .cases F.strE;cases J.strE;obtain⟨t,rfl⟩:=r1;obtain⟨t',rfl⟩:=G
   rw[<-bD6]
   exact⟨SeqAt.EqAt.str_str _ _ _ _,SeqAt.RcAt.str_str _ _ _ _,SeqAt.RcNeAt.str_str _ _ _ _⟩
 .subst hz
  unfold lr at hn
  simp only[dk,beq_eq_false_iff_ne]at hn
  have Z:=bE7 I hK R F r1 hn.1.1
  have Y:=bE7 I hK R J G hn.1.2
  exact⟨Z.eq Y hn.2 hu,Z.rc Y hn.2 hu,Z.ne Y hn.2 hu⟩
theorem aW3 (I:Inv X pins W H sh)(hK:X.K=Γ.K)(R:Rp Γ C H s):∀(n:Nat) (a b:ko) (x y:V) (u v:Value) (A:aN) (z:Bool),kE s n a b=some z->RV Γ C H a x->RV Γ C H b y->RelV x u->RelV y v->Room n A ->
  fc A sh u v z/\Cmp A sh u v z:=by
 intro n
 induction n with
 | zero=>intro a b x y u v A z h h1 h2 r1 r2 hr;unfold kE at h;exact ay9 I hK R h h1 h2 r1 r2 hr.units0
 | succ n ih =>
  have F:∀ {l m:List ko} {xs ys:List V} {its its':yG} {A:aN} {e:Nat->Bool},RVL Γ C H l xs->RVL Γ C H m ys->Vals xs its->Vals ys its'->Room n A->(∀ j d d',l[j]?=some d->m[j]?=some d'->kE s n d d'=some (e j)) ->
    ∀ j (h1:j<its.toArray.size) (h2:j<its'.toArray.size),fc A sh its.toArray[j] its'.toArray[j] (e j):=by
   intro l m xs ys its its' A e d1 Y v1 Z hr he j h1 h2
   have l1:=v1.length
   have l2:=Z.length
   have e1:=d1.length
   have e2:=Y.length
   have a3:j<its.length:=by simpa using h1
   have a2:j<its'.length:=by simpa using h2
   have hj:j<l.length:=by omega
   have a1:j<m.length:=by omega
   obtain⟨x,ex,dx⟩:=d1.get (ag hj)
   obtain⟨y,ey,dy⟩:=Y.get (ag a1)
   obtain⟨u,eu,ru⟩:=v1.get ex
   obtain⟨w,ew,a4⟩:=Z.get ey
   have g1:its.toArray[j]=u:=by
    have:=ag a3
    rw[eu]at this
    simpa using(ay this).symm
   have g2:its'.toArray[j]=w:=by
    have:=ag a2
    rw[ew]at this
    simpa using(ay this).symm
   rw[g1,g2]
   exact(ih _ _ x y u w A (e j) (he j _ _ (ag hj) (ag a1)) dx dy ru a4 hr).1
  intro a b x y u v A z h h1 h2 r1 r2 hr
  have hz:=h
  unfold kE at h
  split at h
  .rename_i l m
   obtain⟨p,xs,ex,q1,d1⟩:=id h1.tupE
   obtain⟨q,ys,ey,q2,Y⟩:=id h2.tupE
   subst ex;subst ey
   cases r1;cases r2
   rw[<-hK]at q1 q2
   obtain⟨its,v1,t1,_⟩:=I.tuple q1
   obtain⟨its',Z,t2,_⟩:=I.tuple q2
   obtain⟨e,he,J⟩:=aQ4 h
   have l1:=v1.length
   have l2:=Z.length
   have e1:=d1.length
   have e2:=Y.length
   have sz:((bB (min its.toArray.size its'.toArray.size)).all e&&its.toArray.size==its'.toArray.size)=z:=by
    rw[<-J,Bool.and_comm,show its.toArray.size=l.length by simp;omega,show its'.toArray.size=m.length by simp;omega]
   have key:=SeqAt.RcAt.tuples (A:=A) (s:=sh) (e:=e) t1 t2 hr.units0 (F d1 Y v1 Z hr.in1 he)
   have G:=SeqAt.RcNeAt.tuples (A:=A) (s:=sh) (e:=e) t1 t2 hr.units0 (F d1 Y v1 Z hr.in1 he)
   rw[sz]at key G
   refine⟨?_,key,G⟩
   by_cases hab:p=q
   .subst hab
    rw[aE9 I hK R _ _ _ _ _ hz h1 h2]
    exact et _
   .exact io hab key
  .rename_i p q
   split at h
   .rename_i l m hl hm
    obtain⟨xs,e1,d1⟩:=R.addr hl
    obtain⟨ys,e2,Y⟩:=R.addr hm
    have ex:=h1.refE
    have ey:=h2.refE
    subst ex;subst ey
    cases r1;cases r2
    obtain⟨its,v1,t1,_⟩:=I.list (SqL.of e1)
    obtain⟨its',Z,t2,_⟩:=I.list (SqL.of e2)
    have l1:=v1.length
    have l2:=Z.length
    have c1:=d1.length
    have c2:=Y.length
    have fin:Cmp A sh (.ref (C p)) (.ref (C q)) z:=by
     split at h
     .rename_i a0
      obtain⟨e,he,J⟩:=aQ4 h
      have sz:(bB its.toArray.size).all e=z:=by
       rw[<-J,show its.toArray.size=l.length by simp;omega,a0]
       simp
      have key:=SeqAt.RcAt.lists (A:=A) (s:=sh) (e:=e) t1.isList t2.isList (by simp;omega) hr.units0 (F d1 Y v1 Z hr.in1 he)
      have G:=SeqAt.RcNeAt.lists (A:=A) (s:=sh) (e:=e) t1.isList t2.isList (by simp;omega) hr.units0 (F d1 Y v1 Z hr.in1 he)
      rw[sz]at key G
      exact⟨key,G⟩
     .rename_i a0
      cases h
      have hs:(its.toArray.size != its'.toArray.size)=true:=by simp;omega
      exact⟨SeqAt.RcAt.lists_lengths t1.isList t2.isList hs hr.units0,SeqAt.RcNeAt.lists_lengths t1.isList t2.isList hs hr.units0⟩
    refine⟨?_,fin⟩
    by_cases hab:C p=C q
    .rw[aE9 I hK R _ _ _ _ _ hz RV.refI (by rw[hab];exact RV.refI),hab]
     exact et _
    .exact io hab fin.rc
   .cases h
  .exact ay9 I hK R h h1 h2 r1 r2 hr.units0
end
variable {Γ:Gm} {X:Cx}
noncomputable def bR9:lX->Operator
 | .add=>.Add|.sub=>.Sub|.mul=>.Mult|.fdiv=>.FloorDiv|.mod=>.Mod|.pow=>.Pow|.shl=>.LShift|.shr=>.RShift|.band=>.BitAnd|.bor=>.BitOr
noncomputable def bs4:lP->CmpOp
 | .eq=>.Eq|.ne=>.NotEq|.lt=>.Lt|.le=>.LtE|.gt=>.Gt|.ge=>.GtE|.isin=>.In|.notin=>.NotIn
def rOp (Γ:Gm)(f:ko->ko->km->ky ko):R2:=λ x y H Q=>∃ C s a b d s',Rp Γ C H s/\RV Γ C H a x/\RV Γ C H b y/\a.bnd s.length=true/\b.bnd s.length=true/\f a b s=.ok d s'/\ae6 Γ C s H d s' Q
theorem z8 {d e:ko}{s t:km}(h:lQ d s=.ok e t):d=e/\s=t:=by
 unfold lQ at h
 cases h
 exact⟨rfl,rfl⟩
theorem qe {o:kS}{e:ko}{s t:km}(h:ls o s=.ok e t):e=.ref s.length/\t=s++[o]:=by
 unfold ls at h
 cases h
 exact⟨rfl,rfl⟩
theorem aO8 (a b:List Nat):(⟨a.toArray⟩:Str)++⟨b.toArray⟩=⟨(a++b).toArray⟩:=by
 show Str.append _ _=_
 unfold Str.append
 simp
theorem zM:kD<=aM:=by rw[fg];decide
theorem br3:OpR X (cg .Mult) (rI (λ i j=>DV.mulOk i j=true) λ i j=>.int (i*j)):=opI λ i j _ _ _ _ _ hc q=>mul_int q (by
 unfold DV.mulOk at hc
 simp only[aY,am,decide_eq_true_eq]at hc
 rcases hc with(h|h)|⟨F,z⟩
 .exact bP0.ok (.inl (by omega))
 .exact bP0.ok (.inr (by omega))
 .unfold DV.BIG at F z
  exact IntMulOk.of_le (m:=60000) (n:=60000) (intBits_le_iff.mpr F) (intBits_le_iff.mpr z) (by decide))
theorem aE3 (l:List Nat):∀(n:Nat) (z:Array Nat),(aj n l.toArray).foldl (·++·) z=z++(kL n l).toArray
 | 0,z=>by simp[kL]
 | n+1,z=>by
  rw[bG,dC,aE3 l n]
  simp[kL,gX]
theorem bt8 (l:List Nat):kL 1 l=l:=by simp[kL]
theorem aT7:∀ n,kL n []=[]
 | 0=>rfl
 | n+1=>by simp[kL,aT7 n]
theorem rep_len (l:List Nat):∀ n,(kL n l).length=l.length*n
 | 0=>by simp[kL]
 | n+1=>by simp[kL,rep_len l n,i8];omega
theorem br8:OpR X (cg .Mult) (λ x y H Q=>∃(l:List Nat) (n:Int),x=.str ⟨l.toArray⟩/\y=.int n/\(0<=n/\n<=1000000/\l.length*n.toNat<=kD)/\Q (.str ⟨(kL n.toNat l).toArray⟩) H):=by
 intro G s W H x y v u Q I rx J h
 obtain⟨l,n,rfl,rfl,⟨h0,Z,h2⟩,q⟩:=h
 obtain⟨t,rfl⟩:=rx
 obtain⟨t',rfl⟩:=J
 have z:(⟨l.toArray⟩:Str).length=l.length:=by show l.toArray.size=_;simp
 have hL:=zM
 have Y:=al7
 refine SB.mul ⟨?_,λ hn _=>?_,λ hn _=>?_⟩ λ t2 k=>?_
 .rw[decide_eq_false (by omega),decide_eq_false (by omega)];rfl
 .rw[z]
  have F:1<=n:=by omega
  intro hgt
  have h3:(l.length:Int)*n<=1000000:=by
   have:((l.length*n.toNat:Nat):Int)<=(kD:Nat):=Int.ofNat_le.mpr h2
   rw[jc,eP h0]at this
   have e:((kD:Nat):Int)=1000000:=by unfold kD;rfl
   omega
  have h4:(l.length:Int)<=1000000:=by
   have:(l.length:Int)*1<=(l.length:Int)*n:=ed F (by omega)
   omega
  have h5:(1000000:Int)<=(2^63 - 1) / n:=by
   rw[Int.le_ediv_iff_mul_le (by omega)]
   have:(1000000:Int)*n<=1000000*1000000:=ed Z (by omega)
   omega
  omega
 .rw[z]
  unfold jJ
  exact decide_eq_false (by omega)
 .have e:Txt.mul ⟨l.toArray⟩ n=⟨(kL n.toNat l).toArray⟩:=by
   unfold Txt.mul
   split
   .have:n.toNat=0:=by omega
    rw[this];rfl
   .split
    .rename_i hc
     rw[aY]at hc
     rcases hc with hc|hc
     .have:n=1:=by simpa using hc
      subst this
      show(⟨l.toArray⟩:Str)=⟨(kL 1 l).toArray⟩
      rw[bt8]
     .have:l=[]:=by
       have:=eq_of_beq hc
       rw[z]at this
       exact cP.mp this
      subst this
      rw[aT7]
    .show(⟨(aj n.toNat l.toArray).foldl (·++·) #[]⟩:Str)=_
     rw[aE3];simp
  rw[e]
  exact⟨.str _,H,I.tok _,⟨_,rfl⟩,q⟩
theorem ao0 {n:Nat}{l:List ko}(h:kr n l=true):∀ k,kr n (k8 k l)=true
 | 0=>rfl
 | k+1=>zT h (ao0 h k)
theorem RVL.repD {C:Nat->Addr}{H:Hp}{l:List ko}{z:List V}(h:RVL Γ C H l z):∀ k,RVL Γ C H (k8 k l) (ao2 k z)
 | 0=>RVL.nil
 | k+1=>h.append (RVL.repD h k)
theorem aw7 {α:Type}(z:List α):∀ k,ao2 k z=(aj k z).flatten
 | 0=>rfl
 | k+1=>by rw[bG,cF,<-aw7 z k];rfl
theorem bJ9 (hK:X.K=Γ.K)(op:lX):OpR X (cg (bR9 op)) (rOp Γ (DV.qa op)):=by
 intro F s W H x y v u Q I Y J h
 obtain⟨C,st,a,b,d,a0,R,ha,hb,na,nb,hf,q⟩:=h
 cases op with
 | add =>
  cases a with
  | int a =>
   cases b with
   | int b =>
    change(lQ _) st=_ at hf
    obtain⟨rfl,rfl⟩:=z8 hf
    have ex:=ha.intE;have G:=hb.intE;subst ex;subst G
    exact bO1 F s W H _ _ v u Q I Y J ⟨_,_,rfl,rfl,q.here R rfl RV.intI⟩
   | _=>exact fb hf
  | str a =>
   cases b with
   | str b =>
    change(if _ then _ else _:lK ko) st=_ at hf
    split at hf
    .rename_i hl
     obtain⟨rfl,rfl⟩:=z8 hf
     have ex:=ha.strE;have G:=hb.strE;subst ex;subst G
     refine aL9 F s W H _ _ v u Q I Y J ⟨_,_,rfl,rfl,?_,?_⟩
     .show a.toArray.size+b.toArray.size<=_
      simp only[aq]
      exact al hl zM
     .rw[aO8];exact q.here R rfl (RV.strI (by rw[au];exact hl))
    .exact fb hf
   | _=>exact fb hf
  | tup a =>
   cases b with
   | tup b =>
    change(if _ then _ else _:lK ko) st=_ at hf
    split at hf
    .rename_i hl
     obtain⟨rfl,rfl⟩:=z8 hf
     obtain⟨p,xs,⟨rfl,z1⟩,Z,d1⟩:=ha.tupZ
     obtain⟨p',ys,⟨rfl,z2⟩,h2,d2⟩:=hb.tupZ
     refine bu3 hK F s W H _ _ v u Q I Y J ⟨p,p',xs,ys,rfl,rfl,Z,h2,?_,λ t H' e ht hn=>?_⟩
     .rw[d1.length,d2.length];exact al hl zM
     .obtain⟨g,r'⟩:=R.same e
      unfold kA at na nb
      refine q _ _ _ g (ao _) (by unfold kA;exact zT na nb) (RV.tupC ht (λ z=>?_) ((RVL.mono g _ _ na d1).append (RVL.mono g _ _ nb d2))) r'
      rcases hn with hn|⟨rfl,rfl⟩|⟨rfl,rfl⟩
      .exact hn
      .rw[d2.tonil,aF]at z;rw[aF];exact e _ _ (z1 z)
      .rw[d1.tonil]at z;exact e _ _ (z2 z)
    .exact fb hf
   | _=>exact fb hf
  | ref a =>
   cases b with
   | ref b =>
    change(match st[a]?,st[b]? with|some (DV.O.lst l),some (DV.O.lst m)=>if l.length+m.length<=kD then ls (.lst (l++m)) st else .bad|_,_=>.bad:ky ko)=_ at hf
    split at hf
    .rename_i l m Z h2
     split at hf
     .rename_i hl
      obtain⟨rfl,rfl⟩:=qe hf
      obtain⟨xs,e1,d1⟩:=R.addr Z
      obtain⟨ys,e2,d2⟩:=R.addr h2
      have ex:=ha.refE;have G:=hb.refE;subst ex;subst G
      have b1:=R.wf _ _ Z
      have b2:=R.wf _ _ h2
      unfold kC at b1 b2
      refine bj6 F s W H _ _ v u Q I Y J ⟨C a,C b,xs,ys,rfl,rfl,e1,e2,?_,λ p hp=>?_⟩
      .rw[d1.length,d2.length];exact al hl zM
      .exact q.alloc R (d1.append d2) (zT b1 b2) hp
     .exact fb hf
    .exact fb hf
   | _=>exact fb hf
  | _=>exact fb hf
 | sub =>
  cases a with
  | int a =>
   cases b with
   | int b =>
    change(lQ _) st=_ at hf
    obtain⟨rfl,rfl⟩:=z8 hf
    have ex:=ha.intE;have G:=hb.intE;subst ex;subst G
    exact bM6 F s W H _ _ v u Q I Y J ⟨_,_,rfl,rfl,q.here R rfl RV.intI⟩
   | _=>exact fb hf
  | _=>exact fb hf
 | mul =>
  cases a with
  | int a =>
   cases b with
   | int b =>
    change(if _ then _ else _:lK ko) st=_ at hf
    split at hf
    .rename_i hc
     obtain⟨rfl,rfl⟩:=z8 hf
     have ex:=ha.intE;have G:=hb.intE;subst ex;subst G
     exact br3 F s W H _ _ v u Q I Y J ⟨_,_,rfl,rfl,hc,q.here R rfl RV.intI⟩
    .exact fb hf
   | _=>exact fb hf
  | str a =>
   cases b with
   | int b =>
    change(if _ then _ else _:lK ko) st=_ at hf
    split at hf
    .rename_i hc
     obtain⟨rfl,rfl⟩:=z8 hf
     have ex:=ha.strE;have G:=hb.intE;subst ex;subst G
     exact br8 F s W H _ _ v u Q I Y J ⟨_,_,rfl,rfl,hc,q.here R rfl (RV.strI (by rw[rep_len];exact hc.2.2))⟩
    .exact fb hf
   | _=>exact fb hf
  | tup a =>
   cases b with
   | int b =>
    change(if _ then _ else _:lK ko) st=_ at hf
    split at hf
    .rename_i hc
     obtain⟨rfl,rfl⟩:=z8 hf
     obtain⟨p,xs,⟨rfl,z1⟩,Z,d1⟩:=ha.tupZ
     have G:=hb.intE;subst G
     refine bt3 hK F s W H _ _ v u Q I Y J ⟨p,xs,_,rfl,rfl,Z,⟨hc.1,hc.2.1,by rw[d1.length];exact hc.2.2⟩,λ t H' e ht hn=>?_⟩
     obtain⟨g,r'⟩:=R.same e
     unfold kA at na
     refine q _ _ _ g (ao _) (by unfold kA;exact ao0 na _) (RV.tupC ht (λ z=>?_) (RVL.repD (RVL.mono g _ _ na d1) _)) r'
     rcases hn with hn|⟨rfl,ex⟩
     .exact hn
     .rw[ex];exact e _ _ (z1 (bo3 z))
    .exact fb hf
   | _=>exact fb hf
  | ref a =>
   cases b with
   | int b =>
    change(match st[a]? with|some (DV.O.lst l)=>if 0<=b/\b<=1000000/\l.length*b.toNat<=kD then ls (.lst (k8 b.toNat l)) st else .bad|_=>.bad:ky ko)=_ at hf
    split at hf
    .rename_i l Z
     split at hf
     .rename_i hc
      obtain⟨rfl,rfl⟩:=qe hf
      obtain⟨xs,e1,d1⟩:=R.addr Z
      have ex:=ha.refE;have G:=hb.intE;subst ex;subst G
      have b1:=R.wf _ _ Z
      unfold kC at b1
      refine bC3 F s W H _ _ v u Q I Y J ⟨C a,b,xs,rfl,rfl,e1,by omega,by omega,?_,λ p hp=>?_⟩
      .rw[d1.length];exact al hc.2.2 zM
      .rw[<-aw7];exact q.alloc R (RVL.repD d1 _) (ao0 b1 _) hp
     .exact fb hf
    .exact fb hf
   | _=>exact fb hf
  | _=>exact fb hf
 | fdiv =>
  cases a with
  | int a =>
   cases b with
   | int b =>
    change(if _ then _ else _:lK ko) st=_ at hf
    split at hf
    .rename_i hc
     obtain⟨rfl,rfl⟩:=z8 hf
     have ex:=ha.intE;have G:=hb.intE;subst ex;subst G
     refine bb6 F s W H _ _ v u Q I Y J ⟨_,_,rfl,rfl,⟨hc.1,?_⟩,q.here R rfl RV.intI⟩
     have:=hc.2
     unfold DV.DIVL at this
     simpa using this
    .exact fb hf
   | _=>exact fb hf
  | _=>exact fb hf
 | mod =>
  cases a with
  | int a =>
   cases b with
   | int b =>
    change(if _ then _ else _:lK ko) st=_ at hf
    split at hf
    .rename_i hc
     obtain⟨rfl,rfl⟩:=z8 hf
     have ex:=ha.intE;have G:=hb.intE;subst ex;subst G
     exact bM1 F s W H _ _ v u Q I Y J ⟨_,_,rfl,rfl,hc,q.here R rfl RV.intI⟩
    .exact fb hf
   | _=>exact fb hf
  | _=>exact fb hf
 | pow =>
  cases a with
  | int a =>
   cases b with
   | int b =>
    change(if _ then _ else _:lK ko) st=_ at hf
    split at hf
    .rename_i hc
     obtain⟨rfl,rfl⟩:=z8 hf
     have ex:=ha.intE;have G:=hb.intE;subst ex;subst G
     exact bA8 F s W H _ _ v u Q I Y J ⟨_,_,rfl,rfl,hc,q.here R rfl RV.intI⟩
    .exact fb hf
   | _=>exact fb hf
  | _=>exact fb hf
 | shl=>exact fb hf
 | shr=>exact fb hf
 | band=>exact fb hf
 | bor=>exact fb hf
variable {Γ:Gm} {X:Cx} {pins:yA} {W:St} {H:Hp} {sh:ae} {C:Nat->Addr} {s:km}
theorem aJ2 {n:Nat}{a b:ko}{z:Bool}(h:kE s n a b=some z):kM s a≠9:=by
 cases n with
 | zero=>unfold kE at h;exact(ag8 h).1
 | succ n =>
  unfold kE at h
  split at h
  .simp[kM]
  .split at h
   .rename_i F _;simp[kM,F]
   .cases h
  .exact(ag8 h).1
theorem aV0 (I:Inv X pins W H sh)(Y:X.K=Γ.K)(R:Rp Γ C H s):∀(n:Nat) (a b c:ko) (x:V) (p q:Bool),RV Γ C H a x->RV Γ C H b x->kE s n a c=some p->kE s n b c=some q->p=q:=by
 intro n
 induction n with
 | zero =>
  intro a b c x p q F z e1 e2
  rcases rv_two I Y R F z (aJ2 e1) (aJ2 e2)with e|⟨l,m,_,_,rfl,rfl,_⟩
  .subst e;rw[e1]at e2;exact ay e2
  .unfold kE at e1 e2
   have:kO s (.tup l) c=kO s (.tup m) c:=by unfold kO;cases c<;>rfl
   rw[this,e2]at e1;exact(ay e1).symm
 | succ n ih =>
  have J:∀(l m k:List ko) (G:List V) (p q:Bool),RVL Γ C H l G->RVL Γ C H m G->kK (kE s n) l k=some p->kK (kE s n) m k=some q->p=q:=by
   intro l
   induction l with
   | nil =>
    intro m k G p q F z e1 e2
    have:=F.unnil;subst this
    have hm:m=[]:=by have:=z.length;exact cP.mp this.symm
    subst hm
    rw[e1]at e2;exact ay e2
   | cons a l ihl =>
    intro m k G p q F z e1 e2
    obtain⟨x,r,rfl,g1,g2⟩:=F.uncons
    cases m with
    | nil=>have:=z.unnil;cases this
    | cons b m =>
     obtain⟨x',r',e,g3,Z⟩:=z.uncons
     cases e
     cases k with
     | nil=>unfold kK at e1 e2;rw[<-ay e1,<-ay e2]
     | cons c k =>
      obtain⟨p1,p2,a1,a2,a3⟩:=aj7 e1
      obtain⟨q1,q2,b1,b2,b3⟩:=aj7 e2
      rw[a3,b3,ih a b c x p1 q1 g1 g3 a1 b1,ihl m k r p2 q2 g2 Z a2 b2]
  intro a b c x p q F z e1 e2
  rcases rv_two I Y R F z (aJ2 e1) (aJ2 e2)with e|⟨l,m,_,G,rfl,rfl,_,d1,d2⟩
  .subst e;rw[e1]at e2;exact ay e2
  .cases c with
   | tup k=>unfold kE at e1 e2;exact J l m k G p q d1 d2 e1 e2
   | _ =>
    unfold kE at e1 e2
    simp only at e1 e2
    have e3:kO s (.tup l)=kO s (.tup m):=by funext c;unfold kO;cases c<;>rfl
    rw[e3]at e1
    exact ay (e1.symm.trans e2)
theorem bh2 {x:ko}:∀ {l:List ko} {z:Bool},lf s x l=some z->∃ e:Nat->Bool,(∀ j d,l[j]?=some d->kE s kJ d x=some (e j))/\(z=true↔∃ j,j<l.length/\e j=true)
 | [],z,h=>by
  unfold lf at h
  cases h
  exact⟨λ _=>true,λ j d h=>by simp at h,by simp⟩
 | y::l,z,h=>by
  unfold lf at h
  cases e1:kE s kJ y x with
  | none=>rw[e1]at h;cases h
  | some a =>
   cases e2:lf s x l with
   | none=>rw[e1,e2]at h;cases h
   | some b =>
    rw[e1,e2]at h
    obtain⟨e,F,G⟩:=bh2 e2
    refine⟨λ j=>match j with|0=>a|j+1=>e j,λ j d g=>?_,?_⟩
    .cases j with
     | zero=>simp at g;subst g;exact e1
     | succ j=>exact F j d (by simpa using g)
    .have hz:(a||b)=z:=ay h
     rw[<-hz,aY,G]
     constructor
     .rintro(q|⟨j,hj,q⟩)
      .exact⟨0,by simp,q⟩
      .exact⟨j+1,by simpa using hj,q⟩
     .rintro⟨j,hj,q⟩
      cases j with
      | zero=>exact .inl q
      | succ j=>exact .inr ⟨j,by simpa using hj,q⟩
theorem bi0 (I:Inv X pins W H sh)(hK:X.K=Γ.K)(R:Rp Γ C H s){x:ko}{Z:V}{xu:Value}(hx:RV Γ C H x Z)(rx:RelV Z xu){l:List ko}{ys:List V}{its:yG}(hl:RVL Γ C H l ys)(hv:Vals ys its){z:Bool}(h:lf s x l=some z){A:aN}(hr:Room kJ A) :
  ∃ e:Value->Bool,(∀ y,y∈its.toArray->fc A sh y xu (e y))/\its.toArray.any e=z:=by
 obtain⟨e,h1,h2⟩:=bh2 h
 have len:its.length=l.length:=by rw[<-hv.length];exact hl.length
 have F:∀ j u,its[j]?=some u->∃ d y,l[j]?=some d/\ys[j]?=some y/\RV Γ C H d y/\RelV y u:=λ j u g=>by
  have hj:j<l.length:=by rw[<-len];exact(af.mp g).1
  obtain⟨y,g1,g2⟩:=hl.get (ag hj)
  obtain⟨u',G,J⟩:=hv.get g1
  rw[g]at G;cases G
  exact⟨_,y,ag hj,g1,g2,J⟩
 classical
 let f:Value->Bool:=λ u=>decide (∃ j,its[j]?=some u/\e j=true)
 have hf:∀ j u,its[j]?=some u->f u=e j:=λ j u g=>by
  obtain⟨d,y,g1,g2,G,J⟩:=F j u g
  cases q:e j with
  | true=>exact decide_eq_true ⟨j,g,q⟩
  | false =>
   refine decide_eq_false λ⟨k,g',q'⟩=>?_
   obtain⟨d',y',k1,k2,k3,k4⟩:=F k u g'
   have ey:y'=y:=k4.inj J
   subst ey
   have:=aV0 I hK R _ d d' x _ _ _ G k3 (h1 j d g1) (h1 k d' k1)
   rw[q,q']at this;cases this
 refine⟨f,λ u hu=>?_,?_⟩
 .obtain⟨j,hj,g⟩:=dj.mp (by simpa using hu:u∈its)
  have g':its[j]?=some u:=by rw[ag hj,g]
  obtain⟨d,y,g1,g2,G,J⟩:=F j u g'
  rw[hf j u g']
  exact(aW3 I hK R _ d x y Z u xu A _ (h1 j d g1) G hx J rx hr).1
 .have e1:its.toArray.any f=true↔z=true:=by
   rw[h2,List.any_toArray,iQ]
   constructor
   .rintro⟨u,hu,q⟩
    obtain⟨j,hj,g⟩:=dj.mp hu
    have g':its[j]?=some u:=by rw[ag hj,g]
    exact⟨j,by omega,by rw[<-hf j u g'];exact q⟩
   .rintro⟨j,hj,q⟩
    have Y:j<its.length:=by omega
    exact⟨its[j],bW Y,by rw[hf j _ (ag Y)];exact q⟩
  cases z<;>cases q:its.toArray.any f
  .rfl
  .have:=e1.mp q;cases this
  .rw[q]at e1;have:=e1.mpr rfl;cases this
  .rfl
variable {Γ:Gm} {X:Cx}
theorem aa1 {α β:Type}{r:ky α}{f:α->km->ky β}{b:β}{t:km}(h:r.bind f=.ok b t):∃ a s,r=.ok a s/\f a s=.ok b t:=DV.R.bind_inv h
theorem bk7 (hK:X.K=Γ.K)(hr:Room (kJ+1) X.A)(F:Bool){G:yA}{sh:ae}{W:St}{H:Hp}{x y:V}{v u:Value}{C:Nat->Addr}{st Y:km}{a b:ko}{z:Bool}
  (I:Inv X G W H sh) (rx:RelV x v) (ry:RelV y u) (R:Rp Γ C H st) (ha:RV Γ C H a x) (hb:RV Γ C H b y) (hf:lR a b st=.ok z Y) :
  Y=st/\∀ Q:Value->ae->Prop,(∀ J,Inv X G W H J->Q (.bool (if F then !z else z)) J)->wpAny (model X.prog X.w) X.A (c5 (if F then .NotIn else .In) v u) Q X.xe sh:=by
 unfold lR at hf
 cases b with
 | tup l =>
  simp only at hf
  cases e:lf st a l with
  | none=>rw[e]at hf;cases hf
  | some w =>
   rw[e]at hf
   cases hf
   obtain⟨p,ys,rfl,q,d⟩:=hb.tupE
   cases ry
   rw[<-hK]at q
   obtain⟨its,rv,t,_⟩:=I.tuple q
   obtain⟨f,Z,h2⟩:=bi0 I hK R ha rx d rv e (A:=X.A.in1) hr.in1
   refine⟨rfl,λ Q hq=>?_⟩
   cases F with
   | false=>exact SeqAt.in_tupleAt f t Z (by rw[h2];exact hq _ I)
   | true=>exact SeqAt.notIn_tupleAt f t Z (by rw[h2];exact hq _ I)
 | str y0 =>
  simp only at hf
  split at hf
  case h_2=>exact fb hf
  rename_i c
  cases hf
  refine⟨rfl,λ Q hq=>?_⟩
  have e1:=ha.strE
  have e2:=hb.strE
  subst e1 e2
  obtain⟨t1,rfl⟩:=rx
  obtain⟨t2,rfl⟩:=ry
  have a0:=jV (⟨y0.toArray⟩:Str) c
  cases F with
  | false=>exact in_str (by rw[show(⟨[c].toArray⟩:Str)=⟨#[c]⟩from rfl,a0];simpa using hq _ I)
  | true=>exact notIn_str (by rw[show(⟨[c].toArray⟩:Str)=⟨#[c]⟩from rfl,a0];simpa using hq _ I)
 | ref r =>
  simp only at hf
  cases hs:st[r]? with
  | none=>rw[hs]at hf;cases hf
  | some o =>
   rw[hs]at hf
   cases o with
   | lst l =>
    simp only at hf
    cases e:lf st a l with
    | none=>rw[e]at hf;cases hf
    | some w =>
     rw[e]at hf
     cases hf
     obtain⟨ys,e1,d⟩:=R.addr hs
     have ey:=hb.refE;subst ey
     cases ry
     obtain⟨its,rv,t,_⟩:=I.list (SqL.of e1)
     obtain⟨f,Z,h2⟩:=bi0 I hK R ha rx d rv e (A:=X.A.in1) hr.in1
     refine⟨rfl,λ Q hq=>?_⟩
     cases F with
     | false=>exact SeqAt.in_listAt f t.isList Z (by rw[h2];exact hq _ I)
     | true=>exact SeqAt.notIn_listAt f t.isList Z (by rw[h2];exact hq _ I)
   | ro l=>exact fb hf
   | ins c l=>exact fb hf
 | _=>exact fb hf
theorem bO2 {a b d:ko}{st z:km}(h:DV.zL .le a b st=.ok d z):∃ i j,a=.int i/\b=.int j:=by
 cases a with
 | int i =>
  (cases b with
  | int j=>exact⟨i,j,rfl,rfl⟩
  | _=>exact fb h)
 | _=>exact fb h
theorem aA5 {a:ko}{i:Int}{x:List Nat}(h:DV.bb1 a=some (i,x)):a=.tup [.int i,.str x]:=by
 unfold DV.bb1 at h
 split at h
 .cases h;rfl
 .cases h
theorem ba2 {f:Int->List Nat->Int->List Nat->Bool}{a b d:ko}{st z:km}(h:DV.bX6 f a b st=.ok d z):∃ i x j y,a=.tup [.int i,.str x]/\b=.tup [.int j,.str y]:=by
 unfold DV.bX6 at h
 split at h
 .rename_i i x j y e1 e2
  exact⟨i,x,j,y,aA5 e1,aA5 e2⟩
 .exact fb h
theorem ord_inv {op:lP}{a b d:ko}{st z:km}(ho:op=.lt\/op=.gt\/op=.ge)(h:DV.zL op a b st=.ok d z):(∃ i j,a=.int i/\b=.int j)\/∃ i x j y,a=.tup [.int i,.str x]/\b=.tup [.int j,.str y]:=by
 rcases ho with rfl|rfl|rfl <;>
 (cases a with
 | int i =>
  (cases b with
  | int j=>exact .inl ⟨i,j,rfl,rfl⟩
  | _=>exact fb h)
 | tup l =>
  (cases b with
  | tup m=>first|exact .inr (ba2 h)|exact fb h
  | _=>exact fb h)
 | _=>exact fb h)
section
variable {pins:yA} {sh:ae} {W:St} {H:Hp} {C:Nat->Addr} {st:km}
end
theorem bJ5 (hK:X.K=Γ.K)(hr:Room (kJ+1) X.A)(op:lP):OpR X (c5 (bs4 op)) (rOp Γ (DV.zL op)):=by
 intro F s W H x y v u Q I Y J h
 obtain⟨C,st,a,b,d,G,R,ha,hb,na,nb,hf,q⟩:=h
 cases op with
 | eq =>
  have hf:DV.eqM a b st=.ok d G:=hf
  unfold DV.eqM at hf
  cases e:kE st kJ a b with
  | none=>rw[e]at hf;cases hf
  | some z =>
   rw[e]at hf;cases hf
   exact(aW3 I hK R _ a b x y v u X.A z e ha hb Y J (hr.mono (by omega))).2.rc X.prog X.w X.xe _ ⟨.bl z,H,I,rfl,q.here R rfl RV.blI⟩
 | ne =>
  have hf:(match kE st kJ a b with|some r=>.ok (.bl (!r)) st|none=>.bad:ky ko)=.ok d G:=hf
  cases e:kE st kJ a b with
  | none=>rw[e]at hf;cases hf
  | some z =>
   rw[e]at hf;cases hf
   exact(aW3 I hK R _ a b x y v u X.A z e ha hb Y J (hr.mono (by omega))).2.ne X.prog X.w X.xe _ ⟨.bl (!z),H,I,rfl,q.here R rfl RV.blI⟩
 | lt =>
  rcases ord_inv (.inl rfl) hf with⟨i,j,rfl,rfl⟩|⟨i,x0,j,y0,rfl,rfl⟩
  .cases hf
   have ex:=ha.intE;have Z:=hb.intE;subst ex;subst Z
   exact bV4 F s W H _ _ v u Q I Y J ⟨_,_,rfl,rfl,q.here R rfl RV.blI⟩
  .exact fb hf
 | le =>
  obtain⟨i,j,rfl,rfl⟩:=bO2 hf
  cases hf
  have ex:=ha.intE;have Z:=hb.intE;subst ex;subst Z
  exact bU2 F s W H _ _ v u Q I Y J ⟨_,_,rfl,rfl,q.here R rfl RV.blI⟩
 | gt =>
  rcases ord_inv (.inr (.inl rfl)) hf with⟨i,j,rfl,rfl⟩|⟨i,x0,j,y0,rfl,rfl⟩
  .cases hf
   have ex:=ha.intE;have Z:=hb.intE;subst ex;subst Z
   exact bQ8 F s W H _ _ v u Q I Y J ⟨_,_,rfl,rfl,q.here R rfl RV.blI⟩
  .exact fb hf
 | ge=>exact fb hf
 | isin =>
  have hf:(lR a b st).bind (λ r s=>.ok (.bl r) s)=.ok d G:=hf
  obtain⟨z,s1,e1,e2⟩:=aa1 hf
  obtain⟨rfl,w⟩:=bk7 hK hr false I Y J R ha hb e1
  cases e2
  exact w _ λ s' I'=>⟨.bl z,H,I',rfl,q.here R rfl RV.blI⟩
 | notin =>
  have hf:(lR a b st).bind (λ r s=>.ok (.bl (!r)) s)=.ok d G:=hf
  obtain⟨z,s1,e1,e2⟩:=aa1 hf
  obtain⟨rfl,w⟩:=bk7 hK hr true I Y J R ha hb e1
  cases e2
  exact w _ λ s' I'=>⟨.bl (!z),H,I',rfl,q.here R rfl RV.blI⟩
theorem aV6 {C:Nat->Addr}{H:Hp}{l:List ko}{z:List V}{i:Int}{d:ko}(h:RVL Γ C H l z)(e:((lh l.length i).bind λ j=>l[j]?)=some d):∃ v,atI z i=some v/\RV Γ C H d v:=by
 cases hj:lh l.length i with
 | none=>rw[hj]at e;cases e
 | some j =>
  rw[hj]at e
  obtain⟨v,e1,e2⟩:=h.get (show l[j]?=some d from e)
  refine⟨v,?_,e2⟩
  unfold atI
  have:ixN z.length i=some j:=by rw[h.length];exact hj
  rw[this];exact e1
theorem aC3 {l:List ko}{i:Int}{d:ko}(e:((lh l.length i).bind λ j=>l[j]?)=some d):d∈l:=by
 cases hj:lh l.length i with
 | none=>rw[hj]at e;cases e
 | some j=>rw[hj]at e;exact bS (show l[j]?=some d from e)
theorem bW8 (hK:X.K=Γ.K)(hu:X.A.units+2<cLine):IxR X (rOp Γ DV.ixM):=by
 intro z F G s W H x y v u Q I rx Z h hs
 obtain⟨C,st,a,b,d,a0,R,ha,hb,na,nb,hf,q⟩:=h
 unfold DV.ixM at hf
 cases a with
 | tup l =>
  cases b with
  | int i =>
   simp only at hf
   split at hf
   .rename_i d' e
    cases hf
    obtain⟨p,Y,rfl,h1,d1⟩:=ha.tupE
    have J:=hb.intE;subst J
    obtain⟨w,e1,e2⟩:=aV6 d1 e
    unfold kA at na
    exact bv3 hK z F G s W H _ _ v u Q I rx Z ⟨p,Y,i,w,rfl,rfl,h1,e1,q.here R (ab6.mp na _ (aC3 e)) e2⟩ hs
   .exact fb hf
  | _=>exact fb hf
 | str l =>
  cases b with
  | int i =>
   simp only at hf
   split at hf
   .rename_i c e
    cases hf
    have hl:=ha.strL
    have ex:=ha.strE;have J:=hb.intE;subst ex;subst J
    exact ix_str z F G s W H _ _ v u Q I rx Z ⟨⟨l.toArray⟩,i,c,rfl,rfl,by show l.toArray.size<=_;rw[aq];exact al hl zM,e,q.here R rfl (RV.strI (by simp;decide))⟩ hs
   .exact fb hf
  | _=>exact fb hf
 | ref r =>
  have ex:=ha.refE;subst ex
  simp only at hf
  cases hsr:st[r]? with
  | none=>rw[hsr]at hf;cases hf
  | some o =>
   rw[hsr]at hf
   cases o with
   | lst l =>
    cases b with
    | int i =>
     simp only at hf
     split at hf
     .rename_i d' e
      cases hf
      have J:=hb.intE;subst J
      obtain⟨Y,e1,d1⟩:=R.addr hsr
      obtain⟨w,e2,e3⟩:=aV6 d1 e
      have wf:=R.wf _ _ hsr
      unfold kC at wf
      exact aE4 hK z F G s W H _ _ v u Q I rx Z ⟨C r,Y,i,w,rfl,rfl,SqL.of e1,e2,q.here R (ab6.mp wf _ (aC3 e)) e3⟩ hs
     .exact fb hf
    | _=>exact fb hf
   | ro l =>
    cases b with
    | int i =>
     simp only at hf
     split at hf
     .rename_i d' e
      cases hf
      have J:=hb.intE;subst J
      obtain⟨Y,e1,d1⟩:=R.obj _ _ hsr
      obtain⟨w,e2,e3⟩:=aV6 d1 e
      have wf:=R.wf _ _ hsr
      unfold kC at wf
      exact aE4 hK z F G s W H _ _ v u Q I rx Z ⟨C r,Y,i,w,rfl,rfl,e1.1,e2,q.here R (ab6.mp wf _ (aC3 e)) e3⟩ hs
     .exact fb hf
    | _=>exact fb hf
   | ins c l=>cases b<;>cases hf
 | _=>cases b<;>cases hf
theorem aR8 (n d:Nat)(i:Int):HT.sIx n d (some i)=k9 n i:=by
 show(if i<0 then(i+(n:Int)).toNat else min i.toNat n)=_
 unfold k9
 by_cases h:i<0
 .rw[if_pos h,if_neg (by omega)]
 .rw[if_neg h,if_pos (by omega)]
theorem bl0 {C:Nat->Addr}{H:Hp}{l:List ko}{z:List V}(h:RVL Γ C H l z)(G F:Option Int):RVL Γ C H (kQ l G F) (aL7 z G F):=by
 unfold kQ aL7
 have e1:HT.sIx z.length 0 G=lc l.length G:=by
  cases G with
  | none=>rfl
  | some i=>rw[aR8,h.length];rfl
 have e2:HT.sIx z.length z.length F=lF l.length F:=by
  cases F with
  | none=>exact h.length
  | some i=>rw[aR8,h.length];rfl
 rw[e1,e2]
 exact(h.drop _).take _
theorem aG1 {α:Type}{l:List α}{F z:Option Int}:∀ d∈kQ l F z,d∈l:=λ d hd=>dm (cG hd)
theorem bg0 {α:Type}(l:List α)(z F:Option Int):(kQ l z F).length<=l.length:=by
 unfold kQ
 rw[bE,bV]
 omega
theorem bR4 (z F:Option Int)(n:Nat):bv z F 1 n=(bB (lF n F - lc n z)).map (lc n z+·):=by
 rw[<-sliceRange_one]
 unfold bv
 have cl:∀ i:Int,max 0 (min (if i<0 then i+(n:Int)else i) (n:Int))=((k9 n i:Nat):Int):=λ i=>by
  unfold k9
  by_cases h:i<0
  .rw[if_pos h,if_neg (by omega)];omega
  .rw[if_neg h,if_pos (by omega)];omega
 simp only[show((1:Int) > 0)=True by simp,if_true]
 cases z<;>cases F<;>simp only[cl,lc,lF]<;>rfl
theorem aF4 {l:List Nat}:∀(a k:Nat),a+k<=l.length->((bB k).map (a+·)).filterMap (λ x=>l.toArray[x]?)=(l.drop a).take k
 | a,0,_=>by simp
 | a,k+1,h=>by
  rw[List.range_succ,cB,List.filterMap_append,aF4 a k (by omega)]
  have hk:a+k<l.length:=by omega
  rw[List.take_add_one,List.getElem?_drop]
  simp[hk]
theorem aX4 (l:List Nat)(F z:Option Int):eJ ⟨l.toArray⟩ F z=⟨(kQ l F z).toArray⟩:=by
 unfold eJ
 have hn:(⟨l.toArray⟩:Str).length=l.length:=by show l.toArray.size=_;simp
 rw[hn,bR4]
 have hb:lF l.length z<=l.length:=by
  cases z with
  | none=>exact ao _
  | some i=>show k9 l.length i<=_;unfold k9;split<;>omega
 have ha:lc l.length F<=l.length:=by
  cases F with
  | none=>exact cR _
  | some i=>show k9 l.length i<=_;unfold k9;split<;>omega
 unfold kQ
 generalize lF l.length z=b at *
 generalize lc l.length F=a at *
 by_cases hc:((1:Int)==1&&((bB (b - a)).map (a+·)).length==l.length)=true
 .rw[if_pos hc]
  have:b - a=l.length:=by simpa using hc
  have h0:a=0\/l.length=0:=by omega
  rcases h0 with h0|h0
  .subst h0
   rw[this];simp
  .have:l=[]:=cP.mp h0
   subst this;simp
 .rw[if_neg hc]
  by_cases hab:a<=b
  .have e:=aF4 (l:=l) a (b - a) (by omega)
   show(⟨(gj (λ x=>l.toArray[x]?) _).toArray⟩:Str)=_
   rw[e]
  .rw[show b - a=0 by omega];simp
def rSl (Γ:Gm):V->Option Int->Option Int->Hp->VK->Prop:=λ x lo hi H Q=>∃ C s a d s',Rp Γ C H s/\RV Γ C H a x/\a.bnd s.length=true/\lG a lo hi s=.ok d s'/\ae6 Γ C s H d s' Q
theorem bC9 (hK:X.K=Γ.K):SlR X (rSl Γ):=by
 intro F s W H x v vl vu G J sl Q I rx hs pl Z h
 obtain⟨C,st,a,d,a0,R,ha,na,hf,q⟩:=h
 unfold lG at hf
 cases a with
 | tup l =>
  cases hf
  obtain⟨p,Y,⟨rfl,z1⟩,h1,d1⟩:=ha.tupZ
  unfold kA at na
  refine bq2 hK F s W H _ v vl vu G J sl Q I rx hs pl Z ⟨p,Y,rfl,h1,λ t H' e ht hn=>?_⟩
  obtain⟨g,r'⟩:=R.same e
  have d2:=bl0 (RVL.mono g _ _ na d1) G J
  refine q _ _ _ g (ao _) (by unfold kA;exact au3 na aG1) (RV.tupC ht (λ z=>?_) d2) r'
  rcases hn with hn|⟨rfl,ex⟩
  .exact hn
  .rw[ex]
   refine e _ _ (z1 ?_)
   have hl:(kQ l G J).length=l.length:=by rw[<-d2.length,ex,d1.length]
   rwa [aQ1 hl]at z
 | str l =>
  cases hf
  have hl:=ha.strL
  have ex:=ha.strE;subst ex
  refine sl_str F s W H _ v vl vu G J sl Q I rx hs pl Z ⟨_,rfl,by show l.toArray.size<=_;rw[aq];exact al hl zM,?_⟩
  rw[aX4]
  exact q.here R rfl (RV.strI (al (bg0 l G J) hl))
 | ref r =>
  have ex:=ha.refE;subst ex
  simp only at hf
  cases hsr:st[r]? with
  | none=>rw[hsr]at hf;cases hf
  | some o =>
   rw[hsr]at hf
   cases o with
   | lst l =>
    obtain⟨rfl,rfl⟩:=qe hf
    obtain⟨Y,e1,d1⟩:=R.addr hsr
    have wf:=R.wf _ _ hsr
    unfold kC at wf
    exact bg3 hK F s W H _ v vl vu G J sl Q I rx hs pl Z ⟨C r,Y,rfl,SqL.of e1,λ p hp=>q.alloc R (bl0 d1 G J) (au3 wf aG1) hp⟩
   | _=>exact fb hf
 | _=>exact fb hf
variable {Γ:Gm} {X:Cx}
def rCl (Γ:Gm)(f:List ko->km->ky ko):List V->Hp->VK->Prop:=λ xs H Q=>∃ C s l d s',Rp Γ C H s/\RVL Γ C H l xs/\kr s.length l=true/\f l s=.ok d s'/\ae6 Γ C s H d s' Q
theorem RVL.one {C:Nat->Addr}{H:Hp}{d:ko}{z:List V}(h:RVL Γ C H [d] z):∃ x,z=[x]/\RV Γ C H d x:=by
 obtain⟨x,r,rfl,F,G⟩:=h.uncons
 rw[G.unnil];exact⟨x,rfl,F⟩
noncomputable def biN:kZ->Option (String×Nat)
 | .len=>some ("len",1)|.abs=>some ("abs",1)|.min2=>some ("min",2)|.max2=>some ("max",2)|_=>none
theorem zR:∀ {l:List ko} {is:List Int},ln l=some is->l=is.map DV.D.int
 | [],is,h=>by unfold ln at h;cases h;rfl
 | d::l,is,h=>by
  cases d with
  | int i =>
   have h:(ln l).map (i::·)=some is:=h
   cases e:ln l with
   | none=>rw[e]at h;cases h
   | some m=>rw[e]at h;cases h;rw[zR e];rfl
  | _=>cases h
theorem ak7:∀ {l:List ko} {is:List Bool},lu l=some is->l=is.map DV.D.bl
 | [],is,h=>by unfold lu at h;cases h;rfl
 | d::l,is,h=>by
  cases d with
  | bl i =>
   have h:(lu l).map (i::·)=some is:=h
   cases e:lu l with
   | none=>rw[e]at h;cases h
   | some m=>rw[e]at h;cases h;rw[ak7 e];rfl
  | _=>cases h
theorem RVL.ints {C:Nat->Addr}{H:Hp}:∀ {is:List Int} {z:List V},RVL Γ C H (is.map DV.D.int) z->z=is.map V.int
 | [],_,h=>h.unnil
 | i::is,_,h=>by
  obtain⟨x,r,rfl,F,G⟩:=RVL.uncons h
  rw[F.intE,RVL.ints G];rfl
theorem RVL.bls {C:Nat->Addr}{H:Hp}:∀ {is:List Bool} {z:List V},RVL Γ C H (is.map DV.D.bl) z->z=is.map V.bl
 | [],_,h=>h.unnil
 | i::is,_,h=>by
  obtain⟨x,r,rfl,F,G⟩:=RVL.uncons h
  rw[F.blE,RVL.bls G];rfl
theorem aT6 {f:ko->lK ko}{l:List ko}{s s':km}{d:ko}(h:lS f l s=.ok d s'):∃ a,l=[a]/\f a s=.ok d s':=by
 match l,h with
 | [a],h=>exact⟨a,rfl,h⟩
 | [],h=>exact fb h
 | _::_::_,h=>exact fb h
theorem aZ2 (G:X.K=Γ.K)(hc:X.calm=true){b:kZ}{nm:String}{k:Nat}(hn:biN b=some (nm,k)):ac4 X (.builtin nm) (rCl Γ (lL b)):=by
 intro z s W H Z us Q I r h
 obtain⟨C,st,l,d,F,R,hl,nl,hf,q⟩:=h
 cases b with
 | len =>
  cases hn
  have hf:lS DV.bL2 l st=.ok d F:=hf
  obtain⟨a,rfl,hg⟩:=aT6 hf
  clear hf
  obtain⟨x,rfl,hx⟩:=hl.one
  unfold DV.bL2 at hg
  cases a with
  | tup l =>
   cases hg
   obtain⟨p,ys,rfl,Y,d1⟩:=hx.tupE
   refine ak0 G z s W H _ us Q I r ⟨p,ys,rfl,.inr Y,?_⟩
   rw[d1.length];exact q.here R rfl RV.intI
  | str l =>
   cases hg
   have J:=hx.strL
   have e:=hx.strE;subst e
   refine ax8 z s W H _ us Q I r ⟨_,rfl,by show l.toArray.size<=_;rw[aq];exact al J zM,?_⟩
   show Q (.int ((l.toArray.size:Nat):Int)) H
   rw[aq]
   exact q.here R rfl RV.intI
  | ref n =>
   have e:=hx.refE;subst e
   simp only at hg
   cases hs:st[n]? with
   | none=>rw[hs]at hg;cases hg
   | some o =>
    rw[hs]at hg
    cases o with
    | lst l =>
     cases hg
     obtain⟨ys,e1,d1⟩:=R.addr hs
     refine ak0 G z s W H _ us Q I r ⟨C n,ys,rfl,.inl (SqL.of e1),?_⟩
     rw[d1.length];exact q.here R rfl RV.intI
    | ro l =>
     cases hg
     obtain⟨ys,e1,d1⟩:=R.obj _ _ hs
     refine ak0 G z s W H _ us Q I r ⟨C n,ys,rfl,.inl e1.1,?_⟩
     rw[d1.length];exact q.here R rfl RV.intI
    | ins c l=>exact fb hg
  | _=>exact fb hg
 | abs =>
  cases hn
  have hf:(match ln l with|some [i]=>.ok (.int (if i<0 then -i else i)) st|_=>.bad:ky ko)=.ok d F:=hf
  split at hf
  .rename_i i e
   cases hf
   have:=zR e;subst this
   have:=RVL.ints hl;subst this
   exact bg9 z s W H _ us Q I r ⟨i,rfl,q.here R rfl RV.intI⟩
  .exact fb hf
 | min2 =>
  cases hn
  have hf:(match ln l with|some [a,b]=>.ok (.int (if b<a then b else a)) st|_=>.bad:ky ko)=.ok d F:=hf
  split at hf
  .rename_i a b e
   cases hf
   have:=zR e;subst this
   have:=RVL.ints hl;subst this
   exact aQ7 hc z s W H _ us Q I r ⟨_,_,rfl,q.here R rfl RV.intI⟩
  .exact fb hf
 | max2 =>
  cases hn
  have hf:(match ln l with|some [a,b]=>.ok (.int (if b > a then b else a)) st|_=>.bad:ky ko)=.ok d F:=hf
  split at hf
  .rename_i a b e
   cases hf
   have:=zR e;subst this
   have:=RVL.ints hl;subst this
   exact aW1 hc z s W H _ us Q I r ⟨_,_,rfl,q.here R rfl RV.intI⟩
  .exact fb hf
 | _=>cases hn
theorem aI0:∀ j:Nat,j<=9->bf (toString (j:Int))=(⟨[48+j].toArray⟩:Str):=by decide
theorem bI3:ac4 X (.type "int") (rCl Γ (lL .int)):=by
 intro z s W H Y us Q I r h
 obtain⟨C,st,l,d,G,R,hl,Z,hf,q⟩:=h
 have hf:(match lu l with|some [b]=>.ok (.int (if b then 1 else 0)) st|some _=>.bad|none=>DV.bp5 l st:ky ko)=.ok d G:=hf
 split at hf
 .rename_i b e
  cases hf
  have:=ak7 e;subst this
  have:=RVL.bls hl;subst this
  exact aP0 z s W H _ us Q I r (.inr ⟨b,rfl,q.here R rfl RV.intI⟩)
 .exact fb hf
 .unfold DV.bp5 at hf
  split at hf
  .rename_i c _ _
   split at hf
   .rename_i hc
    cases hf
    obtain⟨x,F,rfl,r1,J⟩:=hl.uncons
    cases(show F=[]from J)
    have:=r1.strE
    subst this
    obtain⟨u,rfl,t,rfl⟩:=qQ r
    obtain⟨j,hj,rfl⟩:∃ j:Nat,j<=9/\c=48+j:=⟨c - 48,by omega,by omega⟩
    rw[show(⟨[48+j].toArray⟩:Str)=bf (toString (j:Int))from(aI0 j hj).symm]
    refine PySem.W.KIN.call_num (by omega) (by omega) ⟨.int (j:Int),H,I.tok _,⟨_,rfl⟩,?_⟩
    have:=q.here R rfl (RV.intI (i:=((48+j - 48:Nat):Int)))
    rw[show 48+j - 48=j by omega]at this
    exact this
   .exact fb hf
  .exact fb hf
theorem bI0:ac4 X (.type "str") (rCl Γ (lL .str)):=by
 intro J s W H Z us Q I r h
 obtain⟨C,st,l,d,F,R,hl,Y,hf,q⟩:=h
 have hf:DV.bm8 l st=.ok d F:=hf
 unfold DV.bm8 at hf
 split at hf
 .rename_i i _
  split at hf
  .rename_i hi
   cases hf
   obtain⟨x,z,rfl,r1,G⟩:=hl.uncons
   cases(show z=[]from G)
   have:=r1.intE
   subst this
   obtain⟨u,rfl,t,rfl⟩:=qQ r
   obtain⟨j,rfl⟩:∃ j:Nat,i=(j:Int):=⟨i.toNat,by omega⟩
   have hj:j<=9:=by omega
   refine PySem.P.str_of_int ?_ ⟨.str ⟨[48+j].toArray⟩,H,I.tok _,⟨s.toks,?_⟩,?_⟩
   .have:(j:Int).natAbs.log2<=(j:Int).natAbs:=Nat.log2_le_self _
    omega
   .rw[<-aI0 j hj]
   .have:=q.here R rfl (RV.strI (x:=[48+(j:Int).toNat]) (by show 1<=kD;decide))
    rw[fi]at this
    exact this
  .exact fb hf
 .rename_i w _
  cases hf
  obtain⟨x,z,rfl,r1,G⟩:=hl.uncons
  cases(show z=[]from G)
  have e:=r1.strE
  subst e
  obtain⟨u,rfl,t,rfl⟩:=qQ r
  refine PySem.P.str_of_str ⟨.str ⟨w.toArray⟩,H,I,⟨_,rfl⟩,?_⟩
  unfold kr at Y
  exact q.here R rfl r1
 .exact fb hf
noncomputable def ao8:Nat->String
 | 1 => "int" | 2 => "bool" | 3 => "str" | 4 => "tuple" | _ => "list"
theorem bx4 {K:ac}(k:Nat)(hk:1<=k/\k<=5):aW K (.type "NoneType") (.type (ao8 k))=some false/\aW K (.type "bool") (.type (ao8 k))=some (k==1||k==2) /\
  aW K (.type "int") (.type (ao8 k))=some (k==1)/\aW K (.type "str") (.type (ao8 k))=some (k==3)/\aW K (.type "tuple") (.type (ao8 k))=some (k==4)/\aW K (.type "list") (.type (ao8 k))=some (k==5):=by
 obtain⟨z,h5⟩:=hk
 rcases(by omega:k=1\/k=2\/k=3\/k=4\/k=5)with h|h|h|h|h<;>subst h<;>refine⟨?_,?_,?_,?_,?_,?_⟩<;>with_unfolding_all rfl
theorem aM6 {F:yA}{W:St}{H:Hp}{s:ae}{A:aN}{E:Value->ae->Prop}{Q:Value->ae->Prop}{c:Value}{b:Bool}{a:Addr}{G:List V}(I:Inv X F W H s)(Y:SqT X.K H a G)(e:aW X.K (.type "tuple") c=some b)
  (h:∀ tk,Q (.bool b) { s with toks:=tk }):wpAny (model X.prog X.w) A (call (.builtin "isinstance") [.ref a,c]) Q E s:=by
 obtain⟨its,_,⟨o,g1,J,_⟩,_⟩:=I.tuple Y
 exact bM g6 I.kIn ⟨o,g1,J⟩ e (λ z=>nomatch z) h
theorem bL5 (hK:X.K=Γ.K){k:Nat}(hk:1<=k/\k<=5):ac4 X (.builtin "isinstance") (λ G H Q=>∃ x,G=[x,.ty (ao8 k)]/\rCl Γ (lS (lY k)) [x] H Q):=by
 intro F s W H G us Q I r h
 obtain⟨x,rfl,C,st,l,d,z,R,hl,nl,hf,q⟩:=h
 obtain⟨a,rfl,hg⟩:=aT6 hf
 clear hf
 obtain⟨u,w',rfl,r1,Z⟩:=aP2 r
 cases Z
 obtain⟨x',e',hx⟩:=hl.one
 cases e'
 obtain⟨k0,k1,k2,k3,Y,k5⟩:=bx4 (K:=X.K) k hk
 unfold lY at hg
 cases a with
 | non=>cases hg;have e:=hx.nonE;subst e;exact qB I r1 .non k0 λ tk=>⟨.bl _,H,I.tok _,rfl,q.here R rfl RV.blI⟩
 | bl b=>cases hg;have e:=hx.blE;subst e;exact qB I r1 (.bl b) k1 λ tk=>⟨.bl _,H,I.tok _,rfl,q.here R rfl RV.blI⟩
 | int b=>cases hg;have e:=hx.intE;subst e;exact qB I r1 (.int b) k2 λ tk=>⟨.bl _,H,I.tok _,rfl,q.here R rfl RV.blI⟩
 | str b=>cases hg;have e:=hx.strE;subst e;exact qB I r1 (.str _) k3 λ tk=>⟨.bl _,H,I.tok _,rfl,q.here R rfl RV.blI⟩
 | tup l =>
  cases hg
  obtain⟨p,ys,rfl,J,d1⟩:=hx.tupE
  cases r1
  rw[<-hK]at J
  exact aM6 I J Y λ tk=>⟨.bl _,H,I.tok _,rfl,q.here R rfl RV.blI⟩
 | ref n =>
  have e:=hx.refE;subst e
  have hg:(match st[n]? with|some (.lst _)=>.ok (.bl (k==5)) st|_=>.bad:ky ko)=.ok d z:=hg
  cases hs:st[n]? with
  | none=>rw[hs]at hg;cases hg
  | some o =>
   rw[hs]at hg
   cases o with
   | lst l =>
    cases hg
    obtain⟨ys,e1,d1⟩:=R.addr hs
    exact qB I r1 (.lst e1) k5 λ tk=>⟨.bl _,H,I.tok _,rfl,q.here R rfl RV.blI⟩
   | _=>exact fb hg
 | _=>exact fb hg
variable {X:Cx}
theorem bv8 {bs:List Bool}{its:yG}(r:Vals (bs.map V.bl) its){i:Nat}{v:Value}(h:its[i]?=some v):∃ z,bs[i]?=some z/\v=Value.bool z:=by
 induction bs generalizing its i with
 | nil=>rw[eU]at r;cases r;simp at h
 | cons b bs ih =>
  rw[bz]at r
  cases r with
  | cons r1 r2 =>
   cases i with
   | zero =>
    cases r1
    have:_=v:=ay h
    exact⟨b,rfl,this.symm⟩
   | succ i=>exact ih r2 h
theorem aO5 {bs:List Bool}:(bB bs.length).all (λ i=>bs.getD i false)=bs.all id:=by
 rw[bL,aB,aB]
 constructor
 .intro h b hb
  obtain⟨i,z,e⟩:=dj.mp hb
  have:=h i (cr.mpr z)
  rw[aQ,ag z]at this
  rw[<-e];exact this
 .intro h i z
  have z:=cr.mp z
  rw[aQ,ag z]
  exact h _ (bW z)
theorem aP8 {K:ac}(hc:X.calm=true)(hK:X.K=K):ac4 X (.builtin "all") (λ Z H Q=>∃(a:Addr) (bs:List Bool),Z=[.ref a]/\SqL K H a (bs.map V.bl)/\Q (.bl (bs.all id)) H):=by
 subst hK
 intro Y s W H Z us Q I r h
 obtain⟨a,bs,rfl,hS,q⟩:=h
 obtain⟨u,rfl,ru⟩:=qQ r
 cases ru
 obtain⟨its,rv,J,hz⟩:=I.list hS
 have hl:=rv.length
 rw[aI]at hl
 refine call_all_walk (db J.isList ?_)
 have G:a<s.heap.objs.size:=by obtain⟨o,_,e,_⟩:=J;exact aH e
 have Ww:=jy (prog:=X.prog) (w:=X.w) (A:=X.A.in1) (I.ok.hd hc) s.heap.objs.size a (aE G) its.toArray
 refine⟨_,_,_,_,_,_,λ i=>bs.getD i false,rfl,Ww,⟨⟨_,aX _ rfl,rfl,rfl⟩,?_⟩,λ i v s' Q' E' F hQ=>?_,λ h' tk k=>?_⟩
 .obtain⟨o,e,r⟩:=J.isList
  exact⟨o,av _ e,r⟩
 .obtain⟨z,e1,e2⟩:=bv8 rv (i:=i) (v:=v) (by have F:its.toArray[i]?=some v:=F;rw[c7]at F;exact F)
  subst e2
  refine b9 ?_
  have:bs.getD i false=z:=by rw[aQ,e1];rfl
  rw[<-this];exact hQ
 .have es:its.toArray.size=bs.length:=by rw[aq];omega
  rw[es,aO5]
  refine⟨.bl (bs.all id),H,I.kept (h':=h') (t':=tk) λ b o q=>k b o ?_ (av _ q),rfl,q⟩
  intro z
  have z':b=s.heap.objs.size:=by simpa using z
  exact absurd (aH q) (by rw[z'];exact bK _)
noncomputable def sgV (x:List Nat):List V:=x.map λ c=>.str ⟨#[c]⟩
theorem bq3 {vs:List V}{z:yG}(hl:vs.length=z.length)(h:∀(i:Nat) (x:V) (u:Value),vs[i]?=some x->z[i]?=some u->RelV x u):Vals vs z:=by
 induction vs generalizing z with
 | nil=>cases z with
  | nil=>exact .nil
  | cons _ _=>cases hl
 | cons v vs ih=>cases z with
  | nil=>cases hl
  | cons a z=>exact .cons (h 0 v a rfl rfl) (ih (by simpa using hl) λ i x u e1 e2=>h (i+1) x u e1 e2)
theorem ap3 {x:List Nat}{z:yJ}(h:ItemsOf (SignAt ⟨x.toArray⟩) z x.length):Vals (sgV x) z.toList:=by
 have hl:(sgV x).length=z.toList.length:=by unfold sgV;rw[aI];simpa using h.1.symm
 refine bq3 hl λ i v u e1 e2=>?_
 obtain⟨c,t,F,G⟩:=h.2 i u (by rw[<-f8];exact e2)
 unfold sgV at e1
 rw[a9]at e1
 have F:x[i]?=some c:=by simpa using F
 rw[F]at e1
 cases e1
 exact⟨t,G⟩
theorem aC4 (hc:X.calm=true):ac4 X (.type "tuple") (λ Y H Q=>∃ x:List Nat,Y=[.str ⟨x.toArray⟩]/\x.length<=kD/\∀ l,H l=none->Q (.ref l) (upd H l (.tup (sgV x)))):=by
 intro z s W H Y us Q I r h
 obtain⟨x,rfl,hl,q⟩:=h
 obtain⟨u,rfl,rx⟩:=qQ r
 obtain⟨t,rfl⟩:=rx
 have hz:(sgV x).length<=aM:=by unfold sgV;rw[aI];exact al hl zM
 refine call_tuple_str (I.ok.hd hc) _ t (λ h' tk F kp G=>?_) (by show x.toArray.size<=_;rw[aq];exact al hl zM)
 have G:ItemsOf (SignAt ⟨x.toArray⟩) F x.length:=by simpa using G
 have rv:=ap3 G
 have J:Inv X z W H { s with heap:=h',toks:=tk }:=I.kept (t':=tk) kp
 have Z:Inv X z W (upd H h'.objs.size (.tup (sgV x))) { s with heap:=h'.push { cls:=.type "tuple",data:=.seq F },toks:=tk } :=
  J.laid (t':=tk) (λ b o e=>av _ e) (ao _) (show ad4 X.prog X.w _ _ _ (.tup (sgV x))from⟨hz,F.toList,rv,iL _ _⟩)
 exact⟨.ref h'.objs.size,_,Z,rfl,q _ (J.hok.fresh (ao _))⟩
theorem aM5 (hc:X.calm=true):ac4 X (.type "list") (λ J H Q=>∃ x:List Nat,J=[.str ⟨x.toArray⟩]/\x.length<=kD/\∀ l,H l=none->Q (.ref l) (upd H l (.lst (sgV x)))):=by
 intro G s W H J us Q I r h
 obtain⟨x,rfl,hl,q⟩:=h
 obtain⟨u,rfl,Z⟩:=qQ r
 obtain⟨t,rfl⟩:=Z
 have hz:(sgV x).length<=aM:=by unfold sgV;rw[aI];exact al hl zM
 refine call_list_str (I.ok.hd hc) _ t (λ h' tk z c' kp e F=>?_) (by show x.toArray.size<=_;rw[aq];exact al hl zM)
 have F:ItemsOf (SignAt ⟨x.toArray⟩) z x.length:=by simpa using F
 have Y:=ap3 F
 exact⟨.ref s.heap.objs.size,_,I.laid (t':=tk) kp (ao _) (show ad4 X.prog X.w _ h' _ (.lst (sgV x))from⟨hz,z.toList,c',Y,e⟩),rfl,q _ (I.hok.fresh (ao _))⟩
section
variable {Γ:Gm} {C C':Nat->Addr} {H H' H1 H2 H3:Hp} {clos:yB} {s s':km}
theorem Gr.put (hc:Cells clos H)(G:∀ b,isC clos b=true->H' b=none)(hK:∀ b o,Γ.K.lookup b=some o->H b=none)(R':Rp Γ C' H' s')(g:Gr C s (au4 clos H) C' s' H'):Gr C s H C' s' (Put clos H H'):=by
 refine⟨⟨g.w.map,λ b o e f=>?_⟩,g.le,λ i h1 J=>?_,g.kd,λ b e=>?_,λ b o e Z no=>?_⟩
 .by_cases z:isC clos b=true
  .rw[Put.cell z];exact e
  .rw[Put.ne z];exact g.w.kp b o (by rw[au4.ne z];exact e) f
 .have hd:=g.new i h1 J
  by_cases z:isC clos (C' i)=true
  .have hg:=G _ z
   obtain⟨o,Y⟩:∃ o,s'[i]?=some o:=⟨s'[i],ag J⟩
   have F:=R'.obj i o Y
   cases o with
   | lst l=>obtain⟨xs,e,_⟩:=F;rw[hg]at e;cases e
   | ro l =>
    obtain⟨xs,e,_⟩:=F
    rcases e.1 with(e|⟨_,e⟩)|⟨ob,its,n,e,_⟩
    .rw[hg]at e;cases e
    .rw[hg]at e;cases e
    .exact hK _ _ e
   | ins _ _=>exact F.elim
  .rw[au4.ne z]at hd;exact hd
 .by_cases z:isC clos b=true
  .rw[Put.cell z];exact e
  .rw[Put.ne z];exact g.st b (by rw[au4.ne z];exact e)
 .by_cases z:isC clos b=true
  .rw[Put.cell z];exact e
  .rw[Put.ne z];exact g.fr b o (by rw[au4.ne z];exact e) Z no
theorem Cells.kp {H H':Hp}(h:Cells clos H)(k:Kp H H'):Cells clos H':=λ x c e=>by
 obtain⟨o,v,q,d⟩:=h x c e
 exact⟨o,v,k _ _ q rfl,d⟩
def PVp (Γ:Gm)(cells:yB)(N:yH)(W:St)(C:Nat->Addr)(H:Hp)(d:ko)(v:V):Prop:=RV Γ C H d v\/∃ id cs,d=.clo id cs/\∃ f J,v=.ref f/\Γ.lg id J/\az7 H f J (ao6 cells J.scope.names []) /\
  cs.length=J.fr.length/\(∀ x,J.scope.names.lookup x=some .free->∃ c,cells.lookup x=some c) /\
  ∃ cap,RVL Γ C H cs cap/\∀(i:Nat) (x:Str) (v:V),J.fr[i]?=some x->cap[i]?=some v->J.scope.names.lookup x=some .free/\∃ j:Nat,N[j]?=some x/\W[j]?=some (some v)
inductive PVL (Γ:Gm)(cells:yB)(N:yH)(W:St)(C:Nat->Addr)(H:Hp):List ko->List V->Prop where
 | nil:PVL Γ cells N W C H [] []
 | cons {d v l vs} (a:PVp Γ cells N W C H d v) (b:PVL Γ cells N W C H l vs):PVL Γ cells N W C H (d::l) (v::vs)
theorem PVp.mono {cells:yB}{N:yH}{W:St}{C C':Nat->Addr}{s s':km}{H H':Hp}(g:Gr C s H C' s' H'){d:ko}{v:V}(b:d.bnd s.length=true)(h:PVp Γ cells N W C H d v):PVp Γ cells N W C' H' d v:=by
 rcases h with h|⟨id,z,rfl,h⟩
 .exact .inl (RV.mono g _ _ b h)
 .obtain⟨f,J,e,G,Y,Z,h5,cap,h6,F⟩:=h
  unfold kA at b
  exact .inr ⟨id,z,rfl,f,J,e,G,Y.kp g.w.kp,Z,h5,cap,RVL.mono g z cap b h6,F⟩
end
variable {Γ:Gm} {X:Cx}
def TEv (Γ:Gm)(m:kq->km->ky ko):TE:=λ W H Q=>∃ C U s d s',RE Γ C H s.length U W/\Rp Γ C H s/\m U s=.ok d s'/\ae6 Γ C s H d s' Q
def bM8 (Γ:Gm)(C:Nat->Addr)(s:km)(H:Hp)(l:List ko)(s':km)(Q:List V->Hp->Prop):Prop :=
 ∀ vs C' H',Gr C s H C' s' H'->s.length<=s'.length->kr s'.length l=true->RVL Γ C' H' l vs->Rp Γ C' H' s'->Q vs H'
def TAv (Γ:Gm)(m:kq->km->ky (List ko)):TA:=λ W H Q=>∃ C U s l s',RE Γ C H s.length U W/\Rp Γ C H s/\m U s=.ok l s'/\bM8 Γ C s H l s' Q
def aH9 (Γ:Gm)(C:Nat->Addr)(s:km)(H:Hp)(b:Bool)(s':km)(Q:Bool->Hp->Prop):Prop :=
 ∀ C' H',Gr C s H C' s' H'->s.length<=s'.length->Rp Γ C' H' s'->Q b H'
def TTv (Γ:Gm)(m:kq->km->ky ko):TT:=λ W H Q=>∃ C U s b s',RE Γ C H s.length U W/\Rp Γ C H s/\m U s=.ok (.bl b) s'/\aH9 Γ C s H b s' Q
theorem PE.imp {e:Expr}{t t':TE}(h:PE X e t)(i:∀ W H Q,t' W H Q->t W H Q):PE X e t':=λ z s W H Q I q=>h z s W H Q I (i W H Q q)
theorem PT.imp {e:Expr}{t t':TT}(h:PT X e t)(i:∀ W H Q,t' W H Q->t W H Q):PT X e t':=λ z s W H Q I q=>h z s W H Q I (i W H Q q)
theorem PA.imp {e:yK}{t t':TA}(h:PA X e t)(i:∀ W H Q,t' W H Q->t W H Q):PA X e t':=λ pos z s W H Q I q=>h pos z s W H Q I (i W H Q q)
theorem aH9.trans {C C1:Nat->Addr}{s s1 s':km}{H z:Hp}{b:Bool}{Q:Bool->Hp->Prop}(h:aH9 Γ C s H b s' Q)(g:Gr C s H C1 s1 z)(l:s.length<=s1.length):aH9 Γ C1 s1 z b s' Q :=
 λ C' H' g' F p=>h C' H' (g.trans g' l) (al l F) p
theorem bM9 (i:Nat){W:St}{H:Hp}{Q:VK}(h:TEv Γ (λ U s=>DV.bk9 U i s) W H Q):bi2 i W H Q:=by
 obtain⟨C,U,s,d,s',E,R,hm,q⟩:=h
 simp only[DV.bk9]at hm
 split at hm
 .rename_i d' e
  cases hm
  obtain⟨b,v,e1,e2⟩:=E.val i _ e
  exact⟨v,e1,q.here R b e2⟩
 .exact fb hm
theorem az9 {c:ko}{v:V}(hb:∀ n,c.bnd n=true)(hv:∀ C H,RV Γ C H c v){W:St}{H:Hp}{Q:VK}(h:TEv Γ (λ U s=>.ok c s) W H Q):tC v W H Q:=by
 obtain⟨C,U,s,d,s',E,R,hm,q⟩:=h
 cases hm
 exact q.here R (hb _) (hv _ _)
theorem aZ4 {z G:kq->km->ky ko}{f:ko->ko->km->ky ko}{W:St}{H:Hp}{Q:VK}(h:TEv Γ (λ U s=>(z U s).bind λ x s=>(G U s).bind λ y s=>f x y s) W H Q):tOp (rOp Γ f) (TEv Γ z) (TEv Γ G) W H Q:=by
 obtain⟨C,U,s,d,s',E,R,hm,q⟩:=h
 obtain⟨x,s1,e1,hm⟩:=aa1 hm
 obtain⟨y,s2,e2,hm⟩:=aa1 hm
 refine⟨C,U,s,x,s1,E,R,e1,λ v1 C1 Z g1 l1 b1 r1 R1=>?_⟩
 refine⟨C1,U,s1,y,s2,E.mono g1 l1,R1,e2,λ v2 C2 H2 F J b2 Y R2=>?_⟩
 exact⟨C2,s2,x,y,d,s',R2,RV.mono F x v1 b1 r1,Y,zp J x b1,b2,hm,q.trans (g1.trans F l1) (al l1 J)⟩
theorem bV2 {m:kq->km->ky ko}{f:ko->km->ky ko}{r:V->Hp->VK->Prop}{W:St}{H:Hp}{Q:VK}(h:TEv Γ (λ U s=>(m U s).bind λ x s=>f x s) W H Q)
  (hr:∀ C s x d s' v H',Rp Γ C H' s->RV Γ C H' x v->x.bnd s.length=true->f x s=.ok d s'->ae6 Γ C s H' d s' Q->r v H' Q):tUn r (TEv Γ m) W H Q:=by
 obtain⟨C,U,s,d,s',E,R,hm,q⟩:=h
 obtain⟨x,s1,e1,hm⟩:=aa1 hm
 exact⟨C,U,s,x,s1,E,R,e1,λ v1 C1 z g1 l1 b1 r1 R1=>hr C1 s1 x d s' v1 z R1 r1 b1 hm (q.trans g1 l1)⟩
theorem zD {α:Type}{r:ky ko}{f:Bool->km->ky α}{a:α}{t:km}(h:kG r f=.ok a t):∃ b s,r=.ok (.bl b) s/\f b s=.ok a t:=by
 unfold kG at h
 obtain⟨d,s,e,h⟩:=aa1 h
 cases d with
 | bl b=>exact⟨b,s,e,h⟩
 | _=>exact fb h
theorem aU1 {m:kq->km->ky ko}{W:St}{H:Hp}{Q:Bool->Hp->Prop}(h:TTv Γ m W H Q):tB (TEv Γ m) W H Q:=by
 obtain⟨C,U,s,b,s',E,R,hm,q⟩:=h
 refine⟨C,U,s,.bl b,s',E,R,hm,λ v C' H' g l F r z=>?_⟩
 exact⟨b,r.blE,q C' H' g l z⟩
theorem aV5 {m:kq->km->ky ko}{W:St}{H:Hp}{Q:Bool->Hp->Prop}(h:TTv Γ m W H Q):bB0 (TEv Γ m) W H Q:=aU1 h
theorem bI1 {m:kq->km->ky ko}{W:St}{H:Hp}{Q:Bool->Hp->Prop}(h:TTv Γ (λ U s=>kG (m U s) λ b s=>.ok (.bl (!b)) s) W H Q):ca2 (TTv Γ m) W H Q:=by
 obtain⟨C,U,s,b,s',E,R,hm,q⟩:=h
 obtain⟨c,s1,e1,hm⟩:=zD hm
 cases hm
 exact⟨C,U,s,c,_,E,R,e1,q⟩
theorem bk5 {z F:kq->km->ky ko}{W:St}{H:Hp}{Q:Bool->Hp->Prop}(h:TTv Γ (λ U s=>kG (z U s) λ c s=>if c then kG (F U s) λ c s=>.ok (.bl c) s else .ok (.bl false) s) W H Q):bZ2 (TTv Γ z) (TTv Γ F) W H Q:=by
 obtain⟨C,U,s,b,s',E,R,hm,q⟩:=h
 obtain⟨c,s1,e1,hm⟩:=zD hm
 refine⟨C,U,s,c,s1,E,R,e1,λ C1 G g1 l1 R1=>?_⟩
 cases c with
 | true =>
  rw[if_pos rfl]at hm ⊢
  obtain⟨J,s2,e2,hm⟩:=zD hm
  cases hm
  exact⟨C1,U,s1,_,_,E.mono g1 l1,R1,e2,q.trans g1 l1⟩
 | false =>
  rw[if_neg aC]at hm ⊢
  cases hm
  exact q C1 G g1 l1 R1
theorem bF5 {z F:kq->km->ky ko}{W:St}{H:Hp}{Q:Bool->Hp->Prop}(h:TTv Γ (λ U s=>kG (z U s) λ c s=>if c then .ok (.bl true) s else kG (F U s) λ c s=>.ok (.bl c) s) W H Q):tOr (TTv Γ z) (TTv Γ F) W H Q:=by
 obtain⟨C,U,s,b,s',E,R,hm,q⟩:=h
 obtain⟨c,s1,e1,hm⟩:=zD hm
 refine⟨C,U,s,c,s1,E,R,e1,λ C1 G g1 l1 R1=>?_⟩
 cases c with
 | true =>
  rw[if_pos rfl]at hm ⊢
  cases hm
  exact q C1 G g1 l1 R1
 | false =>
  rw[if_neg aC]at hm ⊢
  obtain⟨J,s2,e2,hm⟩:=zD hm
  cases hm
  exact⟨C1,U,s1,_,_,E.mono g1 l1,R1,e2,q.trans g1 l1⟩
theorem bM5 {m:kq->km->ky ko}{W:St}{H:Hp}{Q:VK}(h:TEv Γ (λ U s=>kG (m U s) λ b s=>.ok (.bl (!b)) s) W H Q):bF3 (TEv Γ m) W H Q:=by
 obtain⟨C,U,s,d,s',E,R,hm,q⟩:=h
 obtain⟨c,s1,e1,hm⟩:=zD hm
 cases hm
 exact⟨C,U,s,.bl c,_,E,R,e1,λ v C1 z g l b r R1=>⟨c,r.blE,q _ C1 z g l rfl RV.blI R1⟩⟩
theorem bi8 {z F:kq->km->ky ko}{W:St}{H:Hp}{Q:VK}(h:TEv Γ (λ U s=>kG (z U s) λ c s=>if c then kG (F U s) λ c s=>.ok (.bl c) s else .ok (.bl false) s) W H Q):bL6 (TEv Γ z) (TEv Γ F) W H Q:=by
 obtain⟨C,U,s,d,s',E,R,hm,q⟩:=h
 obtain⟨c,s1,e1,hm⟩:=zD hm
 refine⟨C,U,s,.bl c,s1,E,R,e1,λ v C1 G g1 l1 b1 r1 R1=>⟨c,r1.blE,?_⟩⟩
 cases c with
 | true =>
  rw[if_pos rfl]at hm ⊢
  obtain⟨c,s2,e2,hm⟩:=zD hm
  cases hm
  exact⟨C1,U,s1,.bl c,_,E.mono g1 l1,R1,e2,q.trans g1 l1⟩
 | false =>
  rw[if_neg aC]at hm ⊢
  cases hm
  exact q _ C1 G g1 l1 rfl RV.blI R1
theorem bB9 {z F:kq->km->ky ko}{W:St}{H:Hp}{Q:VK}(h:TEv Γ (λ U s=>kG (z U s) λ c s=>if c then .ok (.bl true) s else kG (F U s) λ c s=>.ok (.bl c) s) W H Q):ca0 (TEv Γ z) (TEv Γ F) W H Q:=by
 obtain⟨C,U,s,d,s',E,R,hm,q⟩:=h
 obtain⟨c,s1,e1,hm⟩:=zD hm
 refine⟨C,U,s,.bl c,s1,E,R,e1,λ v C1 G g1 l1 b1 r1 R1=>⟨c,r1.blE,?_⟩⟩
 cases c with
 | true =>
  rw[if_pos rfl]at hm ⊢
  cases hm
  exact q _ C1 G g1 l1 rfl RV.blI R1
 | false =>
  rw[if_neg aC]at hm ⊢
  obtain⟨c,s2,e2,hm⟩:=zD hm
  cases hm
  exact⟨C1,U,s1,.bl c,_,E.mono g1 l1,R1,e2,q.trans g1 l1⟩
theorem bF0 {mc z F:kq->km->ky ko}{W:St}{H:Hp}{Q:VK}(h:TEv Γ (λ U s=>kG (mc U s) λ k s=>if k then z U s else F U s) W H Q):tIf (TTv Γ mc) (TEv Γ z) (TEv Γ F) W H Q:=by
 obtain⟨C,U,s,d,s',E,R,hm,q⟩:=h
 obtain⟨c,s1,e1,hm⟩:=zD hm
 refine⟨C,U,s,c,s1,E,R,e1,λ C1 G g1 l1 R1=>?_⟩
 cases c with
 | true =>
  rw[if_pos rfl]at hm ⊢
  exact⟨C1,U,s1,d,s',E.mono g1 l1,R1,hm,q.trans g1 l1⟩
 | false =>
  rw[if_neg aC]at hm ⊢
  exact⟨C1,U,s1,d,s',E.mono g1 l1,R1,hm,q.trans g1 l1⟩
theorem aI8 {W:St}{H:Hp}{Q:List V->Hp->Prop}(h:TAv Γ (λ U s=>.ok [] s) W H Q):aY1 W H Q:=by
 obtain⟨C,U,s,d,s',E,R,hm,q⟩:=h
 cases hm
 exact q [] C H (Gr.refl _ _ _) (ao _) rfl .nil R
theorem bq1 {m:kq->km->ky ko}{G:kq->km->ky (List ko)}{W:St}{H:Hp}{Q:List V->Hp->Prop}(h:TAv Γ (λ U s=>(m U s).bind λ d s=>(G U s).bind λ l s=>.ok (d::l) s) W H Q):an3 (TEv Γ m) (TAv Γ G) W H Q:=by
 obtain⟨C,U,s,l,s',E,R,hm,q⟩:=h
 obtain⟨x,s1,e1,hm⟩:=aa1 hm
 obtain⟨y,s2,e2,hm⟩:=aa1 hm
 cases hm
 refine⟨C,U,s,x,s1,E,R,e1,λ v1 C1 H1 g1 l1 b1 r1 R1=>?_⟩
 refine⟨C1,U,s1,y,_,E.mono g1 l1,R1,e2,λ Y C2 Z z F b2 J R2=>?_⟩
 refine q (v1::Y) C2 Z (g1.trans z l1) (al l1 F) ?_ (.cons (RV.mono z x v1 b1 r1) J) R2
 unfold kr
 rw[zp F x b1,b2];rfl
theorem aB9 {z:kq->km->ky (List ko)}{f:List ko->km->ky ko}{W:St}{H:Hp}{Q:VK}(h:TEv Γ (λ U s=>(z U s).bind λ l s=>f l s) W H Q):tCB (rCl Γ f) (TAv Γ z) W H Q:=by
 obtain⟨C,U,s,d,s',E,R,hm,q⟩:=h
 obtain⟨l,s1,e1,hm⟩:=aa1 hm
 exact⟨C,U,s,l,s1,E,R,e1,λ vs C1 F g1 l1 b1 r1 R1=>⟨C1,s1,l,d,s',R1,r1,b1,hm,q.trans g1 l1⟩⟩
theorem bz0 {m:kq->km->ky ko}{ml mh:kq->km->ky ko}{W:St}{H:Hp}{Q:VK} :
  (TEv Γ (λ U s=>(m U s).bind λ x s=>(ml U s).bind λ y s=>match y with|.int i=>lG x (some i) none s|_=>.bad) W H Q->tSl (rSl Γ) (TEv Γ m) (aS8 (TEv Γ ml)) aD9 W H Q) /\
  (TEv Γ (λ U s=>(m U s).bind λ x s=>(mh U s).bind λ y s=>match y with|.int i=>lG x none (some i) s|_=>.bad) W H Q->tSl (rSl Γ) (TEv Γ m) aD9 (aS8 (TEv Γ mh)) W H Q) /\
  (TEv Γ (λ U s=>(m U s).bind λ x s=>(ml U s).bind λ y s=>match y with|.int i=>(mh U s).bind (λ z s=>match z with|.int j=>lG x (some i) (some j) s|_=>.bad)|_=>.bad) W H Q->tSl (rSl Γ) (TEv Γ m) (aS8 (TEv Γ ml)) (aS8 (TEv Γ mh)) W H Q):=by
 refine⟨λ h=>?_,λ h=>?_,λ h=>?_⟩
 .obtain⟨C,U,s,d,s',E,R,hm,q⟩:=h
  obtain⟨x,s1,e1,hm⟩:=aa1 hm
  obtain⟨y,s2,e2,hm⟩:=aa1 hm
  refine⟨C,U,s,x,s1,E,R,e1,λ v1 C1 Z g1 l1 b1 r1 R1=>?_⟩
  refine⟨C1,U,s1,y,s2,E.mono g1 l1,R1,e2,λ v2 C2 H2 G F b2 J R2=>?_⟩
  cases y with
  | int i=>exact⟨i,J.intE,C2,s2,x,d,s',R2,RV.mono G x v1 b1 r1,zp F x b1,hm,q.trans (g1.trans G l1) (al l1 F)⟩
  | _=>exact fb hm
 .obtain⟨C,U,s,d,s',E,R,hm,q⟩:=h
  obtain⟨x,s1,e1,hm⟩:=aa1 hm
  obtain⟨y,s2,e2,hm⟩:=aa1 hm
  refine⟨C,U,s,x,s1,E,R,e1,λ v1 C1 Z g1 l1 b1 r1 R1=>?_⟩
  refine⟨C1,U,s1,y,s2,E.mono g1 l1,R1,e2,λ v2 C2 H2 G F b2 J R2=>?_⟩
  cases y with
  | int i=>exact⟨i,J.intE,C2,s2,x,d,s',R2,RV.mono G x v1 b1 r1,zp F x b1,hm,q.trans (g1.trans G l1) (al l1 F)⟩
  | _=>exact fb hm
 .obtain⟨C,U,s,d,s',E,R,hm,q⟩:=h
  obtain⟨x,s1,e1,hm⟩:=aa1 hm
  obtain⟨y,s2,e2,hm⟩:=aa1 hm
  refine⟨C,U,s,x,s1,E,R,e1,λ v1 C1 Z g1 l1 b1 r1 R1=>?_⟩
  refine⟨C1,U,s1,y,s2,E.mono g1 l1,R1,e2,λ v2 C2 H2 G F b2 J R2=>?_⟩
  cases y with
  | int i =>
   obtain⟨z,s3,e3,hm⟩:=aa1 hm
   refine⟨i,J.intE,C2,U,s2,z,s3,E.mono (g1.trans G l1) (al l1 F),R2,e3,λ v3 C3 H3 Y l3 b3 r3 R3=>?_⟩
   cases z with
   | int j=>exact⟨j,r3.intE,C3,s3,x,d,s',R3,RV.mono (G.trans Y F) x v1 b1 r1,zp (al F l3) x b1,hm,q.trans ((g1.trans G l1).trans Y (al l1 F)) (al (al l1 F) l3)⟩
   | _=>exact fb hm
  | _=>exact fb hm
variable {Γ:Gm} {X:Cx}
def am7 (Γ:Gm)(J:It)(C0:Nat->Addr)(H0:Hp)(s0:km)(q:lv):Prop :=
 ∀ C H s,Gr C0 s0 H0 C s H->s0.length<=s.length->Rp Γ C H s->kT s0 s q.src=true->∀ i:Nat,
  (i<q.its.length->J.go i H/\∀ x H',J.yld i H x H'->ad3 H H'/\∀ d,q.its[i]?=some d->RV Γ C H' d x)/\(q.its.length<=i->J.stop i H)
def TIv (Γ:Gm)(m:kq->km->ky lv):TI:=λ W H R=>∃ C U s q s',RE Γ C H s.length U W/\Rp Γ C H s/\m U s=.ok q s' /\
 ∀ J C' H',Gr C s H C' s' H'->s.length<=s'.length->kr s'.length q.its=true->Rp Γ C' H' s'->am7 Γ J C' H' s' q->R J H'
theorem PI.imp {tg e:Expr}{t t':TI}(h:PI X tg e t)(i:∀ W H R,t' W H R->t W H R):PI X tg e t':=λ z s W H R I q=>h z s W H R I (i W H R q)
theorem PI.or {tg e:Expr}{t t':TI}(h:PI X tg e t)(h':PI X tg e t'):PI X tg e (λ W H R=>t W H R\/t' W H R):=λ z s W H R I q=>q.elim (h z s W H R I) (h' z s W H R I)
theorem bd9 {C0:Nat->Addr}{H0:Hp}{s0:km}{a:Addr}{z:List V}{l:List ko}(h:SqT Γ.K H0 a z)(hl:RVL Γ C0 H0 l z)(hb:kr s0.length l=true):am7 Γ (Itt Γ.K a) C0 H0 s0 ⟨l,[]⟩:=by
 intro C H s g _ R _ i
 have h':=g.w.kp.sqT h
 have F:=RVL.mono g l z hb hl
 refine⟨λ hlt=>⟨⟨z,z[i]'(by rw[F.length];exact hlt),h',ag _⟩,λ x H' y=>?_⟩,λ G=>⟨z,h',by rw[F.length];exact G⟩⟩
 obtain⟨e,y⟩:=y
 subst e
 refine⟨ad3.refl _,λ d hd=>?_⟩
 obtain⟨v,e1,e2⟩:=F.get hd
 rw[y z h']at e1;cases e1
 exact e2
theorem br1 {C0:Nat->Addr}{H0:Hp}{s0:km}{a:Addr}{z:List V}{l:List ko}(h:SqF Γ.K H0 a z)(hl:RVL Γ C0 H0 l z)(hb:kr s0.length l=true):am7 Γ (Itl Γ.K a) C0 H0 s0 ⟨l,[]⟩:=by
 intro C H s g _ R _ i
 have h':=h.2 _ g.w.kp
 have F:=RVL.mono g l z hb hl
 refine⟨λ hlt=>⟨⟨z,z[i]'(by rw[F.length];exact hlt),h',ag _⟩,λ x H' y=>?_⟩,λ G=>⟨z,h',by rw[F.length];exact G⟩⟩
 obtain⟨e,y⟩:=y
 subst e
 refine⟨ad3.refl _,λ d hd=>?_⟩
 obtain⟨v,e1,e2⟩:=F.get hd
 rw[y z h']at e1;cases e1
 exact e2
theorem bg2 {C0:Nat->Addr}{H0:Hp}{s0:km}{r:Nat}{l:List ko}(hr:s0[r]?=some (.lst l)):am7 Γ (Itl Γ.K (C0 r)) C0 H0 s0 ⟨l,[r]⟩:=by
 intro C H s g _ R Y i
 have G:r<s0.length:=(af.mp hr).1
 have hs:s[r]?=some (.lst l):=by
  unfold kT at Y
  simp only[d6,List.all_nil,jT,decide_eq_true_eq]at Y
  rw[Y];exact hr
 obtain⟨F,e,z⟩:=R.addr hs
 rw[g.w.map r G]at e
 have h':SqL Γ.K H (C0 r) F:=SqL.of e
 refine⟨λ hlt=>⟨⟨F,F[i]'(by rw[z.length];exact hlt),h',ag _⟩,λ x H' y=>?_⟩,λ J=>⟨F,h',by rw[z.length];exact J⟩⟩
 obtain⟨e,y⟩:=y
 subst e
 refine⟨ad3.refl _,λ d hd=>?_⟩
 obtain⟨v,e1,e2⟩:=z.get hd
 rw[y F h']at e1;cases e1
 exact e2
theorem bc2 {C0:Nat->Addr}{H0:Hp}{s0:km}{l:List Nat}:am7 Γ (Its ⟨l.toArray⟩) C0 H0 s0 ⟨l.map λ c=>.str [c],[]⟩:=by
 intro C H s g _ R _ i
 have z:(⟨l.toArray⟩:Str).cps.size=l.length:=by simp
 refine⟨λ hlt=>?_,λ F=>?_⟩
 .simp only[aI]at hlt
  refine⟨show i<(⟨l.toArray⟩:Str).cps.size by rw[z];exact hlt,λ x H' y=>?_⟩
  obtain⟨e,c,hc,rfl⟩:=y
  subst e
  refine⟨ad3.refl _,λ d hd=>?_⟩
  have G:l[i]?=some c:=by simpa using hc
  rw[a9,G]at hd
  cases hd
  exact RV.strI (by simp;decide)
 .simp only[aI]at F
  show(⟨l.toArray⟩:Str).cps.size<=i
  rw[z];exact F
theorem bd6 {C0:Nat->Addr}{H0:Hp}{s0:km}{a b:Int}:am7 Γ (Itr a (b - a).toNat) C0 H0 s0 ⟨lw a b,[]⟩:=by
 intro C H s g _ R _ i
 have hn:(lw a b).length=(b - a).toNat:=by simp[lw]
 refine⟨λ hlt=>⟨show i<(b - a).toNat by rw[<-hn];exact hlt,λ x H' y=>?_⟩,λ z=>show(b - a).toNat<=i by rw[<-hn];exact z⟩
 obtain⟨e,rfl⟩:=y
 subst e
 refine⟨ad3.refl _,λ d hd=>?_⟩
 simp only[lw]at hd hlt
 rw[a9,eQ (by simpa using hlt)]at hd
 cases hd
 exact RV.intI
theorem aR1 {C0:Nat->Addr}{H0:Hp}{s0:km}{a b:Int}:am7 Γ (bT0 a ((b - a+1) / 2).toNat) C0 H0 s0 ⟨lx a b 2,[]⟩:=by
 intro C H s g _ R _ i
 have G:lx a b 2=(bB ((b - a+1) / 2).toNat).map λ(k:Nat)=>.int (a+2*k):=by
  unfold lx
  rw[if_pos (by decide),show b - a+2 - 1=b - a+1 by omega]
 have hn:(lx a b 2).length=((b - a+1) / 2).toNat:=by rw[G];simp
 refine⟨λ hlt=>⟨show i<((b - a+1) / 2).toNat by rw[<-hn];exact hlt,λ x H' y=>?_⟩,λ F=>show((b - a+1) / 2).toNat<=i by rw[<-hn];exact F⟩
 obtain⟨e,rfl⟩:=y
 subst e
 refine⟨ad3.refl _,λ d hd=>?_⟩
 have z:i<((b - a+1) / 2).toNat:=by rw[<-hn];exact hlt
 simp only[G]at hd
 rw[a9,eQ z]at hd
 cases hd
 rw[Int.mul_comm]
 exact RV.intI
theorem bw4 {F G:kq->km->ky ko}{W:St}{H:Hp}{R:It->Hp->Prop}(h:TIv Γ (λ U s=>(F U s).bind λ x s=>(G U s).bind λ y s=>match x,y with|.int i,.int j=>if(2:Int)=2/\(0<=i/\i<1048576)/\0<=j/\j<1048576 then .ok ⟨lx i j 2,[]⟩ s else .bad|_,_=>.bad) W H R) :
  bl3 (an3 (TEv Γ F) (an3 (TEv Γ G) (an3 (tC (.int 2)) aY1))) W H R:=by
 obtain⟨C,U,s,q,s',E,P,hm,k⟩:=h
 obtain⟨x,s1,e1,hm⟩:=aa1 hm
 obtain⟨y,s2,e2,hm⟩:=aa1 hm
 refine⟨C,U,s,x,s1,E,P,e1,λ v C1 H1 g l b r P1=>?_⟩
 refine⟨C1,U,s1,y,s2,E.mono g l,P1,e2,λ v2 C2 H2 Z l2 b2 Y J=>?_⟩
 cases x with
 | int i =>
  cases y with
  | int j =>
   simp only at hm
   split at hm
   .rename_i z
    cases hm
    refine⟨i,j,by rw[r.intE,Y.intE],⟨z.2.1.1,z.2.1.2,z.2.2.1,z.2.2.2⟩,k _ C2 H2 (g.trans Z l) (al l l2) ?_ J aR1⟩
    refine ab6.mpr λ d hd=>?_
    unfold lx at hd
    rw[if_pos (by decide),bC]at hd
    obtain⟨_,_,rfl⟩:=hd
    rfl
   .exact fb hm
  | _=>exact fb hm
 | _=>cases y<;>cases hm
theorem bv2 {m:kq->km->ky ko}{W:St}{H:Hp}{R:It->Hp->Prop}(h:TIv Γ (λ U s=>(m U s).bind λ x s=>match x with|.int i=>if -lZ<=i/\i<lZ then .ok ⟨lw 0 i,[]⟩ s else .bad|_=>.bad) W H R) :
  bA9 (an3 (TEv Γ m) aY1) W H R:=by
 obtain⟨C,U,s,q,s',E,P,hm,k⟩:=h
 obtain⟨x,s1,e1,hm⟩:=aa1 hm
 refine⟨C,U,s,x,s1,E,P,e1,λ v C1 F g l b r G=>?_⟩
 cases x with
 | int i =>
  simp only at hm
  split at hm
  .rename_i z
   cases hm
   have hw:lZ=2^62:=by decide
   rw[hw]at z
   refine⟨i,by rw[r.intE],z.1,z.2,k _ C1 F g l ?_ G ?_⟩
   .refine ab6.mpr λ d hd=>?_
    simp only[lw,bC]at hd
    obtain⟨_,_,rfl⟩:=hd
    rfl
   .have:=bd6 (Γ:=Γ) (C0:=C1) (H0:=F) (s0:=s') (a:=0) (b:=i)
    rwa [Int.sub_zero]at this
  .exact fb hm
 | _=>exact fb hm
theorem bH5 {m:kq->km->ky ko}{W:St}{H:Hp}{R:It->Hp->Prop}(h:TIv Γ (λ U s=>(m U s).bind λ d s=>DV.aY3 d s) W H R) :
  bS4 Γ.K (TEv Γ m) W H R\/bp1 Γ.K (TEv Γ m) W H R\/bY6 (TEv Γ m) W H R:=by
 obtain⟨C,U,s,q,s',E,P,hm,k⟩:=h
 obtain⟨x,s1,e1,hm⟩:=aa1 hm
 unfold DV.aY3 at hm
 cases x with
 | tup l =>
  cases hm
  refine .inl ⟨C,U,s,_,_,E,P,e1,λ v C1 F g l b r z=>?_⟩
  obtain⟨a,G,rfl,Z,d1⟩:=r.tupE
  unfold kA at b
  exact⟨a,rfl,⟨G,Z⟩,k _ C1 F g l b z (bd9 Z d1 b)⟩
 | str l =>
  cases hm
  refine .inr (.inr ⟨C,U,s,_,_,E,P,e1,λ v C1 F g J b r z=>?_⟩)
  refine⟨_,r.strE,k _ C1 F g J ?_ z bc2⟩
  refine ab6.mpr λ d hd=>?_
  simp only[bC]at hd
  obtain⟨_,_,rfl⟩:=hd
  rfl
 | ref r =>
  simp only at hm
  cases hs:s1[r]? with
  | none=>rw[hs]at hm;cases hm
  | some o =>
   rw[hs]at hm
   cases o with
   | lst l =>
    cases hm
    refine .inr (.inl ⟨C,U,s,_,_,E,P,e1,λ v C1 F g J b Y z=>?_⟩)
    have e:=Y.refE;subst e
    obtain⟨G,e2,d1⟩:=z.addr hs
    have wf:=z.wf _ _ hs
    unfold kC at wf
    exact⟨C1 r,rfl,⟨G,SqL.of e2⟩,k _ C1 F g J wf z (bg2 hs)⟩
   | ro l =>
    cases hm
    refine .inr (.inl ⟨C,U,s,_,_,E,P,e1,λ v C1 F g J b Y z=>?_⟩)
    have e:=Y.refE;subst e
    obtain⟨G,e2,d1⟩:=z.obj _ _ hs
    have wf:=z.wf _ _ hs
    unfold kC at wf
    exact⟨C1 r,rfl,⟨G,e2.1⟩,k _ C1 F g J wf z (br1 e2 d1 wf)⟩
   | ins c l=>exact fb hm
 | _=>exact fb hm
variable {Γ:Gm} {X:Cx}
noncomputable def bO6:List Nat->TGs
 | []=>bZ8
 | i::is=>bI5 (ax2 i) (bO6 is)
noncomputable def gOf (K:ac):kY->TG
 | .one i=>ax2 i
 | .tup is=>bT5 K is.length (bO6 is)
theorem bm0 {C:Nat->Addr}{H:Hp}{n:Nat}{U U':kq}{W:St}{i:Nat}{d:ko}{v:V}(E:RE Γ C H n U W)(r:RV Γ C H d v)(b:d.bnd n=true)(h:ly U i d=some U'):RE Γ C H n U' (W.set i (some v)):=by
 unfold ly at h
 split at h
 .rename_i z
  cases h
  refine⟨by rw[br,br];exact E.len,λ j e hj=>?_⟩
  by_cases hij:j=i
  .subst hij
   rw[aR z]at hj
   cases hj
   exact⟨b,v,by rw[aR (by rw[<-E.len];exact z)],r⟩
  .rw[aU (dq hij)]at hj
   obtain⟨G,w,J,F⟩:=E.val j e hj
   exact⟨G,w,by rw[aU (dq hij)];exact J,F⟩
 .cases h
theorem bE6 {C:Nat->Addr}{H:Hp}{n:Nat}{Q:St->Hp->Prop}:∀(is:List Nat) (l:List ko) (z:List V) (U U':kq) (W:St),RE Γ C H n U W->RVL Γ C H l z->kr n l=true->lH U is l=some U'->(∀ W',RE Γ C H n U' W'->Q W' H)->bO6 is z W H Q
 | [],[],z,U,U',W,E,r,_,h,k=>by
  cases h
  exact⟨r.unnil,k W E⟩
 | [],d::l,_,_,_,_,_,_,_,h,_=>by cases h
 | i::is,[],_,_,_,_,_,_,_,h,_=>by cases h
 | i::is,d::l,z,U,U',W,E,r,b,h,k=>by
  have h:(ly U i d).bind (λ U=>lH U is l)=some U':=h
  obtain⟨x,F,rfl,G,J⟩:=r.uncons
  unfold kr at b
  rw[am]at b
  cases e:ly U i d with
  | none=>rw[e]at h;cases h
  | some U1 =>
   rw[e]at h
   exact⟨x,F,rfl,bE6 is l F U1 U' _ (bm0 E G b.1 e) J b.2 h k⟩
theorem aT3 {l:List ko}:∀ {is:List Nat} {U U':kq},lH U is l=some U'->is.length=l.length:=by
 induction l with
 | nil=>intro is U U' h;cases is with
  | nil=>rfl
  | cons i is=>cases h
 | cons d l ih=>intro is U U' h;cases is with
  | nil=>cases h
  | cons i is =>
   have h:(ly U i d).bind (λ U=>lH U is l)=some U':=h
   cases e:ly U i d with
   | none=>rw[e]at h;cases h
   | some U1=>rw[e]at h;rw[aA,aA,ih h]
theorem bb5 {C:Nat->Addr}{H:Hp}{n:Nat}{Q:St->Hp->Prop}{tg:kY}{d:ko}{v:V}{U U':kq}{W:St}(E:RE Γ C H n U W)(r:RV Γ C H d v)(b:d.bnd n=true)(h:kN U tg d=some U')(k:∀ W',RE Γ C H n U' W'->Q W' H):gOf Γ.K tg v W H Q:=by
 cases tg with
 | one i=>exact k _ (bm0 E r b h)
 | tup is =>
  cases d with
  | tup l =>
   have h:lH U is l=some U':=h
   obtain⟨a,z,rfl,F,d1⟩:=r.tupE
   unfold kA at b
   exact⟨a,z,rfl,F,by rw[d1.length,aT3 h],bE6 is l z U U' W E d1 b h k⟩
  | _=>cases h
def Off (C:Nat->Addr)(s:km)(b:Addr):Prop:=∀(i:Nat) (ob:kS),s[i]?=some ob->isMut ob=true->C i≠b
theorem Off.mono {C C':Nat->Addr}{s s':km}{H H':Hp}{b:Addr}{o:HO}(h:Off C s b)(g:Gr C s H C' s' H')(hb:H b=some o):Off C' s' b:=λ i ob e m z=>by
 by_cases J:i<s.length
 .obtain⟨F,G⟩:∃ F,s[i]?=some F:=⟨s[i],ag J⟩
  exact h i F G (g.mu i F ob G e m) (by rw[<-g.w.map i J];exact z)
 .have:=g.new i (by omega) (af.mp e).1
  rw[z,hb]at this;cases this
theorem Off.new {C:Nat->Addr}{s:km}{H:Hp}{b:Addr}(r:Rp Γ C H s)(h:H b=none):Off C s b:=λ i ob e m z=>by
 obtain⟨u,hu,_⟩:=(r.obj i ob e).there m
 rw[z,h]at hu;cases hu
theorem Rp.foreign {C:Nat->Addr}{s:km}{H:Hp}{b:Addr}{ys z:List V}(r:Rp Γ C H s)(hb:H b=some (.lst ys))(ho:Off C s b):Rp Γ C (upd H b (.lst z)) s:=by
 have g:Gw C s.length H C (upd H b (.lst z)):=⟨λ _ _=>rfl,(Kp.refl H).put hb rfl⟩
 exact⟨r.inj,λ i o e=>(r.obj i o e).mono g (r.wf i o e) λ m u hu=>by rw[zn (ho i o e m)];exact hu,r.wf,r.tab.put hb⟩
theorem Gr.foreign {C C':Nat->Addr}{s s':km}{H H':Hp}{b:Addr}{ys F:List V}(g:Gr C s H C' s' H')(h0:H b=none)(hb:H' b=some (.lst ys)):Gr C s H C' s' (upd H' b (.lst F)):=by
 have ne:∀ c o,H c=some o->c≠b:=λ c o e=>zf e h0
 refine⟨⟨g.w.map,λ c o e f=>?_⟩,g.le,g.new,g.kd,λ c hc=>?_,λ c o e z no=>?_⟩
 .rw[zn (ne c o e)];exact g.w.kp c o e f
 .unfold upd;split
  .simp
  .exact g.st c hc
 .rw[zn (ne c o e)];exact g.fr c o e z no
def bC5 (Γ:Gm)(C:Nat->Addr)(s:km)(H:Hp)(l:List ko)(s':km)(Q:VK):Prop :=
 ∀ p ys C' H',Gr C s H C' s' H'->s.length<=s'.length->kr s'.length l=true->H' p=some (.lst ys)->H p=none->Off C' s' p->RVL Γ C' H' l ys->Rp Γ C' H' s'->Q (.ref p) H'
def TFv (Γ:Gm)(m:kq->km->ky (List ko)):TE:=λ W H Q=>∃ C U s l s',RE Γ C H s.length U W/\Rp Γ C H s/\m U s=.ok l s'/\bC5 Γ C s H l s' Q
theorem aR2 {m:kq->km->ky (List ko)}{W:St}{H:Hp}{Q:VK}(h:TEv Γ (λ U s=>(m U s).bind λ l s=>ls (.lst l) s) W H Q):TFv Γ m W H Q:=by
 obtain⟨C,U,s,d,s',E,R,hm,q⟩:=h
 obtain⟨l,s1,e1,hm⟩:=aa1 hm
 obtain⟨rfl,rfl⟩:=qe hm
 refine⟨C,U,s,l,s1,E,R,e1,λ p ys C' H' g hl hb hp h0 ho r J=>?_⟩
 have gw:Gw C' s1.length H' (λ i=>if i=s1.length then p else C' i) H':=⟨λ i z=>if_neg (aE z),Kp.refl _⟩
 have key:∀(i:Nat) (F:kS),(s1++[DV.O.lst l])[i]?=some F->(i<s1.length/\s1[i]?=some F)\/(i=s1.length/\F=.lst l):=λ i F e=>by
  rcases fq i s1.length with h|h|h
  .rw[aS h]at e;exact .inl ⟨h,e⟩
  .subst h;simp at e;exact .inr ⟨rfl,e.symm⟩
  .rw[c8 (by simp;omega)]at e;cases e
 have G:Gr C s H (λ i=>if i=s1.length then p else C' i) (s1++[.lst l]) H':=by
  refine⟨⟨λ i z=>by show(if i=s1.length then p else C' i)=_;rw[if_neg (by omega)];exact g.w.map i z,g.w.kp⟩,by simp;omega,λ i h1 h2=>?_,λ i o F e e'=>?_,g.st,g.fr⟩
  .by_cases z:i=s1.length
   .show H (if i=s1.length then p else C' i)=none
    rw[if_pos z];exact h0
   .show H (if i=s1.length then p else C' i)=none
    rw[if_neg z];exact g.new i h1 (by simp at h2;omega)
  .rcases key i F e' with⟨_,e2⟩|⟨z,_⟩
   .exact g.kd i o F e e2
   .have:=(af.mp e).1;omega
 have P:Rp Γ (λ i=>if i=s1.length then p else C' i) H' (s1++[.lst l]):=by
  refine⟨λ i j Z oj Y ej mi mj e=>?_,λ i o e=>?_,λ i o e=>?_,J.tab⟩
  .rcases key i Z Y with⟨z,Y⟩|⟨z,_⟩<;>rcases key j oj ej with⟨hj,ej⟩|⟨hj,_⟩
   .rw[if_neg (aE z),if_neg (aE hj)]at e
    exact J.inj i j Z oj Y ej mi mj e
   .rw[if_neg (aE z),if_pos hj]at e
    exact absurd e (ho i Z Y mi)
   .rw[if_neg (aE hj),if_pos z]at e
    exact absurd e.symm (ho j oj ej mj)
   .rw[z,hj]
  .rcases key i o e with⟨z,e⟩|⟨z,rfl⟩
   .show RO Γ _ _ (if i=s1.length then p else C' i) o
    rw[if_neg (aE z)]
    exact(J.obj i o e).mono gw (J.wf i o e) λ _ u hu=>hu
   .show RO Γ _ _ (if i=s1.length then p else C' i) _
    rw[if_pos z]
    exact⟨ys,hp,RVL.monoW gw l ys hb r⟩
  .rw[au,bn]
   rcases key i o e with⟨_,e⟩|⟨_,rfl⟩
   .exact zQ (d9 _) _ (J.wf i o e)
   .exact zQ (d9 _) _ (by unfold kC;exact hb)
 exact q (.ref p) _ H' G (by simp;omega) (by unfold kA;simp) (by unfold RV;simp) P
theorem bN2 {C:Nat->Addr}{H:Hp}{n:Nat}{U:kq}{W:St}(E:RE Γ C H n U W)(z:yD):RE Γ C H n (li U z) (az2 z W):=by
 refine⟨by unfold li az2;simp,λ i d e=>?_⟩
 unfold li at e
 rw[a9]at e
 cases q:z[i]? with
 | none=>rw[q]at e;cases e
 | some o =>
  rw[q]at e
  cases o with
  | none=>cases e
  | some j =>
   have e':(U[j]?).join=some d:=ay e
   have ej:U[j]?=some (some d):=by
    cases q2:U[j]? with
    | none=>rw[q2]at e';cases e'
    | some o2=>rw[q2]at e';exact congrArg some e'
   obtain⟨b,v,F,G⟩:=E.val j d ej
   refine⟨b,v,?_,G⟩
   unfold az2
   rw[a9,q]
   show some ((W[j]?).join)=_
   rw[F];rfl
theorem aW2 {mI:kq->km->ky lv}{mc me:kq->km->ky ko}{tg:kY}{Y:yD}{W:St}{H:Hp}{Q:VK}
  (h:TFv Γ (λ U s=>(mI U s).bind λ q s0=>if q.its.length<=kD then lz (λ s=>kT s0 s q.src) (λ d U s=>match kN U tg d with
   | some U=>kG (mc U s) λ k s=>if k then(me U s).bind λ v s=>.ok (some v,U) s else .ok (none,U) s
   | none=>.bad) q.its (li U Y) s0 else .bad) W H Q):tComp Y (TIv Γ mI) (gOf Γ.K tg) (TTv Γ mc) (TEv Γ me) W H Q:=by
 obtain⟨C,U,s,l,s',E,R,hm,k⟩:=h
 obtain⟨q,s0,e1,hm⟩:=aa1 hm
 split at hm
 case isFalse=>exact fb hm
 rename_i b4
 refine⟨C,U,s,q,s0,E,R,e1,λ J C1 H1 g1 l1 b1 R1 wk D hD=>?_⟩
 have h0:H D=none:=by
  cases e:H D with
  | none=>rfl
  | some o=>exact absurd hD (g1.st D (by rw[e];simp))
 refine⟨λ i m W' H'=>∃ C' U' t F ys rest,Gr C1 s0 H1 C' t H'/\Rp Γ C' H' t/\RE Γ C' H' t.length U' W'/\H' D=some (.lst ys)/\Off C' t D/\RVL Γ C' H' F ys/\kr t.length F=true/\F.length<=i/\i<=q.its.length/\m=q.its.length - i /\
  lz (λ s=>kT s0 s q.src) (λ d U s=>match kN U tg d with
   | some U=>kG (mc U s) λ k s=>if k then(me U s).bind λ v s=>.ok (some v,U) s else .ok (none,U) s
   | none=>.bad) (q.its.drop i) U' t=.ok rest s'/\l=F++rest,⟨q.its.length,?_⟩,?_⟩
 .obtain⟨g2,R2⟩:=R1.same (H':=upd H1 D (.lst [])) ((ad3.refl H1).new hD)
  exact⟨C1,li U Y,s0,[],[],l,g2,R2,bN2 ((E.mono g1 l1).mono g2 (ao _)) Y,zo,Off.new R1 hD,.nil,rfl,ao _,cR _,by simp,by rw[e9];exact hm,rfl⟩
 .rintro i m W' H' ⟨C',U',t,F,ys,rest,g,R',E',hy,a4,ra,ba,b6,b7,rfl,hc,hl⟩
  have G:=g.le
  rcases iE i q.its.length with hlt|hge
  .have hd:q.its[i]?=some q.its[i]:=ag hlt
   rw[dw hlt]at hc
   unfold lz at hc
   split at hc
   case isFalse=>exact fb hc
   rename_i a3
   obtain⟨b2,b3⟩:=(wk C' H' t g G R' a3 i).1 hlt
   refine .inr ⟨b2,_,λ W2 H2 n=>⟨q.its.length - (i+1),by omega,n⟩,λ x H2 b0=>?_⟩
   obtain⟨sm,rv⟩:=b3 x H2 b0
   obtain⟨g2,R2⟩:=R'.same sm
   have rd:=rv _ hd
   have bd:(q.its[i]).bnd t.length=true:=zp G _ (ag5 b1 hd)
   obtain⟨p,t3,hs,hc⟩:=aa1 hc
   obtain⟨r2,t4,a5,hc⟩:=aa1 hc
   cases hb:kN U' tg q.its[i]with
   | none=>rw[hb]at hs;cases hs
   | some U3 =>
    rw[hb]at hs
    refine bb5 (E'.mono g2 (ao _)) rd bd hb λ W3 E3=>?_
    obtain⟨c,t1,ec,hs⟩:=zD hs
    refine⟨C',U3,t,c,t1,E3,R2,ec,λ C2 H4 g4 l4 R4=>?_⟩
    have a6:H2 D=some (.lst ys):=sm _ _ hy
    have a2:H4 D=some (.lst ys):=g4.fr D _ a6 (by nofun) a4
    have Z:Off C2 t1 D:=a4.mono g4 a6
    have G4:=(g.trans g2 G).trans g4 G
    cases c with
    | true =>
     rw[if_pos rfl]at hs
     refine iteT ?_
     obtain⟨v,t2,ev,hs⟩:=aa1 hs
     cases hs
     refine⟨C2,U3,t1,v,t3,E3.mono g4 l4,R4,ev,λ w C3 H5 g5 l5 b5 r5 R5=>?_⟩
     have a0:H5 D=some (.lst ys):=g5.fr D _ a2 (by nofun) Z
     have a1:Off C3 t3 D:=Z.mono g5 a2
     refine⟨ys,a0,?_,?_⟩
     .rw[ra.length]
      have:=zM
      omega
     .have gw:Gw C3 t3.length H5 C3 (upd H5 D (.lst (ys++[w]))):=⟨λ _ _=>rfl,(Kp.refl H5).put a0 rfl⟩
      have G5:=G4.trans g5 (al G l4)
      have GG:=g2.trans (g4.trans g5 l4) (ao _)
      have ra5:RVL Γ C3 H5 F ys:=RVL.mono GG _ _ ba ra
      have bb:kr t3.length (F++[v])=true:=zT (ab9 GG.le _ ba) (by unfold kr;rw[b5];rfl)
      refine⟨C3,U3,t3,F++[v],ys++[w],r2,G5.foreign hD a0,R5.foreign a0 a1,?_,zo,a1,RVL.monoW gw _ _ bb (ra5.append (.cons r5 .nil)),bb,by simp;omega,hlt,rfl,?_,?_⟩
      .have E5:=(E3.mono g4 l4).mono g5 l5
       exact⟨E5.len,λ j e hj=>by
        obtain⟨h1,z,h2,h3⟩:=E5.val j e hj
        exact⟨h1,z,h2,RV.monoW gw _ _ h1 h3⟩⟩
      .cases hc;exact a5
      .cases hc;rw[hl];simp
    | false =>
     rw[if_neg aC]at hs
     refine cc5 ?_
     cases hs
     have GG:=g2.trans g4 (ao _)
     exact⟨C2,U3,t3,F,ys,r2,G4,R4,E3.mono g4 l4,a2,Z,RVL.mono GG _ _ ba ra,ab9 l4 _ ba,by omega,hlt,rfl,by cases hc;exact a5,by cases hc;exact hl⟩
  .have hi:i=q.its.length:=by omega
   rw[dQ hge]at hc
   unfold lz at hc
   split at hc
   case isFalse=>exact fb hc
   rename_i a3
   cases hc
   refine .inl ⟨(wk C' H' s' g G R' a3 i).2 hge,?_⟩
   rw[aF]at hl
   subst hl
   exact k D ys C' H' (g1.trans g l1) (al l1 G) ba hy h0 a4 ra R'
variable {Γ:Gm} {X:Cx}
noncomputable def bY5 (Γ:Gm)(C:Nat->Addr)(H:Hp)(n:Nat)(D:Ends):kW->Prop
 | .next U=>∀ W,RE Γ C H n U W->D.nx W H
 | .ret d=>∀ v,d.bnd n=true->RV Γ C H d v->D.rt v H
 | .cont U=>∀ W,RE Γ C H n U W->D.ct W H
 | .brk U=>∀ W,RE Γ C H n U W->D.bk W H
def am8 (Γ:Gm)(C:Nat->Addr)(s:km)(H:Hp)(c:kW)(s':km)(D:Ends):Prop :=
 ∀ C' H',Gr C s H C' s' H'->s.length<=s'.length->Rp Γ C' H' s'->bY5 Γ C' H' s'.length D c
def TSv (Γ:Gm)(m:kq->km->ky kW):TS:=λ D W H=>∃ C U s c s',RE Γ C H s.length U W/\Rp Γ C H s/\m U s=.ok c s'/\am8 Γ C s H c s' D
theorem PS.imp {e:Stmt}{t t':TS}(h:PS X e t)(i:∀ D W H,t' D W H->t D W H):PS X e t':=λ z s W H Q I q=>h z s W H Q I (i Q W H q)
theorem PSs.imp {e:yL}{t t':TS}(h:PSs X e t)(i:∀ D W H,t' D W H->t D W H):PSs X e t':=λ z s W H Q I q=>h z s W H Q I (i Q W H q)
theorem am8.trans {C C1:Nat->Addr}{s s1 s':km}{H z:Hp}{c:kW}{D:Ends}(h:am8 Γ C s H c s' D)(g:Gr C s H C1 s1 z)(l:s.length<=s1.length):am8 Γ C1 s1 z c s' D :=
 λ C' H' g' F p=>h C' H' (g.trans g' l) (al l F) p
theorem am8.here {C:Nat->Addr}{s:km}{H:Hp}{c:kW}{D:Ends}(h:am8 Γ C s H c s D)(p:Rp Γ C H s):bY5 Γ C H s.length D c:=h C H (Gr.refl C s H) (ao _) p
variable {D:Ends} {W:St} {H:Hp}
theorem bo5 {m:kq->km->ky kW}(hm:∀ U s,m U s=.ok (.next U) s)(h:TSv Γ m D W H):bL0 D W H:=by
 obtain⟨C,U,s,c,s',E,R,e,q⟩:=h
 rw[hm]at e;cases e
 exact q.here R W E
theorem bF6 {m:kq->km->ky ko}(h:TSv Γ (λ U s=>(m U s).bind λ d s=>.ok (.ret d) s) D W H):bY9 (TEv Γ m) D W H:=by
 obtain⟨C,U,s,c,s',E,R,e,q⟩:=h
 obtain⟨x,s1,e1,e⟩:=aa1 e
 cases e
 exact⟨C,U,s,x,_,E,R,e1,λ v C1 z g1 l1 b1 r1 R1=>q C1 z g1 l1 R1 v b1 r1⟩
theorem bn2 {m:kq->km->ky ko}(h:TSv Γ (λ U s=>(m U s).bind λ _ s=>.ok (.next U) s) D W H):bN9 (TEv Γ m) D W H:=by
 obtain⟨C,U,s,c,s',E,R,e,q⟩:=h
 obtain⟨x,s1,e1,e⟩:=aa1 e
 cases e
 exact⟨C,U,s,x,_,E,R,e1,λ v C1 z g1 l1 b1 r1 R1=>q C1 z g1 l1 R1 W (E.mono g1 l1)⟩
theorem aU4 {m:kq->km->ky ko}{tg:kY}(h:TSv Γ (λ U s=>(m U s).bind λ d s=>match kN U tg d with|some U=>.ok (.next U) s|none=>.bad) D W H):ba4 (TEv Γ m) (gOf Γ.K tg) D W H:=by
 obtain⟨C,U,s,c,s',E,R,e,q⟩:=h
 obtain⟨x,s1,e1,e⟩:=aa1 e
 refine⟨C,U,s,x,s1,E,R,e1,λ v C1 F g1 l1 b1 r1 R1=>?_⟩
 cases hb:kN U tg x with
 | none=>rw[hb]at e;cases e
 | some U1 =>
  rw[hb]at e
  cases e
  exact bb5 (E.mono g1 l1) r1 b1 hb λ W' z=>q C1 F g1 l1 R1 W' z
theorem be6 {m:kq->km->ky (List ko)}(h:TSv Γ (λ U s=>((m U s).bind λ l s=>ls (.lst l) s).bind λ d s=>match kN U tg d with|some U=>.ok (.next U) s|none=>.bad) D W H):ba4 (TFv Γ m) (gOf Γ.K tg) D W H :=
 aR2 (aU4 h)
def bN1 (Γ:Gm):bO9:=λ o i v H Q=>∃ C s x y d s',Rp Γ C H s/\RV Γ C H x o/\RV Γ C H y i/\RV Γ C H d v/\x.bnd s.length=true/\y.bnd s.length=true/\d.bnd s.length=true/\DV.setIx x y d s=.ok () s' /\
 ∀ C' H',Gr C s H C' s' H'->s.length<=s'.length->Rp Γ C' H' s'->Q H'
theorem bc6 {me mo Y:kq->km->ky ko}(h:TSv Γ (λ U s=>(me U s).bind λ d s=>(mo U s).bind λ x s=>(Y U s).bind λ y s=>(DV.setIx x y d s).bind λ _ s=>.ok (.next U) s) D W H) :
  ba4 (TEv Γ me) (bX9 (TEv Γ mo) (TEv Γ Y) (bN1 Γ)) D W H:=by
 obtain⟨C,U,s,c,s',E,R,e,q⟩:=h
 obtain⟨d,s1,e1,e⟩:=aa1 e
 obtain⟨x,s2,e2,e⟩:=aa1 e
 obtain⟨y,s3,e3,e⟩:=aa1 e
 obtain⟨u,s4,e4,e⟩:=aa1 e
 cases e
 refine⟨C,U,s,d,s1,E,R,e1,λ v1 C1 H1 g1 l1 b1 r1 R1=>?_⟩
 refine⟨C1,U,s1,x,s2,E.mono g1 l1,R1,e2,λ v2 C2 H2 g2 F b2 r2 R2=>?_⟩
 have G2:=g1.trans g2 l1
 have L2:=al l1 F
 refine⟨C2,U,s2,y,s3,E.mono G2 L2,R2,e3,λ v3 C3 H3 z G b3 r3 R3=>?_⟩
 refine⟨C3,s3,x,y,d,_,R3,RV.mono z x v2 b2 r2,r3,RV.mono (g2.trans z F) d v1 b1 r1,zp G x b2,b3,zp (al F G) d b1,e4,λ C4 H4 J l4 R4=>?_⟩
 have Z:=G2.trans z L2
 have L3:=al L2 G
 exact q C4 H4 (Z.trans J L3) (al L3 l4) R4 W (E.mono (Z.trans J L3) (al L3 l4))
theorem bC7 (hu:X.A.units+2<cLine):bU4 X (bN1 Γ):=by
 intro F sh W H o i v Y iv u Q I ro ri rv h
 obtain⟨C,s,x,y,d,s',R,rx,ry,Z,bx,a0,bd,hm,q⟩:=h
 cases x with
 | ref r =>
  have hm:(match s[r]? with
   | some (.lst l)=>(match y with
    | .int i=>(match lh l.length i with|some j=>DV.R.ok () (s.set r (.lst (l.set j d)))|none=>.bad)
    | _=>.bad)
   | _=>.bad)=.ok () s':=hm
  cases e:s[r]? with
  | none=>rw[e]at hm;cases hm
  | some ob =>
   rw[e]at hm
   cases ob with
   | lst l =>
    cases y with
    | int k =>
     have hm:(match lh l.length k with|some j=>DV.R.ok () (s.set r (.lst (l.set j d)))|none=>.bad)=.ok () s':=hm
     cases ej:lh l.length k with
     | none=>rw[ej]at hm;cases hm
     | some j =>
      rw[ej]at hm
      cases hm
      obtain⟨G,h1,J⟩:=R.addr e
      have hb:kr s.length (l.set j d)=true:=ab6.mpr λ z hz=>by
       rcases List.mem_or_eq_of_mem_set hz with h|h
       .exact ab6.mp (by have:=R.wf r _ e;unfold kC at this;exact this) z h
       .subst h;exact bd
      refine bd5 F sh W H o i v Y iv u Q I ro ri rv ⟨C r,G,k,j,rx.refE,ry.intE,h1,?_,?_⟩
      .rw[J.length];exact ej
      .obtain⟨g,R'⟩:=R.set (o:=.lst (l.set j d)) (u:=.lst (G.set j v)) e rfl hb λ H' g e=>⟨_,e,RVL.monoW g _ _ hb (J.set j Z)⟩
       exact q _ _ g (by simp) R'
    | _=>exact fb hm
   | _=>exact fb hm
 | _=>exact fb hm
theorem bS1 {mc:kq->km->ky ko}{z F:kq->km->ky kW}(h:TSv Γ (λ U s=>kG (mc U s) λ k s=>if k then z U s else F U s) D W H):bZ3 (TTv Γ mc) (TSv Γ z) (TSv Γ F) D W H:=by
 obtain⟨C,U,s,d,s',E,R,hm,q⟩:=h
 obtain⟨c,s1,e1,hm⟩:=zD hm
 refine⟨C,U,s,c,s1,E,R,e1,λ C1 G g1 l1 R1=>?_⟩
 cases c with
 | true =>
  rw[if_pos rfl]at hm ⊢
  exact⟨C1,U,s1,d,s',E.mono g1 l1,R1,hm,q.trans g1 l1⟩
 | false =>
  rw[if_neg aC]at hm ⊢
  exact⟨C1,U,s1,d,s',E.mono g1 l1,R1,hm,q.trans g1 l1⟩
theorem bk4 {F J:kq->km->ky kW}(h:TSv Γ (λ U s=>(F U s).bind λ c s=>match c with|.next U=>J U s|c=>.ok c s) D W H):bU0 (TSv Γ F) (TSv Γ J) D W H:=by
 obtain⟨C,U,s,c,s',E,R,hm,q⟩:=h
 obtain⟨G,s1,e1,hm⟩:=aa1 hm
 refine⟨C,U,s,G,s1,E,R,e1,λ C1 z g1 l1 R1=>?_⟩
 cases G with
 | next U1=>exact λ W1 Y=>⟨C1,U1,s1,c,s',Y,R1,hm,q.trans g1 l1⟩
 | ret d=>cases hm;exact q C1 z g1 l1 R1
 | cont U=>cases hm;exact q C1 z g1 l1 R1
 | brk U=>cases hm;exact q C1 z g1 l1 R1
theorem bb4 {mc:kq->km->ky ko}{mb:kq->km->ky kW}(h:TSv Γ (DV.whl mc mb) D W H):bk8 (TTv Γ mc) (TSv Γ mb) D W H:=by
 obtain⟨C,U,s,c,s',E,R,hm,q⟩:=h
 unfold DV.whl at hm
 split at hm
 case isFalse=>exact fb hm
 rename_i hn
 generalize hn.choose=n at hm
 refine⟨λ n W H=>∃ C U s,RE Γ C H s.length U W/\Rp Γ C H s/\DV.af5 mc mb n U s=.ok c s'/\am8 Γ C s H c s' D,⟨n,C,U,s,E,R,hm,q⟩,?_⟩
 clear E R hm q hn
 rintro n W H ⟨C,U,s,E,R,hm,q⟩
 cases n with
 | zero=>exact fb hm
 | succ n =>
  unfold DV.af5 at hm
  obtain⟨b,s1,e1,hm⟩:=zD hm
  refine⟨C,U,s,b,s1,E,R,e1,λ C1 Z g1 l1 R1=>?_⟩
  cases b with
  | false =>
   rw[if_neg aC]at hm ⊢
   cases hm
   exact q C1 Z g1 l1 R1 W (E.mono g1 l1)
  | true =>
   rw[if_pos rfl]at hm ⊢
   obtain⟨F,s2,e2,hm⟩:=aa1 hm
   refine⟨_,λ W' H' w=>⟨n,cN n,w⟩,C1,U,s1,F,s2,E.mono g1 l1,R1,e2,λ C2 J Y l2 R2=>?_⟩
   have G:=g1.trans Y l1
   have L:=al l1 l2
   cases F with
   | next U1=>exact λ W1 z=>⟨C2,U1,s2,z,R2,hm,q.trans G L⟩
   | cont U1=>exact λ W1 z=>⟨C2,U1,s2,z,R2,hm,q.trans G L⟩
   | ret d=>cases hm;exact q C2 J G L R2
   | brk U=>cases hm;exact q C2 J G L R2
theorem bK8 {mI:kq->km->ky lv}{mb:kq->km->ky kW}{tg:kY} (h:TSv Γ (λ U s=>(mI U s).bind λ q s0=>lT (λ s=>kT s0 s q.src) (λ d U s=>match kN U tg d with
  | some U=>mb U s
  | none=>.bad) q.its U s0) D W H):bT2 (TIv Γ mI) (gOf Γ.K tg) (TSv Γ mb) D W H:=by
 obtain⟨C,U,s,c,s',E,R,hm,k⟩:=h
 obtain⟨q,s0,e1,hm⟩:=aa1 hm
 refine⟨C,U,s,q,s0,E,R,e1,λ J C1 H1 g1 l1 b1 R1 wk=>?_⟩
 refine⟨λ i m W' H'=>∃ C' U' t,Gr C1 s0 H1 C' t H'/\Rp Γ C' H' t/\RE Γ C' H' t.length U' W'/\i<=q.its.length/\m=q.its.length - i /\
  lT (λ s=>kT s0 s q.src) (λ d U s=>match kN U tg d with
   | some U=>mb U s
   | none=>.bad) (q.its.drop i) U' t=.ok c s',⟨q.its.length,?_⟩,?_⟩
 .exact⟨C1,U,s0,Gr.refl _ _ _,R1,E.mono g1 l1,cR _,by simp,by rw[e9];exact hm⟩
 .rintro i m W' H' ⟨C',U',t,g,Y,E',a2,rfl,hc⟩
  have z:=g.le
  rcases iE i q.its.length with hlt|hge
  .have hd:q.its[i]?=some q.its[i]:=ag hlt
   rw[dw hlt]at hc
   unfold lT at hc
   split at hc
   case isFalse=>exact fb hc
   rename_i F
   obtain⟨a1,Z⟩:=(wk C' H' t g z Y F i).1 hlt
   refine .inr ⟨a1,_,λ W2 H2 n=>⟨q.its.length - (i+1),by omega,n⟩,λ x H2 a0=>?_⟩
   obtain⟨sm,rv⟩:=Z x H2 a0
   obtain⟨g2,R2⟩:=Y.same sm
   have rd:=rv _ hd
   have bd:(q.its[i]).bnd t.length=true:=zp z _ (ag5 b1 hd)
   obtain⟨c1,t3,hs,hc⟩:=aa1 hc
   cases hb:kN U' tg q.its[i]with
   | none=>rw[hb]at hs;cases hs
   | some U3 =>
    rw[hb]at hs
    refine bb5 (E'.mono g2 (ao _)) rd bd hb λ W3 E3=>?_
    refine⟨C',U3,t,c1,t3,E3,R2,hs,λ C2 H4 g4 l4 G=>?_⟩
    have G4:=(g.trans g2 z).trans g4 z
    have L4:=al z l4
    have GG:=g1.trans G4 l1
    cases c1 with
    | next U1=>exact λ W1 E1=>⟨C2,U1,t3,G4,G,E1,hlt,rfl,hc⟩
    | cont U1=>exact λ W1 E1=>⟨C2,U1,t3,G4,G,E1,hlt,rfl,hc⟩
    | ret d=>cases hc;exact k C2 H4 GG (al l1 L4) G
    | brk U=>cases hc;exact k C2 H4 GG (al l1 L4) G
  .rw[dQ hge]at hc
   unfold lT at hc
   split at hc
   case isFalse=>exact fb hc
   rename_i F
   cases hc
   exact .inl ⟨(wk C' H' s' g z Y F i).2 hge,k C' H' (g1.trans g l1) (al l1 z) Y W' E'⟩
structure Ck where
 N:List Str
 sc:Scope
 lk:String->List Nat->Expr->Bool
noncomputable abbrev ck0 (N:yH)(sc:Scope):Ck:=⟨N,sc,λ _ _ _=>false⟩
noncomputable def Ck.vis (c:Ck)(x:Str):Bool:=match c.sc.names.lookup x with|some .local=>true|some .cell=>true|some .free=>true|_=>false
noncomputable def Ck.loc (c:Ck)(x:Str):Bool:=match c.sc.names.lookup x with|some .local=>true|some .cell=>true|_=>false
noncomputable def Ck.gl (c:Ck)(x:Str):Bool:=(match c.sc.names.lookup x with|some .globalImplicit=>true|_=>false)&&!(x==("__debug__":Str))&&!decide (x=("__name__":Str))
noncomputable def Ck.var (c:Ck)(i:Nat)(x:Str):Bool:=decide (c.N[i]?=some x)&&c.vis x&&!(x==("__debug__":Str))&&!(x==("__classdict__":Str))
noncomputable def shp:Expr->Bool
 | .Starred ..=>false
 | .Set ..=>false
 | .SetComp ..=>false
 | .DictComp ..=>false
 | .GeneratorExp ..=>false
 | .Slice ..=>false
 | .NamedExpr ..=>false
 | _=>true
noncomputable def aq6:Expr->Bool
 | .ListComp ..=>false
 | .SetComp ..=>false
 | .DictComp ..=>false
 | _=>true
noncomputable def bJ8:Expr->Bool
 | .Tuple ..=>false
 | _=>true
noncomputable def bV5:Expr->Bool
 | .Call _ [] [] _=>false
 | _=>true
noncomputable def mC:DV.Cn->Const->Bool
 | .non,.none=>true
 | .bl b,.bool c=>b==c
 | .int i,.int j=>decide (i=j)
 | .str x,.str y=>decide (y=⟨x.toArray⟩)&&decide (x.length<=1000)
 | _,_=>false
noncomputable def bP6 (ck:Ck):List Nat->List Expr->Bool
 | [],[]=>true
 | i::is,.Name x _::es=>decide (ck.N[i]?=some x)&&ck.loc x&&bP6 ck is es
 | _,_=>false
noncomputable def mTg (ck:Ck):kY->Expr->Bool
 | .one i,.Name x _=>decide (ck.N[i]?=some x)&&ck.loc x
 | .tup is,.Tuple es _ _=>bP6 ck is es
 | _,_=>false
noncomputable def tgN:Expr->List Str
 | .Name x _=>[x]
 | .Tuple es _ _=>es.filterMap λ e=>match e with|.Name x _=>some x|_=>none
 | _=>[]
structure ItT where
 x:Str
 y:Str
 ob:Expr
 sc:Scope
 p1:Pos
 p2:Pos
 p3:Pos
 p4:Pos
 p5:Pos
 p6:Pos
 p7:Pos
 k1:Nat
 k2:Nat
 ap:Pos
 cp:Pos
 pos:Pos
noncomputable def ItT.tg (q:ItT):Expr:=.Tuple [.Name q.x q.p5,.Name q.y q.p6] q.k2 q.p7
noncomputable def ItT.it (q:ItT):Expr:=.Call (.Attribute q.ob "items" q.ap) [] [] q.cp
noncomputable def ItT.text (q:ItT):Expr:=.ListComp (.BinOp (.Name q.x q.p1) .Add (.Tuple [.Name q.y q.p2] q.k1 q.p3) q.p4) [⟨q.tg,q.it,[],0⟩] q.sc q.pos
noncomputable def ckC (ck:Ck)(tgt:Expr)(caps:yD)(scope:Scope):Ck:=⟨tgN tgt++(caps.filterMap id).map λ j=>ck.N.getD j "",scope,λ _ _ _=>false⟩
noncomputable def aJ4 (ck:Ck)(tg:kY)(tgt iter:Expr)(caps:yD)(scope:Scope):Bool :=
 zJ (ckC ck tgt caps scope).N caps scope ck.N ck.sc&&decide ((ckC ck tgt caps scope).N.Nodup)&&mTg (ckC ck tgt caps scope) tg tgt&&shp iter
noncomputable def biT:kZ->Option Str
 | .len=>some "len" | .abs=>some "abs" | .min2=>some "min" | .max2=>some "max" | .int=>some "int" | .str=>some "str" | _=>none
noncomputable def biK:kZ->Option (Nat×Str)
 | .isInt=>some (1, "int")|.isBool=>some (2, "bool")|.isStr=>some (3, "str")|.isTup=>some (4, "tuple")|.isList=>some (5, "list")|_=>none
noncomputable def mkT:lM->Option Str
 | .tuple=>some "tuple" | .list=>some "list" | _=>none
noncomputable def mkF:lM->Option Str
 | .all=>some "all" | .sum=>some "sum" | .min=>some "min" | _=>none
noncomputable def mtT:lN->Option (Str×Nat)
 | .append=>some ("append",1)|.pop=>some ("pop",0)|_=>none
noncomputable def bP4 (ck:Ck)(b:kZ)(x:Str)(xs:yK)(m1 m2:Bool):Bool:=match biK b with
 | some p=>(match xs with|[_,.Name y _]=>decide (x=("isinstance":Str))&&ck.gl x&&decide (y=p.2)&&ck.gl y&&m2|_=>false)
 | none=>(match xs with|_::_=>decide (biT b=some x)&&ck.gl x&&m1|[]=>false)
mutual
noncomputable def mE (ck:Ck):lq->Expr->Bool
 | .var i,E=>match E with|.Name x _=>ck.var i x|_=>false
 | .cst c,E=>match E with|.Constant v _ _=>mC c v|_=>false
 | .glob g,E=>match E with|.Name x _=>decide (x=(g:Str))&&ck.gl x|_=>false
 | .bin op a b,E=>match E with|.BinOp l o r _=>decide (o=bR9 op)&&mE ck a l&&mE ck b r|_=>false
 | .neg a,E=>match E with|.UnaryOp .USub l _=>mE ck a l|_=>false
 | .not a,E=>match E with|.UnaryOp .Not l _=>mE ck a l|_=>false
 | .cmp op a b,E=>match E with|.Compare l [o] [r] _=>decide (o=bs4 op)&&mE ck a l&&mE ck b r|_=>false
 | .isN a,E=>match E with|.Compare l [.Is] [.Constant .none _ _] _=>mE ck a l|_=>false
 | .and a b,E=>match E with
  | .BoolOp .And [l,r] _=>mE ck a l&&mE ck b r
  | .BoolOp .And (l::m::r::es) p=>mE ck a l&&mE ck b (.BoolOp .And (m::r::es) p)
  | _=>false
 | .or a b,E=>match E with
  | .BoolOp .Or [l,r] _=>mE ck a l&&mE ck b r
  | .BoolOp .Or (l::m::r::es) p=>mE ck a l&&mE ck b (.BoolOp .Or (m::r::es) p)
  | _=>false
 | .ite c a b,E=>match E with|.IfExp t l r _=>mE ck c t&&mE ck a l&&mE ck b r|_=>false
 | .tup es,E=>match E with|.Tuple xs _ _=>mEs ck es xs&&decide (xs.length<=1000)|_=>false
 | .lst es,E=>match E with|.List xs _=>mEs ck es xs&&decide (xs.length<=1000)|_=>false
 | .slL a lo,E=>match E with|.Subscript o (.Slice (some l) none none _) _=>mE ck a o&&mE ck lo l|_=>false
 | .slU a hi,E=>match E with|.Subscript o (.Slice none (some h) none _) _=>mE ck a o&&mE ck hi h|_=>false
 | .inC e c,E=>match E with|.Compare l [.In] [.Name x _] _=>decide (x=(c:Str))&&ck.gl x&&mE ck e l|_=>false
 | .getC c e,E=>match E with|.Subscript (.Name x _) i _=>decide (x=(c:Str))&&ck.gl x&&mE ck e i&&shp i|_=>false
 | .ix a b,E=>match E with|.Subscript o i _=>mE ck a o&&mE ck b i|_=>false
 | .call f as,E=>match E with|.Call (.Name x _) xs [] _=>decide (x=(f:Str))&&ck.gl x&&mAs ck as xs|_=>false
 | .bi b es,E=>match E with|.Call (.Name x _) xs [] _=>bP4 ck b x xs (mEs ck es xs) (mEs ck es (xs.take 1))|_=>false
 | .mk k l,E=>match E with
  | .Call (.Name x _) [a] [] _=>ck.gl x&&shp a&&((decide (mkT k=some x)&&mL ck 2 l a)||(decide (mkF k=some x)&&mL ck 1 l a))
  | .ListComp e gs sc p=>decide (k=.list)&&mL ck 0 l (.ListComp e gs sc p)
  | _=>false
 | .meth m o es,E=>match E with
  | .Call (.Attribute ob x ap) xs [] cp=>decide (mtT m=some (x,xs.length))&&bV5 ob&&(ap.endLine==cp.line)&&mE ck o ob&&mEs ck es xs
  | _=>false
noncomputable def mEs (ck:Ck):kP->List Expr->Bool
 | .nil,xs=>match xs with|[]=>true|_=>false
 | .cons e es,xs=>match xs with|x::xs=>mE ck e x&&shp x&&mEs ck es xs|_=>false
noncomputable def mFs (ck:Ck):kP->List Expr->Bool
 | .nil,xs=>match xs with|[]=>true|_=>false
 | .cons e es,xs=>match xs with
  | .FormattedValue v c none _::xs=>decide (c=-1)&&mE ck e v&&mFs ck es xs
  | .Constant v j p::xs=>mE ck e (.Constant v j p)&&mFs ck es xs
  | _=>false
noncomputable def mAs (ck:Ck):lD->List Expr->Bool
 | .nil,xs=>match xs with|[]=>true|_=>false
 | .ex e es,xs=>match xs with|x::xs=>mE ck e x&&shp x&&mAs ck es xs|_=>false
 | .fn _ _,_=>false
noncomputable def ca1 (ck:Ck):lD->List Expr->Bool
 | .nil,xs=>match xs with|[]=>true|_=>false
 | .ex e es,xs=>match xs with|x::xs=>mE ck e x&&shp x&&ca1 ck es xs|_=>false
 | .fn _ _,_=>false
noncomputable def mI (ck:Ck)(tgt:Expr):DV.I->Expr->Bool
 | .rng1 a,E=>match E with|.Call (.Name x _) [l] [] _=>decide (x=("range":Str))&&ck.gl x&&mE ck a l&&shp l|_=>false
 | .seq e,x=>mE ck e x&&shp x
 | .rng3 a b c,E=>match E with|.Call (.Name x _) [l,r,.Constant v _ _] [] _=>decide (x=("range":Str))&&ck.gl x&&mE ck a l&&shp l&&mE ck b r&&shp r&&decide (c=2)&&decide (v=.int 2)|_=>false
noncomputable def mL (ck:Ck)(k:Nat):DV.L->Expr->Bool
 | .comp tg it e caps,E=>match E with|.ListComp elt [⟨tgt,iter,[],z⟩] scope _=>decide (z=0)&&aJ4 ck tg tgt iter caps scope&&mI ck tgt it iter&&mE (ckC ck tgt caps scope) e elt|_=>false
 | .compIf tg it c e caps,E=>match E with|.ListComp elt [⟨tgt,iter,[i],z⟩] scope _=>decide (z=0)&&aJ4 ck tg tgt iter caps scope&&mI ck tgt it iter&&mE (ckC ck tgt caps scope) c i&&mE (ckC ck tgt caps scope) e elt|_=>false
 | .disp es,E=>match E with|.List xs _=>decide (1<=k)&&mEs ck es xs&&decide (xs.length<=1000)|_=>false
 | .seq e,x=>decide (k=2)&&mE ck e x
end
theorem ff {p:Prop}(h:false=true):p:=Bool.noConfusion h
mutual
noncomputable def mS (ck:Ck):DV.S->Stmt->Bool
 | .asg tg e,S=>match S with
  | .Assign [t] v _=>mTg ck tg t&&mE ck e v&&(match tg with|.one _=>true|.tup _=>bJ8 v&&aq6 v)
  | _=>false
 | .setIx o i e,S=>match S with|.Assign [.Subscript ob ix _] v _=>mE ck o ob&&mE ck i ix&&mE ck e v&&aq6 v|_=>false
 | .ex e,S=>match S with|.Expr v _=>mE ck e v&&aq6 v|_=>false
 | .ret e,S=>match S with|.Return (some v) _=>mE ck e v|_=>false
 | .ite c a b,S=>match S with|.If t l r _=>mE ck c t&&mSs ck a l&&mSs ck b r|_=>false
 | .whl c b,S=>match S with|.While t l [] _=>mE ck c t&&mSs ck b l|_=>false
 | .for_ tg it b,S=>match S with|.For tgt iter l [] _=>mTg ck tg tgt&&mI ck tgt it iter&&mSs ck b l|_=>false
 | .raise,_=>true
noncomputable def mSs (ck:Ck):l7->List Stmt->Bool
 | .nil,xs=>match xs with|[]=>true|_=>false
 | .cons s ss,xs=>match xs with|x::xs=>(mS ck s x&&mSs ck ss xs)|_=>false
end
theorem aE2 {z:Ck}{e:lq}{E:Expr}(h:mE z e E=true):shp E=true:=by
 cases E<;>first|rfl|(exfalso;cases e<;>exact ff h)
theorem bj5 {F:Ck}{z:Expr}{e:DV.I}{E:Expr}(h:mI F z e E=true):shp E=true:=by
 cases e with
 | seq e=>have h:(mE F e E&&shp E)=true:=h;rw[am]at h;exact h.2
 | _=>cases E<;>first|rfl|exact ff h
theorem zb {e:Expr}{es:yK}{env:Env}(h:shp e=true):bp (e::es) env=(false,eval e env)::bp es env:=by
 cases e<;>first|rfl|cases h
theorem zF {env:Env}{pos:Pos}:∀ {es:yK},(∀ e∈es,shp e=true)->(dS pos (bp es env)).any (·.1)=false/\(dS pos (bp es env)).all (λ x=>!x.1)=true
 | [],_=>⟨rfl,rfl⟩
 | e::es,h=>by
  have G:=zb (es:=es) (env:=env) (h e (aw ..))
  obtain⟨F,z⟩:=zF (env:=env) (pos:=pos) (es:=es) λ x hx=>h x (ak _ hx)
  rw[G]
  unfold dS at F z ⊢
  simp only[bz,fA,d6,F,z]
  exact⟨rfl,rfl⟩
theorem at4 {e:Expr}{env:Env}(h:shp e=true)(x:Value):dg e env x=pure x:=by
 cases e<;>first|rfl|cases h
theorem ag6 {e:Expr}{op:CmpOp}(h:shp e=true):c6 op e=false:=by
 cases e<;>first|rfl|cases h
theorem ai1 {e:Expr}{t:Option Expr}{l:Nat}{env:Env}(h:aq6 e=true):dT e t l env=pure false:=by
 cases e<;>first|rfl|cases h
theorem aR7 {e:Expr}{f:Str}{env:Env}(h:bV5 e=true):fx e f env (eval e env)=eval e env:=by
 cases e with
 | Call g a k p =>
  cases g with
  | Name x p' =>
   cases a with
   | nil=>cases k with
    | nil=>cases h
    | cons _ _=>rfl
   | cons _ _=>rfl
  | _=>rfl
 | _=>rfl
theorem aK1 {es:yK}{k:Nat}{p:Pos}{e:Expr}{env:Env}(h:bJ8 e=true):fu [.Tuple es k p] e env=pure none:=by
 cases e<;>first|rfl|cases h
theorem aL3 {o i:Expr}{p:Pos}{e:Expr}{env:Env}:fu [.Subscript o i p] e env=pure none:=by
 cases e<;>rfl
theorem ah7 {e:Expr}(h:shp e=true):aQ2 e:=by
 intro o i
 cases e<;>first|rfl|cases h
def spV (Γ:Gm)(c:List ko->km->ky ko):Sp:=λ vs H Q _=>rCl Γ c vs H Q
noncomputable def bNames:List Str:=["len", "abs", "min", "max", "int", "isinstance", "bool", "str", "tuple", "list", "range", "sum", "all", "any", "sorted", "zip", "enumerate", "ord"]
noncomputable def LamI.own (J:LamI):Str:=match J.nm with|none => "<lambda>" | some p=>p.1
noncomputable def strD (kvs:List (List Nat×List Nat)):List (j7×j7):=kvs.map λ p=>(.str ⟨p.1.toArray⟩,.str ⟨p.2.toArray⟩)
structure CG (Γ:Gm)(F:kF)(n:Nat)(X:Cx)(ck:Ck):Prop where
 K:X.K=Γ.K
 N:X.N=ck.N
 nd:ck.N.Nodup
 xe:X.xe=λ _ _=>False
 calm:X.calm=true
 deep:kJ+1<=n
 room:Room n X.A
 sc:∀ x k,ck.sc.names.lookup x=some k->X.env.scope.names.lookup x=some k\/(k=.free/\X.env.scope.names.lookup x=some .cell)
 fn:∀ x,ck.sc.names.lookup x=some .cell->X.fn x=true
 bi:∀ x∈bNames,X.mg x=none
 call:∀ f:String,(∀ l s,F.call f l s=.bad)\/∃ a fd ps,FnOk X.prog X.w X.K X.mg X.base CX0 n a fd ps (spV Γ (F.call f))/\X.mg (f:Str)=some (.ref a)/\bZ X.K (.ref a)=true/\Binds X.K fd ps []
 con:∀ x d,F.con x=some d->∃ v u,X.mg (x:Str)=some u/\RelV v u/\(∀ m,d.bnd m=true)/\∀ C H,RV Γ C H d v
 lam:∀ id caps E,ck.lk id caps E=true->False
 cl:True
 fa:∀(f:String) (a:Addr),Γ.fa f=some a->X.mg (f:Str)=some (.ref a)/\∃ oc od fd sl,X.K.lookup a=some ⟨oc,od,.func fd,sl⟩
 cdc:∀ c kvs,F.cdc c=some kvs->∃ a,X.mg (c:Str)=some (.ref a)/\∀ h:Heap,X.K.In h->jC X.prog X.w h a (strD kvs)
section
variable {Γ:Gm} {F:kF} {n:Nat} {X:Cx} {ck:Ck}
theorem CG.vis (G:CG Γ F n X ck){x:Str}(h:ck.vis x=true):Vis X.env.scope x:=by
 unfold Ck.vis at h
 split at h
 .rename_i e;rcases G.sc _ _ e with z|⟨z,_⟩
  .exact .inl z
  .cases z
 .rename_i e;rcases G.sc _ _ e with z|⟨z,_⟩
  .exact .inr (.inl z)
  .cases z
 .rename_i e;rcases G.sc _ _ e with z|⟨_,z⟩
  .exact .inr (.inr z)
  .exact .inr (.inl z)
 .cases h
theorem CG.loc (G:CG Γ F n X ck){x:Str}(h:ck.loc x=true):Loc X.env.scope x/\(X.fn x=true\/X.env.scope.names.lookup x=some .local):=by
 unfold Ck.loc at h
 split at h
 .rename_i e;rcases G.sc _ _ e with z|⟨z,_⟩
  .exact⟨.inl z,.inr z⟩
  .cases z
 .rename_i e;rcases G.sc _ _ e with z|⟨z,_⟩
  .exact⟨.inr z,.inl (G.fn _ e)⟩
  .cases z
 .cases h
theorem CG.gl (G:CG Γ F n X ck){x:Str}(h:ck.gl x=true):Gl X x/\(x==("__debug__":Str))=false/\x ≠ "__name__":=by
 unfold Ck.gl at h
 simp only[am,fo]at h
 obtain⟨⟨J,Z⟩,Y⟩:=h
 refine⟨?_,Z,of_decide_eq_false Y⟩
 split at J
 .rename_i e;rcases G.sc _ _ e with z|⟨z,_⟩
  .exact z
  .cases z
 .cases J
theorem bl5 (G:CG Γ F n X ck):∀ {is:List Nat} {es:yK},bP6 ck is es=true->PGs X es (bO6 is)/\(cu es X.env).length=is.length/\(cu es X.env).findIdx? (·.1)=none
 | [],[],_=>⟨bs8,rfl,rfl⟩
 | [],_::_,h=>by cases h
 | i::is,[],h=>by cases h
 | i::is,e::es,h=>by
  cases e with
  | Name x p =>
   unfold bP6 at h
   simp only[am,decide_eq_true_eq]at h
   obtain⟨⟨Y,Z⟩,J⟩:=h
   obtain⟨l1,z⟩:=G.loc Z
   obtain⟨a,b,c⟩:=bl5 G J
   have hs:cu (.Name x p::es) X.env=(false,fK (.Name x p) X.env)::cu es X.env:=rfl
   refine⟨aZ9 (aP6 (by rw[G.N];exact G.nd) (by rw[G.N];exact Y) l1 z) a (by rw[hs];rfl),by rw[hs,aA,aA,b],?_⟩
   rw[hs,List.findIdx?_cons]
   simp[c]
  | _=>cases h
theorem bb9 (G:CG Γ F n X ck){tg:kY}{e:Expr}(h:mTg ck tg e=true):PG X e (gOf Γ.K tg):=by
 unfold mTg at h
 split at h
 .simp only[am,decide_eq_true_eq]at h
  obtain⟨l1,z⟩:=G.loc h.2
  exact aP6 (by rw[G.N];exact G.nd) (by rw[G.N];exact h.1) l1 z
 .obtain⟨a,b,c⟩:=bl5 G h
  exact bv9 G.K G.calm a b c
 .cases h
theorem CG.comp (G:CG Γ F n X ck){tg:kY}{Y iter:Expr}{J:yD}{scope:Scope}(h:aJ4 ck tg Y iter J scope=true) :
  zJ (ckC ck Y J scope).N J scope X.N X.env.scope=true/\shp iter=true /\
  ∀(Cc:Addr) (cells:yB) (s:ae) (H:Hp) (ex:List Addr),CG Γ F n (zB X (ckC ck Y J scope).N scope Cc cells s H ex) (ckC ck Y J scope)/\PG (zB X (ckC ck Y J scope).N scope Cc cells s H ex) Y (gOf Γ.K tg):=by
 unfold aJ4 at h
 simp only[am,decide_eq_true_eq]at h
 obtain⟨⟨⟨Z,h2⟩,h3⟩,h4⟩:=h
 refine⟨?_,h4,λ Cc cells s H ex=>?_⟩
 .rw[G.N]
  unfold zJ at Z ⊢
  simp only[am]at Z ⊢
  obtain⟨⟨⟨⟨⟨a1,a2⟩,a3⟩,a4⟩,a5⟩,a6⟩:=Z
  refine⟨⟨⟨⟨⟨a1,?_⟩,a3⟩,a4⟩,a5⟩,a6⟩
  rw[aB]at a2 ⊢
  intro y hy
  have:=a2 y hy
  rw[aY]at this ⊢
  rcases this with q|q
  .exact .inl q
  .right
   rw[aY]at q ⊢
   rcases q with q|q
   .rcases G.sc _ _ (eq_of_beq q)with z|⟨z,_⟩
    .left;rw[z];exact beq_self_eq_true _
    .cases z
   .rcases G.sc _ _ (eq_of_beq q)with z|⟨_,z⟩
    .right;rw[z];exact beq_self_eq_true _
    .left;rw[z];exact beq_self_eq_true _
 .have G':CG Γ F n (zB X (ckC ck Y J scope).N scope Cc cells s H ex) (ckC ck Y J scope):=by
   refine⟨G.K,rfl,h2,rfl,G.calm,G.deep,G.room,λ x k e=>?_,λ x e=>?_,G.bi,G.call,G.con,λ _ _ _ h=>(by cases h),G.cl,G.fa,G.cdc⟩
   .have q:=z9 (env:=X.env) e
    have q':(d0 scope X.env).names.lookup x=some (if(k==NameKind.free&&X.env.scope.kind==.function&&X.env.kindOf x==some .cell)then NameKind.cell else k):=q
    show(d0 scope X.env).names.lookup x=some k\/_
    rw[q']
    split
    .rename_i hc
     simp only[am]at hc
     exact .inr ⟨eq_of_beq hc.1.1,rfl⟩
    .exact .inl rfl
   .show(scope.names.lookup x==some .cell)=true
    rw[show scope.names.lookup x=some .cell from e];rfl
  exact⟨G',bb9 G' h3⟩
end
section
variable {Γ:Gm} {F:kF} {n:Nat} {X:Cx} {ck:Ck} {W:St} {H:Hp} {Q:VK}
theorem TEv.eq {m m':kq->km->ky ko}(e:∀ U s,m U s=m' U s)(q:TEv Γ m W H Q):TEv Γ m' W H Q:=by
 have:m=m':=funext λ U=>funext λ s=>e U s
 subst this;exact q
theorem TTv.eq {m m':kq->km->ky ko}{Q:Bool->Hp->Prop}(e:∀ U s,m U s=m' U s)(q:TTv Γ m W H Q):TTv Γ m' W H Q:=by
 have:m=m':=funext λ U=>funext λ s=>e U s
 subst this;exact q
theorem TAv.eq {m m':kq->km->ky (List ko)}{Q:List V->Hp->Prop}(e:∀ U s,m U s=m' U s)(q:TAv Γ m W H Q):TAv Γ m' W H Q:=by
 have:m=m':=funext λ U=>funext λ s=>e U s
 subst this;exact q
theorem TFv.eq {m m':kq->km->ky (List ko)}(e:∀ U s,m U s=m' U s)(q:TFv Γ m W H Q):TFv Γ m' W H Q:=by
 have:m=m':=funext λ U=>funext λ s=>e U s
 subst this;exact q
theorem TIv.eq {m m':kq->km->ky lv}{R:It->Hp->Prop}(e:∀ U s,m U s=m' U s)(q:TIv Γ m W H R):TIv Γ m' W H R:=by
 have:m=m':=funext λ U=>funext λ s=>e U s
 subst this;exact q
theorem TSv.eq {m m':kq->km->ky kW}{D:Ends}(e:∀ U s,m U s=m' U s)(q:TSv Γ m D W H):TSv Γ m' D W H:=by
 have:m=m':=funext λ U=>funext λ s=>e U s
 subst this;exact q
def EvT (Γ:Gm)(X:Cx)(E:Expr)(m:kq->km->ky ko):Prop:=PE X E (TEv Γ m)/\PT X E (TTv Γ m)
theorem EvT.val {E:Expr}{m:kq->km->ky ko}(h:PE X E (TEv Γ m))(F:∀ z,dD E X.env z=(do let v <- z;standAt E.pos;je [v] (truthy v)):=by intro _;rfl):EvT Γ X E m :=
 ⟨h,(aS9 h F).imp λ W H Q q=>aU1 q⟩
theorem bc8 {c a b:Expr}{pos:Pos}{Y tb Z:TT}(hc:PT X c Y)(ha:PT X a tb)(hb:PT X b Z):PT X (.IfExp c a b pos) (λ W H Q=>Y W H λ k F=>if k=true then tb W F Q else Z W F Q):=by
 intro z s W H Q I h
 have e:dD (.IfExp c a b pos) X.env (eval (.IfExp c a b pos) X.env)=(do if <- dD c X.env (eval c X.env)then dD a X.env (eval a X.env)else dD b X.env (eval b X.env)):=by rw[dD]
 rw[e]
 refine ai (thn (hc z s W H _ I h) λ k s1 ⟨F,G,J⟩=>?_)
 cases k with
 | true=>exact ha z s1 W F Q G J
 | false=>exact hb z s1 W F Q G J
theorem bE1 {mc F G:kq->km->ky ko}{Q:Bool->Hp->Prop}(h:TTv Γ (λ U s=>kG (mc U s) λ k s=>if k then F U s else G U s) W H Q):TTv Γ mc W H λ k z=>if k=true then TTv Γ F W z Q else TTv Γ G W z Q:=by
 obtain⟨C,U,s,d,s',E,R,hm,q⟩:=h
 obtain⟨c,s1,e1,hm⟩:=zD hm
 refine⟨C,U,s,c,s1,E,R,e1,λ C1 z g1 l1 R1=>?_⟩
 cases c with
 | true =>
  rw[if_pos rfl]at hm ⊢
  exact⟨C1,U,s1,d,s',E.mono g1 l1,R1,hm,q.trans g1 l1⟩
 | false =>
  rw[if_neg aC]at hm ⊢
  exact⟨C1,U,s1,d,s',E.mono g1 l1,R1,hm,q.trans g1 l1⟩
section
variable {a b c:lq} {l r t:Expr} {pos:Pos}
theorem bq6 (G:CG Γ F n X ck)(op:lX)(ha:EvT Γ X l (ku F a))(hb:EvT Γ X r (ku F b)):EvT Γ X (.BinOp l (bR9 op) r pos) (ku F (.bin op a b)) :=
 .val ((by8 (bJ9 G.K op) ha.1 hb.1).imp λ W H Q q=>aZ4 (TEv.eq (λ U s=>rfl) q))
theorem bn6 (ha:EvT Γ X l (ku F a)):EvT Γ X (.UnaryOp .USub l pos) (ku F (.neg a)) :=
 .val ((bS3 bI4 ha.1).imp λ W H Q q=>bV2 (f:=λ x s=>match x with|.int i=>.ok (.int (-i)) s|_=>.bad) (TEv.eq (λ U s=>rfl) q) λ C s x d s' v H' R r z hm k=>by
  cases x with
  | int i =>
   cases hm
   exact⟨i,r.intE,k.here R rfl RV.intI⟩
  | _=>cases hm)
theorem bv6 (ha:EvT Γ X l (ku F a)):EvT Γ X (.UnaryOp .Not l pos) (ku F (.not a)) :=
 ⟨(bl9 ha.1).imp λ W H Q q=>bM5 (TEv.eq (λ U s=>rfl) q),(bj8 ha.2).imp λ W H Q q=>bI1 (TTv.eq (λ U s=>rfl) q)⟩
theorem br6 (G:CG Γ F n X ck)(op:lP)(hs:shp r=true)(ha:EvT Γ X l (ku F a))(hb:EvT Γ X r (ku F b)):EvT Γ X (.Compare l [bs4 op] [r] pos) (ku F (.cmp op a b)):=by
 have ho:=bJ5 (Γ:=Γ) G.K (G.room.mono G.deep) op
 refine⟨(aX0 ho ha.1 hb.1 (ag6 hs)).imp λ W H Q q=>aZ4 (TEv.eq (λ U s=>rfl) q),(aB5 ho ha.1 hb.1 (ag6 hs)).imp λ W H Q q=>?_⟩
 have q:=aV5 q
 exact aZ4 (TEv.eq (λ U s=>rfl) q)
theorem RV.nonIff {C:Nat->Addr}{x:ko}{v:V}(r:RV Γ C H x v):decide (v=.non)=decide (x=.non):=by
 cases x with
 | non=>rw[r.nonE];rfl
 | bl b=>rw[r.blE];rfl
 | int i=>rw[r.intE];rfl
 | str z=>rw[r.strE];rfl
 | tup l=>obtain⟨a,F,rfl,_⟩:=r.tupE;rfl
 | ref k=>rw[r.refE];rfl
 | fn f=>unfold RV at r;obtain⟨a,_,rfl⟩:=r;rfl
 | clo f cs=>unfold RV at r;obtain⟨f,_,_,_,rfl,_⟩:=r;rfl
theorem bw6 {j pos'}(ha:EvT Γ X l (ku F a)):EvT Γ X (.Compare l [.Is] [.Constant .none j pos'] pos) (ku F (.isN a)):=by
 have key:∀ W H Q,TEv Γ (ku F (.isN a)) W H Q->bZ7 (TEv Γ (ku F a)) W H Q:=λ W H Q q=>by
  obtain⟨C,U,s,d,s',E,R,hm,k⟩:=q
  obtain⟨x,s1,e1,hm⟩:=aa1 hm
  cases hm
  refine⟨C,U,s,x,_,E,R,e1,λ v C1 z g1 l1 b1 r1 R1=>?_⟩
  show Q (.bl (decide (v=.non))) z
  rw[r1.nonIff]
  exact k _ C1 z g1 l1 rfl RV.blI R1
 exact⟨(bB6 (bi5 ha.1)).imp key,(bN5 (bi5 ha.1)).imp λ W H Q q=>key _ _ _ (aU1 q)⟩
theorem aU9 {op:BoolOp}{es:yK}{t:TT}(h:PT X (.BoolOp op es pos) t):PW X (.BoolOp op es pos) t:=by
 intro F z s W H Q I q
 have:=h z s W H Q I q
 have e:∀ w,dD (.BoolOp op es pos) X.env w=allTrue op es X.env:=λ w=>by rw[dD]
 rw[e]at this ⊢
 exact this
theorem br5 (ha:EvT Γ X l (ku F a))(hb:EvT Γ X r (ku F b)):EvT Γ X (.BoolOp .And [l,r] pos) (ku F (.and a b)) :=
 ⟨(bl8 ha.1 (bh4 hb.1)).imp λ W H Q q=>bi8 (TEv.eq (λ U s=>rfl) q),(bh3 ha.2 (bq4 hb.2)).pt.imp λ W H Q q=>bk5 (TTv.eq (λ U s=>rfl) q)⟩
theorem bn3 {es:yK}(ha:EvT Γ X l (ku F a))(hb:EvT Γ X (.BoolOp .And (r::es) pos) (ku F b)):EvT Γ X (.BoolOp .And (l::r::es) pos) (ku F (.and a b)) :=
 ⟨(bl8 ha.1 hb.1).imp λ W H Q q=>bi8 (TEv.eq (λ U s=>rfl) q),(bh3 ha.2 (aU9 hb.2)).pt.imp λ W H Q q=>bk5 (TTv.eq (λ U s=>rfl) q)⟩
theorem bD1 (ha:EvT Γ X l (ku F a))(hb:EvT Γ X r (ku F b)):EvT Γ X (.BoolOp .Or [l,r] pos) (ku F (.or a b)) :=
 ⟨(bz3 ha.1 (bh4 hb.1)).imp λ W H Q q=>bB9 (TEv.eq (λ U s=>rfl) q),(bB8 ha.2 (bz6 hb.2)).pt.imp λ W H Q q=>bF5 (TTv.eq (λ U s=>rfl) q)⟩
theorem bJ7 {es:yK}(ha:EvT Γ X l (ku F a))(hb:EvT Γ X (.BoolOp .Or (r::es) pos) (ku F b)):EvT Γ X (.BoolOp .Or (l::r::es) pos) (ku F (.or a b)) :=
 ⟨(bz3 ha.1 hb.1).imp λ W H Q q=>bB9 (TEv.eq (λ U s=>rfl) q),(bB8 ha.2 (aU9 hb.2)).pt.imp λ W H Q q=>bF5 (TTv.eq (λ U s=>rfl) q)⟩
theorem bs1 (hc:EvT Γ X t (ku F c))(ha:EvT Γ X l (ku F a))(hb:EvT Γ X r (ku F b)):EvT Γ X (.IfExp t l r pos) (ku F (.ite c a b)) :=
 ⟨(be3 hc.2 ha.1 hb.1).imp λ W H Q q=>bF0 (TEv.eq (λ U s=>rfl) q),(bc8 hc.2 ha.2 hb.2).imp λ W H Q q=>bE1 (TTv.eq (λ U s=>rfl) q)⟩
theorem bH4 (G:CG Γ F n X ck)(hs:shp r=true)(ha:EvT Γ X l (ku F a))(hb:EvT Γ X r (ku F b)):EvT Γ X (.Subscript l r pos) (ku F (.ix a b)) :=
 .val ((bD8 (bW8 G.K (bj4 G.room)) ha.1 hb.1 (ah7 hs)).imp λ W H Q q=>aZ4 (TEv.eq (λ U s=>rfl) q))
theorem bt4 {z:Pos}(G:CG Γ F n X ck)(ha:EvT Γ X l (ku F a))(hb:EvT Γ X r (ku F b)):EvT Γ X (.Subscript l (.Slice (some r) none none z) pos) (ku F (.slL a b)) :=
 .val ((aG8 (bC9 G.K) ha.1 (aV9 hb.1) aX8).imp λ W H Q q=>(bz0 (mh:=ku F b)).1 (TEv.eq (λ U s=>rfl) q))
theorem ev_slU' {z:Pos}(G:CG Γ F n X ck)(ha:EvT Γ X l (ku F a))(hb:EvT Γ X r (ku F b)):EvT Γ X (.Subscript l (.Slice none (some r) none z) pos) (ku F (.slU a b)) :=
 .val ((aG8 (bC9 G.K) ha.1 aX8 (aV9 hb.1)).imp λ W H Q q=>(bz0 (ml:=ku F b)).2.1 (TEv.eq (λ U s=>rfl) q))
end
end
section
variable {Γ:Gm} {F:kF} {n:Nat} {X:Cx} {ck:Ck} {W:St} {H:Hp} {Q:VK}
theorem au9:∀ {es:kP} {U:kq} {s s':km} {l:List ko} {z:yK} {G:Ck},kU F es U s=.ok l s'->mEs G es z=true->l.length=z.length
 | .nil,U,s,s',l,z,G,h,m=>by
  cases h
  cases z with
  | nil=>rfl
  | cons _ _=>rw[mEs]at m<;>first|cases m|(intros;simp_all)
 | .cons e es,U,s,s',l,z,G,h,m=>by
  obtain⟨d,s1,e1,h⟩:=aa1 h
  obtain⟨r,s2,e2,h⟩:=aa1 h
  cases h
  cases z with
  | nil=>rw[mEs]at m<;>first|cases m|(intros;simp_all)
  | cons x z =>
   rw[mEs,am]at m
   rw[aA,aA,au9 e2 m.2]
theorem aC2:∀ {es:kP} {z:yK},mEs ck es z=true->∀ x∈z,shp x=true
 | .nil,[],_,x,hx=>by cases hx
 | .nil,_::_,m,_,_=>by rw[mEs]at m<;>first|cases m|(intros;simp_all)
 | .cons e es,[],m,x,hx=>by cases hx
 | .cons e es,y::z,m,x,hx=>by
  rw[mEs,am,am]at m
  rcases ax.mp hx with h|h
  .rw[h];exact m.1.2
  .exact aC2 m.2 x h
theorem aD8:∀ {es:lD} {z:yK},mAs ck es z=true->∀ x∈z,shp x=true
 | .nil,[],_,x,hx=>by cases hx
 | .nil,_::_,m,_,_=>by rw[mAs]at m<;>first|cases m|(intros;simp_all)
 | .ex e es,[],m,x,hx=>by cases hx
 | .fn _ _,_,m,_,_=>by rw[mAs]at m<;>first|cases m|(intros;simp_all)
 | .ex e es,y::z,m,x,hx=>by
  rw[mAs,am,am]at m
  rcases ax.mp hx with h|h
  .rw[h];exact m.1.2
  .exact aD8 m.2 x h
theorem aF1 {e:lq}{x:Expr}{G:yK}{z:kq->km->ky (List ko)}(hs:shp x=true)(J:PE X x (TEv Γ (ku F e)))(Y:PA X G (TAv Γ z)) :
  PA X (x::G) (TAv Γ (λ U s=>(ku F e U s).bind λ d s=>(z U s).bind λ l s=>.ok (d::l) s)) :=
 (zt J Y (zb hs)).imp λ W H Q q=>bq1 q
theorem aH4 {k:Nat}(h:k<=1000):k<=aM:=by rw[fg];omega
theorem bo4 {es:kP}{z:yK}{k:Nat}{pos:Pos}(m:mEs ck es z=true)(hz:z.length<=1000)(h:PA X z (TAv Γ (kU F es))):EvT Γ X (.Tuple z k pos) (ku F (.tup es)) :=
 .val ((bK9 h).imp λ W H Q q=>tv_tup' hz m q)
where
 tv_tup' {es:kP} {z:yK} {W:St} {H:Hp} {Q:VK} (hz:z.length<=1000) (m:mEs ck es z=true) (q:TEv Γ (ku F (.tup es)) W H Q):ca6 (TAv Γ (kU F es)) W H Q:=by
  obtain⟨C,U,s,d,s',E,R,hm,q⟩:=q
  obtain⟨l,s1,e1,hm⟩:=aa1 hm
  cases hm
  refine⟨C,U,s,l,_,E,R,e1,λ vs C1 G g1 l1 b1 r1 R1=>⟨by rw[r1.length,au9 e1 m];exact aH4 hz,λ p hp=>?_⟩⟩
  exact(q.trans g1 l1).tup R1 r1 b1 hp
theorem bq5 {es:kP}{z:yK}{pos:Pos}(m:mEs ck es z=true)(hz:z.length<=1000)(h:PA X z (TAv Γ (kU F es))):EvT Γ X (.List z pos) (ku F (.lst es)):=by
 refine .val ((aq9 h).imp λ W H Q q=>?_)
 obtain⟨C,U,s,d,s',E,R,hm,q⟩:=q
 obtain⟨l,s1,e1,hm⟩:=aa1 hm
 obtain⟨rfl,rfl⟩:=qe hm
 refine⟨C,U,s,l,_,E,R,e1,λ vs C1 G g1 l1 b1 r1 R1=>⟨by rw[r1.length,au9 e1 m];exact aH4 hz,λ p hp=>?_⟩⟩
 exact(q.trans g1 l1).alloc R1 r1 b1 hp
theorem bf1 {f:String}{as:lD}{z:yK}{p pos:Pos}(G:CG Γ F n X ck)(hg:ck.gl (f:Str)=true)(m:mAs ck as z=true)(h:PA X z (TAv Γ (la F as))):EvT Γ X (.Call (.Name (f:Str) p) z [] pos) (ku F (.call f as)):=by
 refine .val ?_
 obtain⟨g1,g2,g3⟩:=G.gl hg
 rcases G.call f with hbad|⟨a,fd,ps,hF,J,hk,hb⟩
 .intro Y s W H Q I q
  obtain⟨C,U,s,d,s',E,R,hm,q⟩:=q
  obtain⟨l,s1,e1,hm⟩:=aa1 hm
  rw[hbad]at hm
  cases hm
 have key:∀ W H Q,TEv Γ (ku F (.call f as)) W H Q->aK5 (spV Γ (F.call f)) [] E0 (TAv Γ (la F as)) W H Q:=λ W H Q q=>by
  have:=aB9 (TEv.eq (m':=λ U s=>(la F as U s).bind λ l s=>F.call f l s) (λ U s=>rfl) q)
  unfold tCB at this
  unfold aK5 spV
  simpa only[aF]using this
 cases z with
 | nil =>
  have h0:PE X (.Call (.Name (f:Str) p) [] [] pos) (aK5 (spV Γ (F.call f)) [] E0 aY1):=aZ5 hF G.room g1 J hk hb .nil bF2 g2
  cases as with
  | nil =>
   refine h0.imp λ W H Q q=>?_
   have Z:=key W H Q q
   unfold aK5 at Z ⊢
   exact aI8 (TAv.eq (λ U s=>rfl) Z)
  | _=>rw[mAs]at m<;>first|cases m|(intros;simp_all)
 | cons x z =>
  have hs:=aD8 m
  exact(aW4 hF G.room g1 J hk hb .nil bF2 h g2 (zb (hs x (aw ..))) (zF λ e he=>hs e (ak _ he)).1).imp key
def BiC (Γ:Gm)(X:Cx)(b:kZ)(x:Str):Prop:=(∃ id,a7 x=some (.builtin id)/\ac4 X (.builtin id) (rCl Γ (lL b)))\/∃ T,a7 x=some (.type T)/\ac4 X (.type T) (rCl Γ (lL b))
theorem bE5 (G:CG Γ F n X ck){b:kZ}{x:Str}(h:biT b=some x):x∈bNames/\BiC Γ X b x:=by
 cases b<;>first|cases h|skip
 .exact⟨by decide,.inl ⟨_,bU5,aZ2 G.K G.calm (k:=1) rfl⟩⟩
 .exact⟨by decide,.inl ⟨_,bW0,aZ2 G.K G.calm (k:=1) rfl⟩⟩
 .exact⟨by decide,.inr ⟨_,bC4,bI3⟩⟩
 .exact⟨by decide,.inr ⟨_,bJ1,bI0⟩⟩
 .exact⟨by decide,.inl ⟨_,bH0,aZ2 G.K G.calm (k:=2) rfl⟩⟩
 .exact⟨by decide,.inl ⟨_,bQ5,aZ2 G.K G.calm (k:=2) rfl⟩⟩
theorem bL7 {b:kZ}{es:kP}{x:Str}{y:Expr}{z:yK}{p pos:Pos}(G:CG Γ F n X ck)(hb:biT b=some x)(hg:ck.gl x=true)(m:mEs ck es (y::z)=true)(h:PA X (y::z) (TAv Γ (kU F es))) :
  EvT Γ X (.Call (.Name x p) (y::z) [] pos) (ku F (.bi b es)):=by
 refine .val ?_
 obtain⟨g1,g2,Z⟩:=G.gl hg
 obtain⟨hm,hc⟩:=bE5 G hb
 have hs:=aC2 m
 have s1:=zb (es:=z) (env:=X.env) (hs y (aw ..))
 have s2:=(zF (env:=X.env) (pos:=pos) λ e he=>hs e (ak _ he)).1
 rcases hc with⟨id,J,Y⟩|⟨T,J,Y⟩
 .exact(ag2 Y g1 (G.bi _ hm) J h Z g2 s1 s2).imp λ W H Q q=>aB9 (TEv.eq (λ U s=>rfl) q)
 .exact(al1 Y g1 (G.bi _ hm) J h Z g2 s1 s2).imp λ W H Q q=>aB9 (TEv.eq (λ U s=>rfl) q)
theorem bI8 {b:kZ}{k:Nat}{t:Str}(h:biK b=some (k,t)):(1<=k/\k<=5)/\t∈bNames/\a7 t=some (.type (ao8 k))/\lL b=lS (lY k):=by
 cases b<;>cases h
 .exact⟨by omega,by decide,bC4,rfl⟩
 .exact⟨by omega,by decide,bI2,rfl⟩
 .exact⟨by omega,by decide,bJ1,rfl⟩
 .exact⟨by omega,by decide,aQ6,rfl⟩
 .exact⟨by omega,by decide,bh8,rfl⟩
noncomputable def PEs (Γ:Gm)(F:kF)(X:Cx):kP->List Expr->Prop
 | .nil,[]=>True
 | .cons e es,x::xs=>(shp x=true/\EvT Γ X x (ku F e))/\PEs Γ F X es xs
 | _,_=>False
theorem ar0:∀ {es:kP} {z:yK},PEs Γ F X es z->PA X z (TAv Γ (kU F es))
 | .nil,[],_=>ac5.imp λ W H Q q=>aI8 (TAv.eq (λ U s=>rfl) q)
 | .nil,_::_,h=>h.elim
 | .cons _ _,[],h=>h.elim
 | .cons e es,x::z,h=>(aF1 h.1.1 h.1.2.1 (ar0 h.2)).imp λ W H Q q=>TAv.eq (λ U s=>rfl) q
theorem bw9 {b:kZ}{es:kP}{k:Nat}{t:Str}{a:Expr}{p Z pos:Pos}(G:CG Γ F n X ck)(hb:biK b=some (k,t))(hg:ck.gl "isinstance"=true)(Y:ck.gl t=true)(h:PEs Γ F X es [a]) :
  EvT Γ X (.Call (.Name "isinstance" p) [a,.Name t Z] [] pos) (ku F (.bi b es)):=by
 refine .val ?_
 obtain⟨g1,g2,g3⟩:=G.gl hg
 obtain⟨t1,t2,t3⟩:=G.gl Y
 obtain⟨hk,hm,hv,z⟩:=bI8 hb
 have J:PE X (.Name t Z) (tC (.ty (ao8 k))):=aQ8 t1 (G.bi _ hm) hv rfl t3 t2
 cases es with
 | nil=>exact h.elim
 | cons e es =>
  cases es with
  | cons _ _=>exact h.2.elim
  | nil =>
   obtain⟨⟨hs,ha,_⟩,_⟩:=h
   have hA:PA X [a,.Name t Z] (an3 (TEv Γ (ku F e)) (an3 (tC (.ty (ao8 k))) aY1)):=zt ha (zt J ac5 (zb rfl)) (zb hs)
   refine(ag2 (bL5 G.K hk) g1 (G.bi _ (by decide)) qu hA g3 g2 (zb hs) (zF λ e he=>by rw[bX.mp he];rfl).1).imp λ W H Q q=>?_
   obtain⟨C,U,s,d,s',E,R,hm,q⟩:=q
   obtain⟨l,s1,e1,hm⟩:=aa1 hm
   obtain⟨x,s2,e2,e1⟩:=aa1 e1
   obtain⟨l2,s3,e3,e1⟩:=aa1 e1
   cases e3
   cases e1
   rw[z]at hm
   refine⟨C,U,s,x,_,E,R,e2,λ v C1 H1 g1 l1 b1 r1 R1=>?_⟩
   exact⟨v,rfl,C1,_,[x],d,s',R1,.cons r1 .nil,by unfold kr;rw[b1];rfl,hm,q.trans g1 l1⟩
end
section
variable {Γ:Gm} {F:kF} {n:Nat} {X:Cx} {ck:Ck} {W:St} {H:Hp}
def TAp (Γ:Gm)(cells:yB)(N:yH)(m:kq->km->ky (List ko)):TA:=λ W H Q=>∃ C U s l s',RE Γ C H s.length U W/\Rp Γ C H s/\m U s=.ok l s' /\
 ∀ vs C' H',Gr C s H C' s' H'->s.length<=s'.length->kr s'.length l=true->PVL Γ cells N W C' H' l vs->Rp Γ C' H' s'->Q vs H'
theorem TAp.eq {cells:yB}{N:yH}{m m':kq->km->ky (List ko)}{Q:List V->Hp->Prop}(e:∀ U s,m U s=m' U s)(q:TAp Γ cells N m W H Q):TAp Γ cells N m' W H Q:=by
 obtain⟨C,U,s,l,s',E,R,hm,q⟩:=q
 exact⟨C,U,s,l,s',E,R,by rw[<-e];exact hm,q⟩
theorem br7 {cells:yB}{N:yH}{Q:List V->Hp->Prop}(h:TAp Γ cells N (λ U s=>.ok [] s) W H Q):aY1 W H Q:=by
 obtain⟨C,U,s,l,s',E,R,hm,q⟩:=h
 cases hm
 exact q [] C H (Gr.refl _ _ _) (ao _) rfl .nil R
theorem bA7 {cells:yB}{N:yH}{m:kq->km->ky ko}{G:kq->km->ky (List ko)}{Q:List V->Hp->Prop}(h:TAp Γ cells N (λ U s=>(m U s).bind λ d s=>(G U s).bind λ l s=>.ok (d::l) s) W H Q):an3 (TEv Γ m) (TAp Γ cells N G) W H Q:=by
 obtain⟨C,U,s,l,s',E,R,hm,q⟩:=h
 obtain⟨x,s1,e1,hm⟩:=aa1 hm
 obtain⟨y,s2,e2,hm⟩:=aa1 hm
 cases hm
 refine⟨C,U,s,x,s1,E,R,e1,λ v C1 Z g1 l1 b1 r1 R1=>?_⟩
 refine⟨C1,U,s1,y,s',E.mono g1 l1,R1,e2,λ vs C2 Y z F b2 J R2=>?_⟩
 exact q (v::vs) C2 Y (g1.trans z l1) (al l1 F) (by unfold kr;rw[zp F x b1,b2];rfl) (.cons (PVp.mono z b1 (.inl r1)) J) R2
end
section
variable {Γ:Gm} {F:kF} {n:Nat} {X:Cx} {ck:Ck} {W:St} {H:Hp} {Q:VK}
def cc7 (K:ac)(H:Hp)(v:V)(ys:List V)(z:Bool):Prop:=(∃ a,v=.ref a/\(SqL K H a ys\/(SqT K H a ys/\(z=true->H a=some (.tup ys)))))\/∃ x:List Nat,v=.str ⟨x.toArray⟩/\x.length<=kD/\ys=sgV x
def TLv (Γ:Gm)(m:kq->km->ky (List ko)):TE:=λ W H Q=>∃ C U s l s',RE Γ C H s.length U W/\Rp Γ C H s/\m U s=.ok l s' /\
 ∀ v ys C' H',Gr C s H C' s' H'->s.length<=s'.length->kr s'.length l=true->cc7 Γ.K H' v ys (kR l)->RVL Γ C' H' l ys->Rp Γ C' H' s'->Q v H'
theorem aF8 {m:kq->km->ky (List ko)}(h:TLv Γ m W H Q):TFv Γ m W H Q:=by
 obtain⟨C,U,s,l,s',E,R,hm,q⟩:=h
 exact⟨C,U,s,l,s',E,R,hm,λ p ys C' H' g hl hb hp h0 ho r z=>q (.ref p) ys C' H' g hl hb (.inl ⟨p,rfl,.inl (SqL.of hp)⟩) r z⟩
theorem av5 {C:Nat->Addr}:∀ x:List Nat,RVL Γ C H (x.map λ c=>.str [c]) (sgV x)
 | []=>.nil
 | c::x=>.cons (RV.strI (by unfold kD;simp)) (av5 x)
theorem aq1 {k:Nat}:∀ x:List Nat,kr k (x.map λ c=>.str [c])=true
 | []=>rfl
 | c::x=>by rw[bz];unfold kr;rw[aq1 x];rfl
theorem bG3 {m:kq->km->ky ko}(h:TLv Γ (λ U s=>(m U s).bind λ d s=>DV.bT3 d s) W H Q):TEv Γ m W H Q:=by
 obtain⟨C,U,s,l,s',E,R,hm,q⟩:=h
 obtain⟨d,s1,e1,hm⟩:=aa1 hm
 refine⟨C,U,s,d,s1,E,R,e1,λ v C1 J g1 l1 b1 r1 R1=>?_⟩
 cases d with
 | tup l' =>
  cases hm
  obtain⟨a,F,⟨rfl,z1⟩,z,G⟩:=r1.tupZ
  unfold kA at b1
  exact q _ F C1 J g1 l1 b1 (.inl ⟨a,rfl,.inr ⟨z,z1⟩⟩) G R1
 | str x =>
  cases hm
  exact q v (sgV x) C1 J g1 l1 (aq1 x) (.inr ⟨x,r1.strE,r1.strL,rfl⟩) (av5 x) R1
 | ref k =>
  have hm:(match s1[k]? with
   | some (.lst l)=>DV.R.ok l s1
   | some (.ro l)=>.ok l s1
   | _=>.bad)=.ok l s':=hm
  rw[r1.refE]
  cases e:s1[k]? with
  | none=>rw[e]at hm;exact fb hm
  | some ob =>
   rw[e]at hm
   cases ob with
   | lst l' =>
    cases hm
    obtain⟨F,z,G⟩:=R1.addr e
    have:=R1.wf k _ e
    unfold kC at this
    exact q _ F C1 J g1 l1 this (.inl ⟨_,rfl,.inl (SqL.of z)⟩) G R1
   | ro l' =>
    cases hm
    obtain⟨F,z,G⟩:=R1.obj k _ e
    have:=R1.wf k _ e
    unfold kC at this
    exact q _ F C1 J g1 l1 this (.inl ⟨_,rfl,.inl z.1⟩) G R1
   | _=>exact fb hm
 | _=>exact fb hm
theorem TLv.eq {m m':kq->km->ky (List ko)}(e:∀ U s,m U s=m' U s)(q:TLv Γ m W H Q):TLv Γ m' W H Q:=by
 have:m=m':=funext λ U=>funext λ s=>e U s
 subst this;exact q
theorem aJ6 {m:kq->km->ky (List ko)}{a:Expr}{p pos:Pos}(G:CG Γ F n X ck)(hg:ck.gl "tuple"=true)(hs:shp a=true)(h:PE X a (TLv Γ m)) :
  PE X (.Call (.Name "tuple" p) [a] [] pos) (TEv Γ (λ U s=>(m U s).bind λ l s=>lA .tuple l s)):=by
 obtain⟨g1,J,z⟩:=G.gl hg
 refine(al1 ((aC1 G.K).or (aC4 G.calm)) g1 (G.bi _ (by decide)) aQ6 (zt h ac5 (zb hs)) z J (zb hs) rfl).imp λ W H Q q=>?_
 obtain⟨C,U,s,d,s',E,R,hm,q⟩:=q
 obtain⟨l,s1,e1,hm⟩:=aa1 hm
 cases hm
 refine⟨C,U,s,l,_,E,R,e1,λ v ys C1 Y g1 l1 b1 hq r1 R1=>?_⟩
 rcases hq with⟨a,rfl,hq|hq⟩|⟨x,rfl,hx,rfl⟩
 .exact .inl ⟨a,ys,rfl,.inl ⟨hq,λ p hp=>(q.trans g1 l1).tup R1 r1 b1 hp⟩⟩
 .exact .inl ⟨a,ys,rfl,.inr ⟨hq.1,q _ C1 Y g1 l1 (by unfold kA;exact b1) (RV.tupC hq.1 hq.2 r1) R1⟩⟩
 .exact .inr ⟨x,rfl,hx,λ p hp=>(q.trans g1 l1).tup R1 r1 b1 hp⟩
theorem aS7 {m:kq->km->ky (List ko)}{a:Expr}{p pos:Pos}(G:CG Γ F n X ck)(hg:ck.gl "list"=true)(hs:shp a=true)(h:PE X a (TLv Γ m)) :
  PE X (.Call (.Name "list" p) [a] [] pos) (TEv Γ (λ U s=>(m U s).bind λ l s=>lA .list l s)):=by
 obtain⟨g1,J,z⟩:=G.gl hg
 refine(al1 ((aL2 G.K).or (aM5 G.calm)) g1 (G.bi _ (by decide)) bh8 (zt h ac5 (zb hs)) z J (zb hs) rfl).imp λ W H Q q=>?_
 obtain⟨C,U,s,d,s',E,R,hm,q⟩:=q
 obtain⟨l,s1,e1,hm⟩:=aa1 hm
 obtain⟨rfl,rfl⟩:=qe hm
 refine⟨C,U,s,l,_,E,R,e1,λ v ys C1 Y g1 l1 b1 hq r1 R1=>?_⟩
 rcases hq with⟨a,rfl,hq⟩|⟨x,rfl,hx,rfl⟩
 .exact .inl ⟨a,ys,rfl,hq.imp id (·.1),λ p hp=>(q.trans g1 l1).alloc R1 r1 b1 hp⟩
 .exact .inr ⟨x,rfl,hx,λ p hp=>(q.trans g1 l1).alloc R1 r1 b1 hp⟩
theorem bK7 {m:kq->km->ky (List ko)}{k:lM}{x:Str}{a:Expr}{p pos:Pos}(G:CG Γ F n X ck)(hk:mkT k=some x)(hg:ck.gl x=true)(hs:shp a=true)(h:PE X a (TLv Γ m)) :
  PE X (.Call (.Name x p) [a] [] pos) (TEv Γ (λ U s=>(m U s).bind λ l s=>lA k l s)):=by
 cases k<;>cases hk
 .exact aJ6 G hg hs h
 .exact aS7 G hg hs h
def FrC (Γ:Gm)(X:Cx)(x:Str)(k:lM):Prop:=∃ id r,a7 x=some (.builtin id)/\x∈bNames/\ac4 X (.builtin id) r/\∀ C H s l ys p d s' Q,Rp Γ C H s->RVL Γ C H l ys->H p=some (.lst ys)->lA k l s=.ok d s'->ae6 Γ C s H d s' Q->r [.ref p] H Q
theorem bt6 {is:List Int}(h:DV.bA0 is=true):jS is:=by
 unfold DV.bA0 at h
 rw[am]at h
 have G:=of_decide_eq_true h.2
 have F:∀ i∈is,-1000000000<=i/\i<=1000000000:=λ i z=>of_decide_eq_true (aB.mp h.1 i z)
 have hs:∀ l:List Int,(∀ i∈l,-1000000000<=i/\i<=1000000000)->-(1000000000*(l.length:Int))<=l.sum/\l.sum<=1000000000*(l.length:Int):=by
  intro l
  induction l with
  | nil=>intro _;simp
  | cons a l ih =>
   intro hl
   have:=ih λ i z=>hl i (ak _ z)
   have:=hl a (aw ..)
   rw[gT,aA]
   push_cast
   omega
 intro j hj
 have hg:is.getD j 0=is[j]:=by rw[aQ,ag hj];rfl
 have a:=F _ (bW hj)
 have b:=hs (is.take (j+1)) λ i z=>F i (cG z)
 have c:(is.take (j+1)).length<=1000000:=al (List.length_take_le _ _) (by omega)
 rw[hg]
 unfold InLong
 omega
theorem aF3:∀(l:List Int) (a:Int),(l.foldl min a=a\/l.foldl min a∈l)/\l.foldl min a<=a/\∀ y∈l,l.foldl min a<=y
 | [],a=>⟨.inl rfl,i6 _,λ y hy=>by cases hy⟩
 | b::l,a=>by
  obtain⟨G,J,F⟩:=aF3 l (min a b)
  rw[dC]
  refine⟨?_,by omega,λ y hy=>?_⟩
  .rcases G with h|h
   .rw[h]
    rcases Int.le_total a b with z|z
    .left;omega
    .right;rw[show min a b=b by omega];exact aw ..
   .exact .inr (ak _ h)
  .rcases ax.mp hy with z|z
   .rw[z];omega
   .exact F y z
theorem bf5 {l:List Int}{m:Int}(h:l8 l=some m):m∈l/\∀ y∈l,m<=y:=by
 cases l with
 | nil=>cases h
 | cons a l =>
  cases h
  obtain⟨G,J,F⟩:=aF3 l a
  refine⟨?_,λ y hy=>?_⟩
  .rcases G with h|h
   .rw[h];exact aw ..
   .exact ak _ h
  .rcases ax.mp hy with z|z
   .rw[z];exact J
   .exact F y z
theorem bp2 (G:CG Γ F n X ck){k:lM}{x:Str}(hk:mkF k=some x):FrC Γ X x k:=by
 cases k<;>cases hk
 .refine⟨_,_,bQ7,by decide,aP8 G.calm G.K,λ C H s l ys p d s' Q R r hp hm q=>?_⟩
  unfold lA at hm
  dsimp only at hm
  cases e:lu l with
  | none=>rw[e]at hm;exact fb hm
  | some bs =>
   rw[e]at hm
   cases hm
   have:=ak7 e
   subst this
   exact⟨p,bs,rfl,SqL.of (by rw[<-r.bls];exact hp),q.here R rfl RV.blI⟩
 .refine⟨_,_,bQ3,by decide,aX1 G.calm G.K,λ C H s l ys p d s' Q R r hp hm q=>?_⟩
  unfold lA at hm
  dsimp only at hm
  cases e:ln l with
  | none=>rw[e]at hm;exact fb hm
  | some is =>
   rw[e]at hm
   dsimp only at hm
   split at hm
   .rename_i hf
    cases hm
    have:=zR e
    subst this
    exact⟨p,is,rfl,SqL.of (by rw[<-r.ints];exact hp),bt6 hf,q.here R rfl RV.intI⟩
   .exact fb hm
 .refine⟨_,_,bH0,by decide,aS2 G.calm G.K,λ C H s l ys p d s' Q R r hp hm q=>?_⟩
  unfold lA at hm
  dsimp only at hm
  cases e:ln l with
  | none=>rw[e]at hm;exact fb hm
  | some is =>
   rw[e]at hm
   have hm:(match l8 is with|some m=>DV.R.ok (DV.D.int m) s|none=>.bad)=.ok d s':=hm
   cases e2:l8 is with
   | none=>rw[e2]at hm;exact fb hm
   | some mm =>
    rw[e2]at hm
    cases hm
    have:=zR e
    subst this
    refine⟨p,is,rfl,SqL.of (by rw[<-r.ints];exact hp),(λ(z:is=[])=>by rw[z]at e2;cases e2),λ m hm J=>?_⟩
    obtain⟨a,b⟩:=bf5 e2
    have:m=mm:=Int.le_antisymm (J mm a) (b m hm)
    rw[this]
    exact q.here R rfl RV.intI
theorem bJ6 {m:kq->km->ky (List ko)}{k:lM}{x:Str}{a:Expr}{p pos:Pos}(G:CG Γ F n X ck)(hk:mkF k=some x)(hg:ck.gl x=true)(hs:shp a=true)(h:PE X a (TFv Γ m)) :
  PE X (.Call (.Name x p) [a] [] pos) (TEv Γ (λ U s=>(m U s).bind λ l s=>lA k l s)):=by
 obtain⟨g1,J,z⟩:=G.gl hg
 obtain⟨id,r,hb,hx,hc,hr⟩:=bp2 (Γ:=Γ) G hk
 refine(ag2 hc g1 (G.bi _ hx) hb (zt h ac5 (zb hs)) z J (zb hs) rfl).imp λ W H Q q=>?_
 obtain⟨C,U,s,d,s',E,R,hm,q⟩:=q
 obtain⟨l,s1,e1,hm⟩:=aa1 hm
 exact⟨C,U,s,l,_,E,R,e1,λ p ys C1 Y g1 l1 b1 hp h0 ho r1 R1=>hr C1 Y s1 l ys p d s' Q R1 r1 hp hm (q.trans g1 l1)⟩
theorem ba9 {C C':Nat->Addr}{s s':km}{H':Hp}{r:Nat}{l:List ko}(R:Rp Γ C H s)(g:Gr C s H C' s' H')(hb:r<s.length)(e:s'[r]?=some (.lst l)):tyV Γ.K "list" (.ref (C r)) H:=by
 obtain⟨z,F⟩:∃ z,s[r]?=some z:=⟨s[r],ag hb⟩
 have hm:=g.mu r z _ F e rfl
 have ho:=R.obj r z F
 cases z with
 | lst l0 =>
  obtain⟨J,G,_⟩:=ho
  exact .inl ⟨rfl,J,SqL.of G⟩
 | ro _=>cases hm
 | ins _ _=>exact ho.elim
def mtR (Γ:Gm)(m:lN):V->List V->Hp->VK->Prop:=λ x vs H Q=>∃ C s a l d s',Rp Γ C H s/\RV Γ C H a x/\RVL Γ C H l vs/\a.bnd s.length=true/\kr s.length l=true/\lI m a l s=.ok d s'/\ae6 Γ C s H d s' Q
theorem bL9:kD<aM:=by rw[fg];decide
theorem as4 {m:lN}{x:Str}{k:Nat}(hm:mtT m=some (x,k)){a:ko}{l:List ko}{s s':km}{d:ko}(h:lI m a l s=.ok d s'):∃ r l0,a=.ref r/\s[r]?=some (.lst l0):=by
 have go:∀ {r:Nat} {f:List ko->ky ko},(match s[r]? with|some (.lst l)=>f l|_=>.bad)=.ok d s'->∃ l0,s[r]?=some (.lst l0):=λ {r f} h=>by
  cases e:s[r]? with
  | none=>rw[e]at h;exact fb h
  | some ob =>
   cases ob with
   | lst l0=>exact⟨l0,rfl⟩
   | _=>rw[e]at h;exact fb h
 cases a with
 | ref r =>
  have z:∀ {f:List ko->ky ko},(match s[r]? with|some (.lst l)=>f l|_=>.bad)=.ok d s'->∃ F l0,DV.D.ref r=.ref F/\s[F]?=some (.lst l0):=λ h=>by obtain⟨l0,e⟩:=go h;exact⟨_,l0,rfl,e⟩
  cases m with
  | append=>match l with
   | [d]=>exact z h
   | []=>exact fb h
   | _::_::_=>exact fb h
  | pop=>match l with
   | []=>exact z h
   | _::_=>exact fb h
  | _=>exact fb h
 | _=>cases m<;>exact fb h
theorem bh0:MtR X "list.append" (mtR Γ .append):=by
 intro F sh W H x vs v us Q I rx rv h
 obtain⟨C,s,a,l,d,s',R,Z,rl,ba,Y,hm,q⟩:=h
 obtain⟨r,l0,rfl,e⟩:=as4 (m:=.append) rfl hm
 cases l with
 | nil=>exact fb hm
 | cons y t =>
  cases t with
  | cons _ _=>exact fb hm
  | nil =>
   simp only[lI,e]at hm
   split at hm
   case isFalse=>exact fb hm
   rename_i hlt
   cases hm
   obtain⟨z,rfl,rz⟩:=rl.one
   obtain⟨xs,h1,J⟩:=R.addr e
   have G:kr s.length l0=true:=by have:=R.wf r _ e;unfold kC at this;exact this
   refine am9 F sh W H x [z] v us Q I rx rv ⟨C r,xs,z,Z.refE,rfl,h1,by rw[J.length];have:=bL9;omega,?_⟩
   exact q.put R e (J.append (.cons rz .nil)) (zT G Y) rfl RV.nonI
theorem bQ4:MtR X "list.pop" (mtR Γ .pop):=by
 intro F sh W H x vs v us Q I rx rv h
 obtain⟨C,s,a,l,d,s',R,Z,rl,ba,bl,hm,q⟩:=h
 obtain⟨r,l0,rfl,e⟩:=as4 (m:=.pop) rfl hm
 cases l with
 | cons _ _=>exact fb hm
 | nil =>
  simp only[lI,e]at hm
  cases eg:l0.getLast? with
  | none=>rw[eg]at hm;exact fb hm
  | some y =>
   rw[eg]at hm
   cases hm
   have hv:=rl.unnil
   subst hv
   obtain⟨Y,h1,G⟩:=R.addr e
   have z:kr s.length l0=true:=by have:=R.wf r _ e;unfold kC at this;exact this
   rw[List.getLast?_eq_getElem?]at eg
   obtain⟨w,hw,J⟩:=G.get eg
   rw[<-G.length]at hw
   refine bN0 F sh W H x [] v us Q I rx rv ⟨C r,Y,w,Z.refE,rfl,h1,hw,?_⟩
   have h3:RVL Γ C H l0.dropLast Y.dropLast:=by
    rw[gb,gb,G.length]
    exact G.take _
   exact q.put R e h3 (au3 z λ d hd=>List.dropLast_subset _ hd) (ag5 z eg) J
structure MtOk (Γ:Gm)(X:Cx)(m:lN)(x:Str):Prop where
 ex:∃ id,PySem.Slot "list" x id/\hR (.builtin id)=pure (.type "method_descriptor")/\MtR X id (mtR Γ m)
theorem bG8 (G:X.K=Γ.K)(z:Room (kJ+1) X.A){m:lN}{x:Str}{k:Nat}(h:mtT m=some (x,k)):MtOk Γ X m x:=by
 cases m<;>cases h
 .exact⟨_,dL,fB,bh0⟩
 .exact⟨_,hZ,PySem.F.type_list_pop,bQ4⟩
theorem bd7 {m:lN}{o:lq}{es:kP}{ob:Expr}{J:yK}{x:Str}{ap cp:Pos}(G:CG Γ F n X ck)(hm:mtT m=some (x,J.length))(hab:bV5 ob=true)(hl:(ap.endLine==cp.line)=true)(ho:PE X ob (TEv Γ (ku F o)))
  (a1:mEs ck es J=true) (h:PEs Γ F X es J):EvT Γ X (.Call (.Attribute ob x ap) J [] cp) (ku F (.meth m o es)):=by
 refine .val ?_
 obtain⟨id,slot,a0,hr⟩:=(bG8 (Γ:=Γ) (X:=X) G.K (G.room.mono G.deep) hm).ex
 have hs:=aC2 a1
 have key:∀ W H Q,TEv Γ (ku F (.meth m o es)) W H Q->tBM Γ.K "list" (mtR Γ m) (TEv Γ (ku F o)) (TAv Γ (kU F es)) W H Q:=λ W H Q q=>by
  obtain⟨C,U,s,d,s',E,R,z,q⟩:=q
  obtain⟨a,s1,e1,z⟩:=aa1 z
  obtain⟨l,s2,e2,z⟩:=aa1 z
  refine⟨C,U,s,a,s1,E,R,e1,λ v C1 H1 g1 l1 b1 r1 R1=>?_⟩
  obtain⟨r,l0,rfl,er⟩:=as4 hm z
  rw[r1.refE]
  have hk:∀ C2 H2,Gr C1 s1 H1 C2 s2 H2->tyV Γ.K "list" (.ref (C1 r)) H1:=λ C2 H2 g2=>ba9 R1 g2 (by unfold kA at b1;exact of_decide_eq_true b1) er
  have Z:TAv Γ (kU F es) W H1 λ J H2=>mtR Γ m (.ref (C1 r)) J H2 Q:=by
   refine⟨C1,U,s1,l,s2,E.mono g1 l1,R1,e2,λ vs C2 H2 g2 l2 b2 r2 R2=>?_⟩
   refine⟨C2,s2,.ref r,l,d,s',R2,?_,r2,zp l2 _ b1,b2,z,q.trans (g1.trans g2 l1) (al l1 l2)⟩
   have:=RV.mono g2 _ _ b1 r1
   rw[r1.refE]at this
   exact this
  refine⟨?_,Z⟩
  have hlt:r<s1.length:=by unfold kA at b1;exact of_decide_eq_true b1
  obtain⟨o0,e0⟩:∃ o0,s1[r]?=some o0:=⟨s1[r],ag hlt⟩
  have Y:=R1.obj r o0 e0
  cases o0 with
  | lst l0 =>
   obtain⟨J,h1,_⟩:=Y
   exact .inl ⟨rfl,J,SqL.of h1⟩
  | ro l0 =>
   obtain⟨J,h1,_⟩:=Y
   exact .inl ⟨rfl,J,h1.1⟩
  | ins _ _=>exact Y.elim
 cases J with
 | nil =>
  have p0:PE X (.Call (.Attribute ob x ap) [] [] cp) (bY4 X.K "list" (mtR Γ m) (TEv Γ (ku F o))):=bG6 ce slot a0 hr ho (aR7 hab) hl
  rw[G.K]at p0
  refine p0.imp λ W H Q q=>?_
  cases es with
  | cons _ _=>exact h.elim
  | nil =>
   obtain⟨C,U,s,d,s',E,R,z,k⟩:=key W H Q q
   refine⟨C,U,s,d,s',E,R,z,λ v C1 H1 g1 l1 b1 r1 R1=>?_⟩
   obtain⟨h1,h2⟩:=k v C1 H1 g1 l1 b1 r1 R1
   exact⟨h1,aI8 (TAv.eq (λ U s=>rfl) h2)⟩
 | cons y ys =>
  refine(bH7 G.K ce slot a0 hr ho (ar0 h) (aR7 hab) ?_ hl (zb (hs y (aw ..))) (zF λ e he=>hs e (ak _ he)).1).imp key
  rw[(zF hs).2]
  have:(y::ys).length<=1:=by
   unfold mtT at hm
   split at hm<;>first|(have:=ay hm;have:=congrArg Prod.snd this;simp at this;simp;omega)|cases hm
  simp only[d7,cC,j8]
  show(true&&decide ((y::ys).length+0+0<30))=true
  rw[d7]
  exact decide_eq_true (by omega)
end
section
variable {Γ:Gm} {F:kF} {n:Nat} {X:Cx} {ck:Ck} {W:St} {H:Hp} {Q:VK}
theorem PIf.imp {e:yK}{t t':TT}(h:PIf X e t)(i:∀ W H Q,t' W H Q->t W H Q):PIf X e t':=λ z s W H Q I q=>h z s W H Q I (i W H Q q)
structure CompF (Γ:Gm)(X:Cx)(m:kq->km->ky (List ko))(E:Expr):Prop where
 ex:∃ elt tgt iter ifs scope pos N' caps wi g tc te,E=.ListComp elt [⟨tgt,iter,ifs,0⟩] scope pos/\zJ N' caps scope X.N X.env.scope=true/\PI X tgt iter wi /\
  (∀(Cc:Addr) (cells:yB) (s:ae) (H:Hp) (ex:List Addr),PG (zB X N' scope Cc cells s H ex) tgt g/\PIf (zB X N' scope Cc cells s H ex) ifs tc/\PE (zB X N' scope Cc cells s H ex) elt te) /\
  (∀ x,dg iter X.env x=pure x)/\∀ W H Q,TFv Γ m W H Q->tComp caps wi g tc te W H Q
theorem CompF.pe {m:kq->km->ky (List ko)}{E:Expr}(h:CompF Γ X m E)(hc:X.calm=true):PE X E (TFv Γ m):=by
 obtain⟨Z,J,iter,Y,scope,pos,G,z,wi,g,tc,te,rfl,h1,h2,F,h4,h5⟩:=h.ex
 exact(aU6 G z h1 h2 hc F h4).imp h5
theorem bo9 {tg:kY}{mI:kq->km->ky lv}{mc Z:kq->km->ky ko}{z:yD}{Y J iter i:Expr}{scope:Scope}{pos:Pos}(G:CG Γ F n X ck)(hm:aJ4 ck tg J iter z scope=true)
  (hi:PI X J iter (TIv Γ mI)) (hc:∀ Cc cells s H ex,PT (zB X (ckC ck J z scope).N scope Cc cells s H ex) i (TTv Γ mc)) (he:∀ Cc cells s H ex,PE (zB X (ckC ck J z scope).N scope Cc cells s H ex) Y (TEv Γ Z)) :
  CompF Γ X (λ U s=>(mI U s).bind λ q s0=>if q.its.length<=kD then lz (λ s=>kT s0 s q.src) (λ d U s=>match kN U tg d with
   | some U=>kG (mc U s) λ k s=>if k then(Z U s).bind λ v s=>.ok (some v,U) s else .ok (none,U) s
   | none=>.bad) q.its (li U z) s0 else .bad) (.ListComp Y [⟨J,iter,[i],0⟩] scope pos):=by
 obtain⟨c1,c2,c3⟩:=G.comp hm
 exact⟨Y,J,iter,[i],scope,pos,_,z,_,_,_,_,rfl,c1,hi,λ Cc cells s H ex=>⟨(c3 Cc cells s H ex).2,bs6 (hc Cc cells s H ex),he Cc cells s H ex⟩,at4 c2,λ W H Q q=>aW2 q⟩
theorem comp_all {tg:kY}{mI:kq->km->ky lv}{Z:kq->km->ky ko}{z:yD}{Y J iter:Expr}{scope:Scope}{pos:Pos}(G:CG Γ F n X ck)(hm:aJ4 ck tg J iter z scope=true)
  (hi:PI X J iter (TIv Γ mI)) (he:∀ Cc cells s H ex,PE (zB X (ckC ck J z scope).N scope Cc cells s H ex) Y (TEv Γ Z)) :
  CompF Γ X (λ U s=>(mI U s).bind λ q s0=>if q.its.length<=kD then lz (λ s=>kT s0 s q.src) (λ d U s=>match kN U tg d with
   | some U=>(Z U s).bind λ v s=>.ok (some v,U) s
   | none=>.bad) q.its (li U z) s0 else .bad) (.ListComp Y [⟨J,iter,[],0⟩] scope pos):=by
 obtain⟨c1,c2,c3⟩:=G.comp hm
 refine⟨Y,J,iter,[],scope,pos,_,z,_,_,TTv Γ (λ U s=>.ok (.bl true) s),_,rfl,c1,hi,λ Cc cells s H ex=>⟨(c3 Cc cells s H ex).2,bm5.imp λ W H Q q=>?_,he Cc cells s H ex⟩,at4 c2,λ W H Q q=>aW2 (TFv.eq (λ U s=>?_) q)⟩
 .obtain⟨C,U,s,b,s',E,R,hm,q⟩:=q
  cases hm
  exact q C H (Gr.refl _ _ _) (ao _) R
 .congr 1
theorem bv1 {tg:Expr}{e:lq}{E:Expr}(G:CG Γ F n X ck)(h:PE X E (TEv Γ (ku F e))):PI X tg E (TIv Γ (lB F (.seq e))):=by
 refine(PI.or (bv5 G.K h) (PI.or (bg7 G.K h) (bF1 h))).imp λ W H R q=>bH5 (TIv.eq (λ U s=>rfl) q)
theorem bf7 {tg:Expr}{a:lq}{l:Expr}{p pos:Pos}(G:CG Γ F n X ck)(hg:ck.gl "range"=true)(hs:shp l=true)(h:PE X l (TEv Γ (ku F a))):PI X tg (.Call (.Name "range" p) [l] [] pos) (TIv Γ (lB F (.rng1 a))) :=
 (aO0 (G.gl hg).1 (G.bi _ (by decide)) (zt h ac5 (zb hs)) (zb hs)).imp λ W H R q=>bv2 (TIv.eq (λ U s=>rfl) q)
theorem aZ1 {tg:Expr}{a b:lq}{l r:Expr}{p pos cp:Pos}{ck0:Nat}(G:CG Γ F n X ck)(hg:ck.gl "range"=true)(hs:shp l=true)(z:shp r=true)(h:PE X l (TEv Γ (ku F a)))(J:PE X r (TEv Γ (ku F b))):PI X tg (.Call (.Name "range" p) [l,r,.Constant (.int 2) ck0 cp] [] pos) (TIv Γ (lB F (.rng3 a b 2))) :=
 (aN0 (G.gl hg).1 (G.bi _ (by decide)) (zt h (zt J (zt aP7 ac5 rfl) (zb z)) (zb hs)) (zb hs) (by rw[zb z];rfl)).imp λ W H R q=>bw4 (TIv.eq (λ U s=>rfl) q)
theorem bb8 (a b:Str):same (.str a) (.str b)=decide (a=b):=by
 show(a==b)=_
 by_cases h:a=b
 .subst h;simp
 .rw[decide_eq_false h];simp[h]
theorem qL (w:List Nat):∀ kvs:List (List Nat×List Nat),lookup (.str ⟨w.toArray⟩) (strD kvs)=(kvs.lookup w).map λ v=>.str ⟨v.toArray⟩
 | []=>rfl
 | (k,v)::kvs=>by
  show(if same (.str ⟨k.toArray⟩) (.str ⟨w.toArray⟩)=true then some (PyData.str ⟨v.toArray⟩)else lookup (.str ⟨w.toArray⟩) (strD kvs))=_
  rw[bb8,qL w kvs,aP]
  by_cases h:w=k
  .subst h;simp
  .have z:¬(⟨k.toArray⟩:Str)=⟨w.toArray⟩:=λ e=>h (by have:=congrArg fJ (ki e);simpa using this.symm)
   rw[decide_eq_false z,beq_false_of_ne h]
   rfl
theorem bc0 {v:Value}{x:Str}(h:PyProof.V.Flat v (.str x)):∃ t,v=.str x t:=by
 have:=h default
 cases this
 exact⟨_,rfl⟩
section
variable {c:String} {kvs:List (List Nat×List Nat)} {a:Addr}
def bZ6 (kvs:List (List Nat×List Nat))(a:Addr):R2:=λ x y H Q=>(∃ w:List Nat,x=.str ⟨w.toArray⟩/\y=.ref a/\Q (.bl (kvs.lookup w).isSome) H)\/x=.non/\y=.ref a/\Q (.bl false) H
theorem aM2 {P:aD}{w:World}{A:aN}{E:Value->ae->Prop}{s:ae}{d:Addr}{D:List (j7×j7)}{Q:Value->ae->Prop}(T:jC P w s.heap d D)(h:Q (.bool false) { s with toks:=s.toks+1 }):wpAny (model P w) A (c5 .In .none (.ref d)) Q E s:=by
 obtain⟨Y,kvs,hd,hf⟩:=T
 obtain⟨o,es,ep,Z,h2,J,G,h5,h6⟩:=hd
 have k2:KeysOf (am0 P w) es:=λ e F=>by
  obtain⟨x,k,hh⟩:=G e F
  exact⟨some (.inr x),k,hh⟩
 refine wpAny_in_of (knd:=am0 P w) (k:=none) (f:=λ k=>findBy (am0 P w).is es k) rfl Y ⟨o,es,ep,Z,h2,J,k2,λ _=>rfl⟩ ?_
 have:findBy (am0 P w).is es none=none:=by
  have hn:es.find? (λ e=>(am0 P w).is none e.key)=none:=by
   rw[Array.find?_eq_none]
   intro e F z
   obtain⟨x,k,_⟩:=G e F
   obtain⟨t,ek⟩:=gD (x:=x) (v:=e.key) k
   have z:=zO z
   rw[ek]at z
   cases z
  unfold findBy
  rw[hn]
  rfl
 rw[this]
 exact h
theorem bz4 (hT:∀ h:Heap,X.K.In h->jC X.prog X.w h a (strD kvs)):OpR X (c5 .In) (bZ6 kvs a):=by
 intro z s W H x y v u Q I F G h
 rcases h with⟨w,rfl,rfl,q⟩|⟨rfl,rfl,q⟩
 case inr =>
  cases(show v=Value.none from F)
  cases(show u=Value.ref a from G)
  exact aM2 (hT _ I.kIn) ⟨.bl false,H,I.tok _,rfl,q⟩
 obtain⟨t,rfl⟩:=(show ∃ t,v=Value.str ⟨w.toArray⟩ t from F)
 cases(show u=Value.ref a from G)
 refine in_strTab (hT _ I.kIn) ?_
 refine⟨.bl (kvs.lookup w).isSome,H,I.tok _,?_,q⟩
 show Value.bool _=Value.bool _
 rw[qL]
 cases kvs.lookup w<;>rfl
theorem bl6 {e:lq}{W:St}{H:Hp}{Q:VK}(ec:F.cdc c=some kvs)(h:TEv Γ (ku F (.inC e c)) W H Q):tOp (bZ6 kvs a) (TEv Γ (ku F e)) (tC (.ref a)) W H Q:=by
 obtain⟨C,U,s,d,s',E,R,hm,q⟩:=h
 obtain⟨x,s1,e1,hm⟩:=aa1 hm
 refine⟨C,U,s,x,s1,E,R,e1,λ v1 C1 z g1 l1 b1 r1 R1=>?_⟩
 unfold DV.aL6 at hm
 rw[ec]at hm
 cases x with
 | str w =>
  cases hm
  rw[r1.strE]
  exact .inl ⟨w,rfl,rfl,(q.trans g1 l1).here R1 rfl RV.blI⟩
 | non =>
  cases hm
  rw[r1.nonE]
  exact .inr ⟨rfl,rfl,(q.trans g1 l1).here R1 rfl RV.blI⟩
 | _=>cases hm
theorem bx0 {e:lq}{l:Expr}{p pos:Pos}(G:CG Γ F n X ck)(hg:ck.gl (c:Str)=true)(J:PE X l (TEv Γ (ku F e))):EvT Γ X (.Compare l [.In] [.Name (c:Str) p] pos) (ku F (.inC e c)):=by
 obtain⟨g1,Y,Z⟩:=G.gl hg
 cases ec:F.cdc c with
 | none =>
  have no:∀ {U:kq} {s s':km} {d:ko},ku F (.inC e c) U s≠.ok d s':=λ {U s s' d} hm=>by
   obtain⟨x,s1,e1,hm⟩:=aa1 hm
   unfold DV.aL6 at hm
   rw[ec]at hm
   cases hm
  exact⟨λ z s W H Q I q=>by obtain⟨_,_,_,_,_,_,_,hm,_⟩:=q;exact absurd hm no,λ z s W H Q I q=>by obtain⟨_,_,_,_,_,_,_,hm,_⟩:=q;exact absurd hm no⟩
 | some kvs =>
  obtain⟨a,ha,hT⟩:=G.cdc c kvs ec
  have ho:=bz4 (X:=X) hT
  have hb:PE X (.Name (c:Str) p) (tC (.ref a)):=ai4 g1 ha rfl Y
  refine⟨(aX0 ho J hb (ag6 rfl)).imp λ W H Q q=>bl6 ec q,(aB5 ho J hb (ag6 rfl)).imp λ W H Q q=>?_⟩
  exact bl6 ec (aV5 q)
theorem be0 {e:lq}{l:Expr}{p pos:Pos}(G:CG Γ F n X ck)(hg:ck.gl (c:Str)=true)(hs:shp l=true)(he:PE X l (TEv Γ (ku F e))):EvT Γ X (.Subscript (.Name (c:Str) p) l pos) (ku F (.getC c e)):=by
 obtain⟨g1,g2,g3⟩:=G.gl hg
 refine .val λ J s W H Q I q=>?_
 obtain⟨C,U,s0,d,s',E,R,hm,q⟩:=q
 obtain⟨x,s1,e1,hm⟩:=aa1 hm
 unfold DV.aO2 at hm
 cases ec:F.cdc c with
 | none=>rw[ec]at hm;cases hm
 | some kvs =>
  rw[ec]at hm
  obtain⟨a,ha,hT⟩:=G.cdc c kvs ec
  have hb:PE X (.Name (c:Str) p) (tC (.ref a)):=ai4 g1 ha rfl g2
  cases x with
  | str w =>
   change(match kvs.lookup w with|some v=>if v.length<=kD then DV.R.ok (DV.D.str v) s1 else .bad|none=>.bad)=_ at hm
   cases ek:kvs.lookup w with
   | none=>rw[ek]at hm;cases hm
   | some z =>
    rw[ek]at hm
    have hm:(if z.length<=kD then DV.R.ok (DV.D.str z) s1 else .bad)=DV.R.ok d s':=hm
    split at hm
    case isFalse=>cases hm
    rename_i hz
    cases hm
    have key:tOp (λ x y Z Q1=>x=.ref a/\y=.str ⟨w.toArray⟩/\Q1 (.str ⟨z.toArray⟩) Z) (tC (.ref a)) (TEv Γ (ku F e)) W H Q:=by
     refine⟨C,U,s0,_,_,E,R,e1,λ v1 C1 Z g1 l1 b1 r1 R1=>⟨rfl,r1.strE,?_⟩⟩
     exact(q.trans g1 l1).here R1 rfl (RV.strI hz)
    refine jr (bP8 hb he I key λ v u s2 x y H2 Y rx ry q2=>?_)
    obtain⟨rfl,rfl,q3⟩:=q2
    cases(show v=Value.ref a from rx)
    obtain⟨t,rfl⟩:=(show ∃ t,u=Value.str ⟨w.toArray⟩ t from ry)
    refine item_strTab (hT _ Y.kIn) (by rw[qL,ek];rfl) (λ v hv=>?_) (ah7 hs _ _) (by intro r;rfl)
    obtain⟨t',rfl⟩:=bc0 hv
    exact⟨.str ⟨z.toArray⟩,H2,Y.tok _,⟨_,rfl⟩,q3⟩
  | _=>cases hm
end
end
section
variable {Γ:Gm} {F:kF} {n:Nat} {X:Cx} {ck:Ck}
end
section
variable {Γ:Gm} {F:kF} {n:Nat} {X:Cx} {ck:Ck}
def TJv (Γ:Gm)(m:kq->km->ky (List ko))(out:List Nat):TE:=λ W H Q=>∃ C U s l s' ws,RE Γ C H s.length U W/\Rp Γ C H s/\m U s=.ok l s'/\lJ l=some ws/\(out++ws.flatten).length<=kD /\
 ∀ C' H',Gr C s H C' s' H'->s.length<=s'.length->Rp Γ C' H' s'->Q (.str ⟨(out++ws.flatten).toArray⟩) H'
def PF (Γ:Gm)(X:Cx)(vs:yK)(m:kq->km->ky (List ko)):Prop :=
 ∀(out:List Nat) (pins:yA) (s:ae) (W:St) (H:Hp) (Q:VK),Inv X pins W H s->TJv Γ m out W H Q->wpAny (model X.prog X.w) X.A (joinParts ⟨out.toArray⟩ (evalEach vs X.env)) (EP X pins W Q) X.xe s
theorem PF.eq {vs:yK}{m m':kq->km->ky (List ko)}(e:∀ U s,m U s=m' U s)(h:PF Γ X vs m):PF Γ X vs m':=λ out z s W H Q I q=>by
 obtain⟨C,U,s0,l,s',ws,E,R,hm,q⟩:=q
 exact h out z s W H Q I ⟨C,U,s0,l,s',ws,E,R,by rw[e];exact hm,q⟩
theorem aB0 (w:List Nat):(⟨w.toArray⟩:Str).length=w.length:=by simp[Str.length]
theorem bC2:PF Γ X [] (λ _ s=>.ok [] s):=λ out z s W H Q I q=>by
 obtain⟨C,U,s0,l,s',ws,E,R,hm,hw,hl,q⟩:=q
 cases hm
 cases hw
 rw[List.flatten_nil,aF]at q hl
 exact joinParts_nilE (joinParts_nil ⟨.str ⟨out.toArray⟩,H,I.tok _,⟨_,rfl⟩,q C H (Gr.refl _ _ _) (ao _) R⟩ (by rw[aB0];exact al hl zM))
theorem aW5 {d:ko}{l:List ko}{ws:List (List Nat)}(h:lJ (d::l)=some ws):∃ w z,d=.str w/\lJ l=some z/\ws=w::z:=by
 cases d with
 | str w =>
  have h:(lJ l).map (w::·)=some ws:=h
  cases e:lJ l with
  | none=>rw[e]at h;cases h
  | some z=>rw[e]at h;cases h;exact⟨w,z,rfl,rfl,rfl⟩
 | _=>cases h
theorem aO9 {v:Expr}{vs:yK}{m1:kq->km->ky ko}{m2:kq->km->ky (List ko)}(h2:PF Γ X vs m2)
  (h1:∀(z:yA) (s:ae) (W:St) (H:Hp) (w:List Nat) (Q:VK),w.length<=kD->Inv X z W H s->TEv Γ m1 W H (λ x F=>x=.str ⟨w.toArray⟩/\Q x F) ->
   wpAny (model X.prog X.w) X.A (eval v X.env) (λ u s1=>∃ t F,u=.str ⟨w.toArray⟩ t/\Inv X z W F s1/\Q (.str ⟨w.toArray⟩) F) X.xe s) :
  PF Γ X (v::vs) (λ U s=>(m1 U s).bind λ d s=>(m2 U s).bind λ l s=>.ok (d::l) s):=λ out z s W H Q I q=>by
 obtain⟨C,U,s0,l,s',ws,E,R,hm,hw,hl,q⟩:=q
 obtain⟨d,s1,e1,hm⟩:=aa1 hm
 obtain⟨l2,s2,e2,hm⟩:=aa1 hm
 cases hm
 obtain⟨w,a0,rfl,Y,rfl⟩:=aW5 hw
 rw[cF,<-ar]at hl q
 have J:(out++w).length<=kD:=by rw[au]at hl;omega
 have G:w.length<=kD:=by rw[au]at J;omega
 refine joinParts_consE (joinParts_cons (aZ (h1 z s W H w (λ x F=>∃ C1,Gr C s0 H C1 s1 F/\s0.length<=s1.length/\Rp Γ C1 F s1) G I ⟨C,U,s0,.str w,s1,E,R,e1,λ v C1 F g1 l1 b1 r1 R1=>⟨r1.strE,C1,g1,l1,R1⟩⟩) (λ u Z hu=>?_) λ _ _ x=>x))
 obtain⟨t,F,rfl,I1,C1,g1,l1,R1⟩:=hu
 show(_++_:Str).length<=aM/\_
 rw[aO8]
 refine⟨by rw[aB0];exact al J zM,h2 (out++w) z Z W F Q I1 ⟨C1,U,s1,l2,s',a0,E.mono g1 l1,R1,e2,Y,hl,λ C2 H2 g2 l2 R2=>q C2 H2 (g1.trans g2 l1) (al l1 l2) R2⟩⟩
theorem bi6 {v:Expr}{G:kq->km->ky ko}(hv:PE X v (TEv Γ G))(z:yA)(s:ae)(W:St)(H:Hp)(w:List Nat)(Q:VK)(I:Inv X z W H s)(q:TEv Γ G W H (λ x F=>x=.str ⟨w.toArray⟩/\Q x F)) :
  wpAny (model X.prog X.w) X.A (eval v X.env) (λ u s1=>∃ t F,u=.str ⟨w.toArray⟩ t/\Inv X z W F s1/\Q (.str ⟨w.toArray⟩) F) X.xe s :=
 aZ (hv z s W H _ I q) (λ u s1 hu=>by
  obtain⟨x,F,J,Y,ex,Z⟩:=hu
  subst ex
  obtain⟨t,rfl⟩:=(show ∃ t,u=Value.str ⟨w.toArray⟩ t from Y)
  exact⟨t,F,rfl,J,Z⟩) λ _ _ x=>x
theorem bK6 {v:Expr}{p:Pos}{vs:yK}{F:kq->km->ky ko}{G:kq->km->ky (List ko)}(hv:PE X v (TEv Γ F))(h2:PF Γ X vs G) :
  PF Γ X (.FormattedValue v (-1) none p::vs) (λ U s=>(F U s).bind λ d s=>(G U s).bind λ l s=>.ok (d::l) s) :=
 aO9 h2 λ z s W H w Q hw I q=>FormattedValue_plain (aZ (bi6 hv z s W H w Q I q) (λ u s1 hu=>by
  obtain⟨t,Z,rfl,J,Y⟩:=hu
  exact formatField_str (λ t' tk=>⟨t',Z,rfl,J.tok tk,Y⟩) (by rw[aB0];exact al hw zM)) λ _ _ x=>x)
theorem bA4 {v:Expr}{vs:yK}{F:kq->km->ky ko}{G:kq->km->ky (List ko)}(hv:PE X v (TEv Γ F))(J:PF Γ X vs G) :
  PF Γ X (v::vs) (λ U s=>(F U s).bind λ d s=>(G U s).bind λ l s=>.ok (d::l) s) :=
 aO9 J λ z s W H w Q hw I q=>bi6 hv z s W H w Q I q
end
section
variable {Γ:Gm} {F:kF} {n:Nat}
theorem bD3 {X:Cx}{c:DV.Cn}{v:Const}{k:Nat}{pos:Pos}(h:mC c v=true):EvT Γ X (.Constant v k pos) (ku F (.cst c)):=by
 refine .val ?_
 unfold mC at h
 split at h
 .exact bK3.imp λ W H Q q=>az9 (c:=.non) (λ _=>rfl) (λ _ _=>RV.nonI) (TEv.eq (λ U s=>rfl) q)
 .rename_i b c
  have e:=eq_of_beq h
  subst e
  exact bq0.imp λ W H Q q=>az9 (c:=.bl b) (λ _=>rfl) (λ _ _=>RV.blI) (TEv.eq (λ U s=>rfl) q)
 .rename_i i j
  have e:=of_decide_eq_true h
  subst e
  exact aP7.imp λ W H Q q=>az9 (c:=.int i) (λ _=>rfl) (λ _ _=>RV.intI) (TEv.eq (λ U s=>rfl) q)
 .rename_i x y
  rw[am]at h
  have e:=of_decide_eq_true h.1
  have e2:=of_decide_eq_true h.2
  subst e
  exact ay0.imp λ W H Q q=>az9 (c:=.str x) (λ _=>rfl) (λ _ _=>RV.strI (by unfold kD;omega)) (TEv.eq (λ U s=>rfl) q)
 .cases h
theorem bx1 {X:Cx}{Y:Ck}{es:kP}{z:yK}{pos:Pos}(m:mEs Y es z=true)(hz:z.length<=1000)(h:PA X z (TAv Γ (kU F es))):PE X (.List z pos) (TFv Γ (DV.evL F (.disp es))):=by
 refine(aq9 h).imp λ W H Q q=>?_
 obtain⟨C,U,s,l,s',E,R,hm,q⟩:=q
 refine⟨C,U,s,l,s',E,R,hm,λ vs C1 J g1 l1 b1 r1 R1=>⟨by rw[r1.length,au9 hm m];exact aH4 hz,λ p hp=>?_⟩⟩
 obtain⟨G,R2⟩:=R1.same (H':=upd J p (.lst vs)) ((ad3.refl J).new hp)
 refine q p vs C1 _ (g1.trans G l1) l1 b1 zo ?_ (Off.new R1 hp) (RVL.mono G _ _ b1 r1) R2
 cases e:H p with
 | none=>rfl
 | some o=>exact absurd hp (g1.st p (by rw[e];simp))
theorem CompF.eq {X:Cx}{m m':kq->km->ky (List ko)}{E:Expr}(c:CompF Γ X m E)(e:∀ U s,m' U s=m U s):CompF Γ X m' E:=by
 have:m'=m:=funext λ U=>funext λ s=>e U s
 subst this;exact c
theorem zc {a b:Bool}(h:(a&&b)=true):a=true/\b=true:=by rw[am]at h;exact h
theorem bo1 {X:Cx}{J:Ck}{g:String}{p:Pos}(G:CG Γ F n X J)(h:J.gl (g:Str)=true):EvT Γ X (.Name (g:Str) p) (ku F (.glob g)):=by
 refine .val ?_
 obtain⟨g1,Z,g3⟩:=G.gl h
 cases e:F.con g with
 | none =>
  intro z s W H Q I q
  obtain⟨C,U,s,d,s',E,R,hm,q⟩:=q
  have hm:(match F.con g with|some d=>DV.R.ok d s|none=>.bad)=.ok d s':=hm
  rw[e]at hm
  cases hm
 | some d =>
  obtain⟨v,u,h1,h2,Y,h4⟩:=G.con g d e
  exact(ai4 g1 h1 h2 Z).imp λ W H Q q=>az9 (c:=d) Y h4 (TEv.eq (λ U s=>by show(match F.con g with|some d=>DV.R.ok d s|none=>.bad)=DV.R.ok d s;rw[e]) q)
theorem bE9 {X:Cx}{z:Ck}{i:Nat}{x:Str}{p:Pos}(G:CG Γ F n X z)(h:z.var i x=true):EvT Γ X (.Name x p) (ku F (.var i)):=by
 refine .val ?_
 unfold Ck.var at h
 obtain⟨h,J⟩:=zc h
 obtain⟨h,Y⟩:=zc h
 obtain⟨Z,h2⟩:=zc h
 have e1:(x==("__debug__":Str))=false:=by simpa using Y
 have e2:(x==("__classdict__":Str))=false:=by simpa using J
 exact(av4 (by rw[G.N];exact of_decide_eq_true Z) (G.vis h2) e1 e2).imp λ W H Q q=>bM9 i (TEv.eq (λ U s=>rfl) q)
inductive LK (Γ:Gm)(X:Cx)(m:kq->km->ky (List ko))(E:Expr)(k:Nat):Prop where
 | c (h:CompF Γ X m E):LK Γ X m E k
 | f (hk:1<=k) (h:PE X E (TFv Γ m)):LK Γ X m E k
 | s (hk:k=2) (h:PE X E (TLv Γ m)):LK Γ X m E k
theorem bB1 {X:Cx}{m:kq->km->ky (List ko)}{E:Expr}(h:LK Γ X m E 0):CompF Γ X m E:=by
 cases h with
 | c h=>exact h
 | f hk h=>omega
 | s hk h=>omega
theorem bU8 {X:Cx}{z:Ck}{m:kq->km->ky (List ko)}{E:Expr}(G:CG Γ F n X z)(h:LK Γ X m E 1):PE X E (TFv Γ m):=by
 cases h with
 | c h=>exact h.pe G.calm
 | f hk h=>exact h
 | s hk h=>omega
theorem bT8 {X:Cx}{z:Ck}{m:kq->km->ky (List ko)}{E:Expr}(G:CG Γ F n X z)(h:LK Γ X m E 2):PE X E (TLv Γ m):=by
 cases h with
 | c h=>exact(h.pe G.calm).imp λ W H Q q=>aF8 q
 | f hk h=>exact h.imp λ W H Q q=>aF8 q
 | s hk h=>exact h
theorem biOk_inv {z:Ck}{b:kZ}{x:Str}{F:yK}{es:kP}(h:bP4 z b x F (mEs z es F) (mEs z es (F.take 1))=true) :
  (∃ k t a y Y,biK b=some (k,t)/\F=[a,.Name y Y]/\x=("isinstance":Str)/\y=t/\z.gl x=true/\z.gl y=true/\mEs z es [a]=true)\/∃ a ys,F=a::ys/\biT b=some x/\z.gl x=true/\mEs z es (a::ys)=true:=by
 unfold bP4 at h
 cases hk:biK b with
 | none =>
  rw[hk]at h
  cases F with
  | nil=>exact ff h
  | cons a ys =>
   obtain⟨h,G⟩:=zc h
   obtain⟨J,Z⟩:=zc h
   exact .inr ⟨a,ys,rfl,of_decide_eq_true J,Z,G⟩
 | some p =>
  rw[hk]at h
  cases F with
  | nil=>exact ff h
  | cons a ys=>cases ys with
   | nil=>exact ff h
   | cons b ys=>cases b with
    | Name y Y=>cases ys with
     | nil =>
      obtain⟨h,h5⟩:=zc h
      obtain⟨h,h4⟩:=zc h
      obtain⟨h,G⟩:=zc h
      obtain⟨J,Z⟩:=zc h
      exact .inl ⟨p.1,p.2,a,y,Y,rfl,rfl,of_decide_eq_true J,of_decide_eq_true G,Z,h4,h5⟩
     | cons _ _=>exact ff h
    | _=>exact ff h
mutual
theorem sE:∀(e:lq) (E:Expr) (X:Cx) (z:Ck),CG Γ F n X z->mE z e E=true->EvT Γ X E (ku F e)
 | .var i,E,X,z,G,h=>by
  cases E with
  | Name x p =>
   exact bE9 G h
  | _=>exact ff h
 | .cst c,E,X,z,G,h=>by
  cases E with
  | Constant v k p =>
   exact bD3 h
  | _=>exact ff h
 | .glob g,E,X,z,G,h=>by
  cases E with
  | Name x p =>
   obtain⟨Y,J⟩:=zc h
   have e:=of_decide_eq_true Y
   subst e
   exact bo1 G J
  | _=>exact ff h
 | .bin op a b,E,X,z,G,h=>by
  cases E with
  | BinOp l o r pE =>
   obtain⟨h,Z⟩:=zc h
   obtain⟨Y,J⟩:=zc h
   have e:=of_decide_eq_true Y
   subst e
   exact bq6 G op (sE a _ X z G J) (sE b _ X z G Z)
  | _=>exact ff h
 | .neg a,E,X,z,G,h=>by
  cases E with
  | UnaryOp o l p =>
   cases o with
   | USub =>
    exact bn6 (sE a _ X z G h)
   | _=>exact ff h
  | _=>exact ff h
 | .not a,E,X,z,G,h=>by
  cases E with
  | UnaryOp o l p =>
   cases o with
   | Not =>
    exact bv6 (sE a _ X z G h)
   | _=>exact ff h
  | _=>exact ff h
 | .cmp op a b,E,X,z,G,h=>by
  cases E with
  | Compare l os rs pE =>
   cases os with
   | cons o os_0 =>
    cases os_0 with
    | nil =>
     cases rs with
     | cons r rs_0 =>
      cases rs_0 with
      | nil =>
       obtain⟨h,Z⟩:=zc h
       obtain⟨Y,J⟩:=zc h
       have e:=of_decide_eq_true Y
       subst e
       exact br6 G op (aE2 Z) (sE a _ X z G J) (sE b _ X z G Z)
      | _=>exact ff h
     | _=>exact ff h
    | _=>exact ff h
   | _=>exact ff h
  | _=>exact ff h
 | .isN a,E,X,z,G,h=>by
  cases E with
  | Compare l os rs pE =>
   cases os with
   | cons o os1 =>
    cases o with
    | Is =>
     cases os1 with
     | nil =>
      cases rs with
      | cons r rs1 =>
       cases r with
       | Constant v k p1 =>
        cases v with
        | none =>
         cases rs1 with
         | nil =>
          exact bw6 (sE a _ X z G h)
         | _=>exact ff h
        | _=>exact ff h
       | _=>exact ff h
      | _=>exact ff h
     | _=>exact ff h
    | _=>exact ff h
   | _=>exact ff h
  | _=>exact ff h
 | .and a b,E,X,z,G,h=>by
  cases E with
  | BoolOp op vs p=>cases op with
   | And =>
    cases vs with
    | nil=>exact ff h
    | cons l vs=>cases vs with
     | nil=>exact ff h
     | cons r vs=>cases vs with
      | nil =>
       obtain⟨Y,J⟩:=zc h
       exact br5 (sE a _ X z G Y) (sE b _ X z G J)
      | cons r2 vs =>
       obtain⟨Y,J⟩:=zc h
       exact bn3 (sE a _ X z G Y) (sE b _ X z G J)
   | _=>exact ff h
  | _=>exact ff h
 | .or a b,E,X,z,G,h=>by
  cases E with
  | BoolOp op vs p=>cases op with
   | Or =>
    cases vs with
    | nil=>exact ff h
    | cons l vs=>cases vs with
     | nil=>exact ff h
     | cons r vs=>cases vs with
      | nil =>
       obtain⟨Y,J⟩:=zc h
       exact bD1 (sE a _ X z G Y) (sE b _ X z G J)
      | cons r2 vs =>
       obtain⟨Y,J⟩:=zc h
       exact bJ7 (sE a _ X z G Y) (sE b _ X z G J)
   | _=>exact ff h
  | _=>exact ff h
 | .ite c a b,E,X,z,G,h=>by
  cases E with
  | IfExp tE l r pE =>
   obtain⟨h,Z⟩:=zc h
   obtain⟨Y,J⟩:=zc h
   exact bs1 (sE c _ X z G Y) (sE a _ X z G J) (sE b _ X z G Z)
  | _=>exact ff h
 | .tup es,E,X,z,G,h=>by
  cases E with
  | Tuple xs k p =>
   obtain⟨Y,J⟩:=zc h
   exact bo4 Y (of_decide_eq_true J) (ar0 (sEs es _ X z G Y))
  | _=>exact ff h
 | .lst es,E,X,z,G,h=>by
  cases E with
  | List xs p =>
   obtain⟨Y,J⟩:=zc h
   exact bq5 Y (of_decide_eq_true J) (ar0 (sEs es _ X z G Y))
  | _=>exact ff h
 | .inC e c,E,X,z,G,h=>by
  cases E with
  | Compare l os rs p =>
   cases os with
   | cons o os1 =>
    cases o with
    | In =>
     cases os1 with
     | nil =>
      cases rs with
      | cons r rs1 =>
       cases r with
       | Name x px =>
        cases rs1 with
        | nil =>
         obtain⟨h,Z⟩:=zc h
         obtain⟨Y,J⟩:=zc h
         have e1:=of_decide_eq_true Y
         subst e1
         exact bx0 G J (sE e _ X z G Z).1
        | _=>exact ff h
       | _=>exact ff h
      | _=>exact ff h
     | _=>exact ff h
    | _=>exact ff h
   | _=>exact ff h
  | _=>exact ff h
 | .getC c e,E,X,z,G,h=>by
  cases E with
  | Subscript o i p =>
   cases o with
   | Name x px =>
    obtain⟨h,h4⟩:=zc h
    obtain⟨h,Z⟩:=zc h
    obtain⟨Y,J⟩:=zc h
    have e1:=of_decide_eq_true Y
    subst e1
    exact be0 G J h4 (sE e _ X z G Z).1
   | _=>exact ff h
  | _=>exact ff h
 | .ix a b,E,X,z,G,h=>by
  cases E with
  | Subscript o i p =>
   obtain⟨Y,J⟩:=zc h
   exact bH4 G (aE2 J) (sE a _ X z G Y) (sE b _ X z G J)
  | _=>exact ff h
 | .slL a lo,E,X,z,G,h=>by
  cases E with
  | Subscript o i p =>
   cases i with
   | Slice lo hi st p2 =>
    cases lo with
    | some l =>
     cases hi with
     | none =>
      cases st with
      | none =>
       obtain⟨Y,J⟩:=zc h
       exact bt4 G (sE a _ X z G Y) (sE lo _ X z G J)
      | _=>exact ff h
     | _=>exact ff h
    | _=>exact ff h
   | _=>exact ff h
  | _=>exact ff h
 | .slU a hi,E,X,z,G,h=>by
  cases E with
  | Subscript o i p =>
   cases i with
   | Slice lo hi st p2 =>
    cases lo with
    | none =>
     cases hi with
     | some l =>
      cases st with
      | none =>
       obtain⟨Y,J⟩:=zc h
       exact ev_slU' G (sE a _ X z G Y) (sE hi _ X z G J)
      | _=>exact ff h
     | _=>exact ff h
    | _=>exact ff h
   | _=>exact ff h
  | _=>exact ff h
 | .call f as,E,X,z,G,h=>by
  cases E with
  | Call fE xs kw p =>
   cases fE with
   | Name x pN =>
    cases kw with
    | nil =>
     obtain⟨h,Z⟩:=zc h
     obtain⟨Y,J⟩:=zc h
     have e:=of_decide_eq_true Y
     subst e
     exact bf1 G J Z (sAs as _ X z G Z)
    | _=>exact ff h
   | _=>exact ff h
  | _=>exact ff h
 | .bi b es,E,X,z,G,h=>by
  cases E with
  | Call fE xs kw p =>
   cases fE with
   | Name x pN =>
    cases kw with
    | nil =>
     have h:bP4 z b x xs (mEs z es xs) (mEs z es (xs.take 1))=true:=h
     rcases biOk_inv h with⟨k,t,a,y,py,hk,rfl,rfl,rfl,J,h4,h5⟩|⟨a,ys,rfl,Y,J,Z⟩
     .exact bw9 G hk J h4 (sEs es _ X z G h5)
     .exact bL7 G Y J Z (ar0 (sEs es _ X z G Z))
    | _=>exact ff h
   | _=>exact ff h
  | _=>exact ff h
 | .mk k l,E,X,z,G,h=>by
  cases E with
  | ListComp e gs sc p =>
   obtain⟨Y,J⟩:=zc h
   have e:=of_decide_eq_true Y
   subst e
   exact .val (((bB1 (sL l _ X z G 0 J)).pe G.calm).imp λ W H Q q=>aR2 (TEv.eq (λ U s=>rfl) q))
  | Call fE xs kw p =>
   cases fE with
   | Name x pN =>
    cases xs with
    | cons a xs_0 =>
     cases xs_0 with
     | nil =>
      cases kw with
      | nil =>
       obtain⟨h,h4⟩:=zc h
       obtain⟨J,Z⟩:=zc h
       rw[aY]at h4
       rcases h4 with h4|h4
       .obtain⟨h5,h6⟩:=zc h4
        exact .val ((bK7 G (of_decide_eq_true h5) J Z (bT8 G (sL l _ X z G 2 h6))).imp λ W H Q q=>TEv.eq (λ U s=>rfl) q)
       .obtain⟨h5,h6⟩:=zc h4
        exact .val ((bJ6 G (of_decide_eq_true h5) J Z (bU8 G (sL l _ X z G 1 h6))).imp λ W H Q q=>TEv.eq (λ U s=>rfl) q)
      | _=>exact ff h
     | _=>exact ff h
    | _=>exact ff h
   | _=>exact ff h
  | _=>exact ff h
 | .meth m o es,E,X,z,G,h=>by
  cases E with
  | Call fE xs kw p =>
   cases fE with
   | Attribute ob x ap =>
    cases kw with
    | nil =>
     obtain⟨h,h5⟩:=zc h
     obtain⟨h,h4⟩:=zc h
     obtain⟨h,Z⟩:=zc h
     obtain⟨Y,J⟩:=zc h
     exact bd7 G (of_decide_eq_true Y) J Z (sE o _ X z G h4).1 h5 (sEs es _ X z G h5)
    | _=>exact ff h
   | _=>exact ff h
  | _=>exact ff h
theorem sEs:∀(es:kP) (z:yK) (X:Cx) (J:Ck),CG Γ F n X J->mEs J es z=true->PEs Γ F X es z
 | .nil,z,X,J,G,h=>by
  cases z with
  | nil =>
   exact trivial
  | _=>exact ff h
 | .cons e es,z,X,J,G,h=>by
  cases z with
  | cons x z =>
   obtain⟨h,Y⟩:=zc h
   obtain⟨Z,h2⟩:=zc h
   exact⟨⟨h2,sE e _ X J G Z⟩,sEs es _ X J G Y⟩
  | _=>exact ff h
theorem sFs:∀(es:kP) (J:yK) (X:Cx) (z:Ck),CG Γ F n X z->mFs z es J=true->PF Γ X J (kU F es)
 | .nil,J,X,z,G,h=>by
  cases J with
  | nil=>exact(bC2).eq λ _ _=>rfl
  | _=>exact ff h
 | .cons e es,J,X,z,G,h=>by
  cases J with
  | cons x J =>
   cases x with
   | FormattedValue v c sp p =>
    cases sp with
    | none =>
     obtain⟨h,h3⟩:=zc h
     obtain⟨Y,Z⟩:=zc h
     have e1:=of_decide_eq_true Y
     subst e1
     exact(bK6 (sE e _ X z G Z).1 (sFs es _ X z G h3)).eq λ _ _=>rfl
    | _=>exact ff h
   | Constant v j p =>
    obtain⟨Y,Z⟩:=zc h
    exact(bA4 (sE e _ X z G Y).1 (sFs es _ X z G Z)).eq λ _ _=>rfl
   | _=>exact ff h
  | _=>exact ff h
theorem sAs:∀(es:lD) (z:yK) (X:Cx) (J:Ck),CG Γ F n X J->mAs J es z=true->PA X z (TAv Γ (la F es))
 | .nil,z,X,J,G,h=>by
  cases z with
  | nil =>
   exact ac5.imp λ W H Q q=>aI8 (TAv.eq (λ U s=>rfl) q)
  | _=>exact ff h
 | .ex e es,z,X,J,G,h=>by
  cases z with
  | cons x z =>
   obtain⟨h,Y⟩:=zc h
   obtain⟨Z,h2⟩:=zc h
   exact(aF1 h2 (sE e _ X J G Z).1 (sAs es _ X J G Y)).imp λ W H Q q=>TAv.eq (λ U s=>rfl) q
  | _=>exact ff h
 | .fn _ _,z,X,J,G,h=>ff h
theorem cb7:∀(es:lD) (z:yK) (X:Cx) (J:Ck),CG Γ F n X J->ca1 J es z=true->PA X z (TAp Γ X.env.cells X.N (la F es))
 | .nil,z,X,J,G,h=>by
  cases z with
  | nil =>
   exact ac5.imp λ W H Q q=>br7 (TAp.eq (λ U s=>rfl) q)
  | _=>exact ff h
 | .ex e es,z,X,J,G,h=>by
  cases z with
  | cons x z =>
   obtain⟨h,Y⟩:=zc h
   obtain⟨Z,h2⟩:=zc h
   exact(zt (sE e _ X J G Z).1 (cb7 es _ X J G Y) (zb h2)).imp λ W H Q q=>bA7 (TAp.eq (λ U s=>rfl) q)
  | _=>exact ff h
 | .fn _ _,z,X,J,G,h=>ff h
theorem sI:∀(i:DV.I) (E tg:Expr) (X:Cx) (z:Ck),CG Γ F n X z->mI z tg i E=true->PI X tg E (TIv Γ (lB F i))
 | .seq e,E,tg,X,z,G,h=>by
  obtain⟨J,Y⟩:=zc h
  exact bv1 G (sE e _ X z G J).1
 | .rng1 a,E,tg,X,z,G,h=>by
  cases E with
  | Call fE xs kw p =>
   cases fE with
   | Name x pN =>
    cases xs with
    | cons l xs_0 =>
     cases xs_0 with
     | nil =>
      cases kw with
      | nil =>
       obtain⟨h,Z⟩:=zc h
       obtain⟨h,h3⟩:=zc h
       obtain⟨J,Y⟩:=zc h
       have e:=of_decide_eq_true J
       subst e
       exact bf7 G Y Z (sE a _ X z G h3).1
      | _=>exact ff h
     | _=>exact ff h
    | _=>exact ff h
   | _=>exact ff h
  | _=>exact ff h
 | .rng3 a b c,E,tg,X,z,G,h=>by
  cases E with
  | Call fE xs kw p =>
   cases fE with
   | Name x pN =>
    cases xs with
    | cons l xs1 =>
     cases xs1 with
     | cons r xs2 =>
      cases xs2 with
      | cons cc xs3 =>
       cases cc with
       | Constant v k p1 =>
        cases xs3 with
        | nil =>
         cases kw with
         | nil =>
          obtain⟨h,h8⟩:=zc h
          obtain⟨h,h7⟩:=zc h
          obtain⟨h,h6⟩:=zc h
          obtain⟨h,h5⟩:=zc h
          obtain⟨h,Z⟩:=zc h
          obtain⟨h,h3⟩:=zc h
          obtain⟨J,Y⟩:=zc h
          have e:=of_decide_eq_true J
          have e2:=of_decide_eq_true h7
          have e3:=of_decide_eq_true h8
          subst e e2 e3
          exact aZ1 G Y Z h6 (sE a _ X z G h3).1 (sE b _ X z G h5).1
         | _=>exact ff h
        | _=>exact ff h
       | _=>exact ff h
      | _=>exact ff h
     | _=>exact ff h
    | _=>exact ff h
   | _=>exact ff h
  | _=>exact ff h
theorem sL:∀(l:DV.L) (E:Expr) (X:Cx) (Y:Ck),CG Γ F n X Y->∀ k,mL Y k l E=true->LK Γ X (DV.evL F l) E k
 | .comp tg it e caps,E,X,Y,G,k,h=>by
  cases E with
  | ListComp elt gs scope p =>
   cases gs with
   | cons g gs1 =>
    cases g with
    | mk tgt iter ifs z =>
     cases ifs with
     | nil =>
      cases gs1 with
      | nil =>
       obtain⟨h,h3⟩:=zc h
       obtain⟨h,Z⟩:=zc h
       obtain⟨h0,J⟩:=zc h
       have e0:=of_decide_eq_true h0
       subst e0
       have c:=comp_all (pos:=p) G J (sI it _ _ X Y G Z) λ Cc cells s H ex=>(sE e _ _ _ ((G.comp J).2.2 Cc cells s H ex).1 h3).1
       exact .c (c.eq λ U s=>rfl)
      | _=>exact ff h
     | _=>exact ff h
   | _=>exact ff h
  | _=>exact ff h
 | .compIf tg it i e caps,E,X,Y,G,k,h=>by
  cases E with
  | ListComp elt gs scope p =>
   cases gs with
   | cons g gs1 =>
    cases g with
    | mk tgt iter ifs z =>
     cases ifs with
     | cons i1 ifs1 =>
      cases ifs1 with
      | nil =>
       cases gs1 with
       | nil =>
        obtain⟨h,h4⟩:=zc h
        obtain⟨h,h3⟩:=zc h
        obtain⟨h,Z⟩:=zc h
        obtain⟨h0,J⟩:=zc h
        have e0:=of_decide_eq_true h0
        subst e0
        have c:=bo9 (pos:=p) G J (sI it _ _ X Y G Z) (λ Cc cells s H ex=>(sE i _ _ _ ((G.comp J).2.2 Cc cells s H ex).1 h3).2) λ Cc cells s H ex=>(sE e _ _ _ ((G.comp J).2.2 Cc cells s H ex).1 h4).1
        exact .c (c.eq λ U s=>rfl)
       | _=>exact ff h
      | _=>exact ff h
     | _=>exact ff h
   | _=>exact ff h
  | _=>exact ff h
 | .disp es,E,X,Y,G,k,h=>by
  cases E with
  | List xs p =>
   obtain⟨h,Z⟩:=zc h
   obtain⟨h0,J⟩:=zc h
   exact .f (of_decide_eq_true h0) (bx1 J (of_decide_eq_true Z) (ar0 (sEs es _ X Y G J)))
  | _=>exact ff h
 | .seq e,E,X,Y,G,k,h=>by
  obtain⟨h0,J⟩:=zc h
  exact .s (of_decide_eq_true h0) ((sE e _ X Y G J).1.imp λ W H Q q=>bG3 (TLv.eq (λ U s=>rfl) q))
end
end
section
variable {Γ:Gm} {F:kF} {n:Nat}
theorem aY7 {X:Cx}{ck:Ck}{m:kq->km->ky (List ko)}{E:Expr}{x:Str}{i:Nat}{px pos:Pos}(G:CG Γ F n X ck)(c:CompF Γ X m E)(hi:ck.N[i]?=some x)(hl:ck.loc x=true) :
  PS X (.Assign [.Name x px] E pos) (ba4 (TFv Γ m) (ax2 i)):=by
 obtain⟨a1,a0,iter,Z,scope,p2,N',z,wi,g,tc,te,rfl,h1,h2,h3,h4,h5⟩:=c.ex
 obtain⟨l1,l2⟩:=G.loc hl
 have nd:X.N.Nodup:=by rw[G.N];exact G.nd
 have J:X.N[i]?=some x:=by rw[G.N];exact hi
 generalize hb:((X.env.blockKind==.function&&X.env.kindOf x==some .local&&px.line==(Expr.ListComp a1 [⟨a0,iter,Z,0⟩] scope p2).pos.line&&!(scope.names.any λ(n,k)=>n==x&&(k==.local||k==.cell))))=b
 have Y:dT (.ListComp a1 [⟨a0,iter,Z,0⟩] scope p2) (some (.Name x px)) pos.line X.env=pure b:=by rw[<-hb];rfl
 have imp:∀ D W H,ba4 (TFv Γ m) (ax2 i) D W H->ba4 (tComp z wi g tc te) (ax2 i) D W H:=λ D W H q=>h5 _ _ _ q
 cases b with
 | true =>
  have a2:X.env.scope.names.lookup x=some .local:=by
   simp only[am]at hb
   exact eq_of_beq hb.1.1.2
  exact(aK3 N' z nd J a2 h1 h2 G.calm h3 h4 Y).imp imp
 | false=>exact(aI4 nd J l1 (aU6 N' z h1 h2 G.calm h3 h4) Y l2).imp imp
theorem bu4 {X:Cx}{z:Ck}{e:lq}{v:Expr}{x:Str}{i:Nat}{Z pos:Pos}(G:CG Γ F n X z)(Y:z.N[i]?=some x)(hl:z.loc x=true)(h:mE z e v=true) :
  PS X (.Assign [.Name x Z] v pos) (TSv Γ (DV.ex F (.asg (.one i) e))):=by
 obtain⟨l1,l2⟩:=G.loc hl
 have nd:X.N.Nodup:=by rw[G.N];exact G.nd
 have J:X.N[i]?=some x:=by rw[G.N];exact Y
 by_cases hc:aq6 v=true
 .exact(aI4 nd J l1 (sE e v X z G h).1 (ai1 hc) l2).imp λ D W H q=>aU4 (tg:=.one i) (TSv.eq (λ U s=>rfl) q)
 .have hs:=aE2 h
  cases v with
  | ListComp elt gs sc p =>
   cases e with
   | mk k l =>
    obtain⟨h1,h2⟩:=zc h
    have e:=of_decide_eq_true h1
    subst e
    exact(aY7 G (bB1 (sL l _ X z G 0 h2)) Y hl).imp λ D W H q=>be6 (tg:=.one i) (TSv.eq (λ U s=>rfl) q)
   | _=>exact ff h
  | SetComp _ _ _ _=>cases hs
  | DictComp _ _ _ _ _=>cases hs
  | _=>exact absurd rfl hc
mutual
theorem sS:∀(st:DV.S) (S:Stmt) (X:Cx) (z:Ck),CG Γ F n X z->mS z st S=true->PS X S (TSv Γ (DV.ex F st))
 | .asg tg e,S,X,z,G,h=>by
  cases S with
  | Assign ts v p =>
   cases ts with
   | cons t ts1 =>
    cases ts1 with
    | nil =>
     obtain⟨h,Z⟩:=zc h
     obtain⟨Y,J⟩:=zc h
     cases tg with
     | one i =>
      have h:=Y
      cases t with
      | Name x px =>
       obtain⟨a1,a2⟩:=zc h
       exact bu4 G (of_decide_eq_true a1) a2 J
      | _=>exact ff h
     | tup is =>
      obtain⟨a1,a2⟩:=zc Z
      have h:=Y
      cases t with
      | Tuple te tk tp=>exact(aN6 (sE e _ X z G J).1 (bb9 G Y) (show dT v (some (.Tuple te tk tp)) p.line X.env=pure false from ai1 a2) (aK1 a1) rfl).imp λ D W H q=>aU4 (TSv.eq (λ U s=>rfl) q)
      | _=>exact ff h
    | _=>exact ff h
   | _=>exact ff h
  | _=>exact ff h
 | .setIx o i e,S,X,z,G,h=>by
  cases S with
  | Assign ts v p2 =>
   cases ts with
   | cons tt ts1 =>
    cases tt with
    | Subscript ob ix p1 =>
     cases ts1 with
     | nil =>
      obtain⟨h,h4⟩:=zc h
      obtain⟨h,Z⟩:=zc h
      obtain⟨Y,J⟩:=zc h
      have a0:=aE2 J
      refine(aN6 (sE e _ X z G Z).1 (bA3 (sE o _ X z G Y).1 (sE i _ X z G J).1 (bC7 (bj4 G.room)) ?_) (show dT v (some (.Subscript ob ix p1)) p2.line X.env=pure false from ai1 h4) aL3 ?_).imp λ D W H q=>bc6 (TSv.eq (λ U s=>rfl) q)
      .intro w
       cases ix<;>first|rfl|cases a0
      .rfl
     | _=>exact ff h
    | _=>exact ff h
   | _=>exact ff h
  | _=>exact ff h
 | .ex e,S,X,z,G,h=>by
  cases S with
  | Expr v p =>
   obtain⟨Y,J⟩:=zc h
   exact(aD7 (sE e _ X z G Y).1 (ai1 J)).imp λ D W H q=>bn2 (TSv.eq (λ U s=>rfl) q)
  | _=>exact ff h
 | .ret e,S,X,z,G,h=>by
  cases S with
  | Return vo p =>
   cases vo with
   | some v =>
    exact(ar2 (sE e _ X z G h).1).imp λ D W H q=>bF6 (TSv.eq (λ U s=>rfl) q)
   | _=>exact ff h
  | _=>exact ff h
 | .ite c a b,S,X,z,G,h=>by
  cases S with
  | If t l r p =>
   obtain⟨h,Z⟩:=zc h
   obtain⟨Y,J⟩:=zc h
   exact(aN7 (sE c _ X z G Y).2 (sSs a _ X z G J) (sSs b _ X z G Z)).imp λ D W H q=>bS1 (TSv.eq (λ U s=>rfl) q)
  | _=>exact ff h
 | .whl c b,S,X,z,G,h=>by
  cases S with
  | While t l o p =>
   cases o with
   | nil =>
    obtain⟨Y,J⟩:=zc h
    exact(aY4 (by rw[G.xe];exact jd) (sE c _ X z G Y).2 (sSs b _ X z G J)).imp λ D W H q=>bb4 (TSv.eq (λ U s=>rfl) q)
   | _=>exact ff h
  | _=>exact ff h
 | .for_ tg it b,S,X,z,G,h=>by
  cases S with
  | For tgt iter l o p =>
   cases o with
   | nil =>
    obtain⟨h,Z⟩:=zc h
    obtain⟨Y,J⟩:=zc h
    exact(bj3 (by rw[G.xe];exact jd) G.calm (sI it _ _ X z G J) (bb9 G Y) (sSs b _ X z G Z) (at4 (bj5 J))).imp λ D W H q=>bK8 (TSv.eq (λ U s=>rfl) q)
   | _=>exact ff h
  | _=>exact ff h
 | .raise,S,X,z,G,h=>be9.imp λ D W H q=>by
  obtain⟨C,U,s,c,s',E,R,hm,q⟩:=q
  cases hm
theorem sSs:∀(st:l7) (S:yL) (X:Cx) (z:Ck),CG Γ F n X z->mSs z st S=true->PSs X S (TSv Γ (lj F st))
 | .nil,S,X,z,G,h=>by
  cases S with
  | nil =>
   exact as9.imp λ D W H q=>bo5 (m:=lj F .nil) (λ U s=>rfl) q
  | _=>exact ff h
 | .cons s ss,S,X,z,G,h=>by
  cases S with
  | cons x xs =>
   obtain⟨J,Y⟩:=zc h
   exact(zu (sS s _ X z G J) (sSs ss _ X z G Y)).imp λ D W H q=>bk4 (TSv.eq (λ U s=>rfl) q)
  | _=>exact ff h
end
end
noncomputable def mHT (ck:Ck)(n:Str):DV.HT->Expr->Bool
 | .isi _,_=>false
 | .one c,E=>match E with|.Call (.Name g _) [.Name x _,.Name d _] [] _=>decide (g=("isinstance":Str))&&ck.gl g&&decide (x=n)&&decide (d=(c:Str))&&ck.gl d|_=>false
 | .not t,E=>match E with|.UnaryOp .Not e _=>mHT ck n t e|_=>false
 | .ve,E=>match E with|.Call (.Name g _) [.Name x _,.Name d _] [] _=>decide (g=("isinstance":Str))&&ck.gl g&&decide (x=n)&&decide (d=("ValueError":Str))&&ck.gl d|_=>false
 | .or _ _,_=>false
noncomputable def mHd (ck:Ck)(n:Str):lp->List Stmt->Bool
 | .ret _,_=>false
 | .iff _ _ _,_=>false
 | .nob _,_=>false
 | .noe,_=>false
 | .iffN _ _,_=>false
 | .aoN _ _,_=>false
 | .sup _ h,S=>mHd ck n h S
 | .kin _ _,_=>false
structure CH (X:Cx)(ck:Ck):Prop where
 N:X.N=ck.N
 gl:∀ {x:Str},ck.gl x=true->Gl X x/\(x==("__debug__":Str))=false/\x ≠ "__name__"
 bi:∀ x∈bNames,X.mg x=none
theorem CG.ch {Γ:Gm}{F:kF}{n:Nat}{X:Cx}{z:Ck}(G:CG Γ F n X z):CH X z:=⟨G.N,G.gl,G.bi⟩
structure XC (F:kF)(K:ac)(mg:yC):Prop where
 at_:∀ c:String,F.xc c=true->∃ Cc,mg (c:Str)=some (.ref Cc)/\ExcCls K Cc/\excI K Cc=true
 cls:∀ c:String,F.xt c=true->∃ Cc,mg (c:Str)=some (.ref Cc)
 sub:∀(c d:String) (Cc D:Addr),F.xc c=true->F.xt d=true->mg (c:Str)=some (.ref Cc)->mg (d:Str)=some (.ref D)->aW K (.ref Cc) (.ref D)=some (kB c d)
 exm:∀(c d:String) (Cc D:Addr),F.xc c=true->F.xt d=true->mg (c:Str)=some (.ref Cc)->mg (d:Str)=some (.ref D)->bD K (.ref Cc) (.ref D)=some (kB c d)
 ve0:∀ c:String,F.xc c=true->mg ("ValueError":Str)=none
 ve1:∀(c:String) (Cc:Addr),F.xc c=true->mg (c:Str)=some (.ref Cc)->aW K (.ref Cc) (.type "ValueError")=some true
theorem aw4:∀ {z:List Addr} {us:yG},Vals (z.map V.ref) us->us=z.map Value.ref
 | [],_,.nil=>rfl
 | d::z,_,.cons r t=>by
  have e:=aw4 t
  subst e
  cases(show _=Value.ref d from r)
  rfl
def cc3 (K:ac)(a Cc:Addr):List V->Hp->VK->Prop:=λ xs H Q=>(∃ y b,xs=[.ref a,y]/\((∃ D,y=.ref D/\aW K (.ref Cc) (.ref D)=some b)\/∃(p:Addr) (ds:List Addr),y=.ref p/\H p=some (.tup (ds.map V.ref))/\PySem.W.kitAny K (.ref Cc) (ds.map Value.ref)=some b)/\Q (.bl b) H)\/xs=[.ref a,.ty "ValueError"]/\aW K (.ref Cc) (.type "ValueError")=some true/\Q (.bl true) H
section
variable {Γ:Gm} {F:kF} {n:Nat} {X:Cx} {ck:Ck} {a Cc:Addr} {oe:Obj}
theorem aE5 (J:ci X.K (.ref a) (.ref Cc) (λ h=>XAt h a Cc))(hcl:oe.cls=.ref Cc):ac4 (X.hnd a oe) (.builtin "isinstance") (cc3 X.K a Cc):=by
 intro Y s W H xs us Q I r h
 rcases h with h|⟨rfl,hv,q⟩
 case inr =>
  obtain⟨u,G,rfl,r1,F⟩:=aP2 r
  cases(show u=Value.ref a from r1)
  cases(show G=Value.type "ValueError" from F)
  have hx:XAt s.heap a Cc:=⟨oe,(I.pin (a,oe) (aw ..)).1,hcl⟩
  exact bM J I.kIn hx hv (λ z=>nomatch z) λ tk=>⟨.bl true,H,I.tok _,rfl,q⟩
 obtain⟨y,b,rfl,hc,q⟩:=h
 obtain⟨u,G,rfl,r1,F⟩:=aP2 r
 cases(show u=Value.ref a from r1)
 have hx:XAt s.heap a Cc:=⟨oe,(I.pin (a,oe) (aw ..)).1,hcl⟩
 rcases hc with⟨D,rfl,e⟩|⟨p,ds,rfl,hp,e⟩
 .cases(show G=Value.ref D from F)
  exact bM J I.kIn hx e (λ z=>nomatch z) λ tk=>⟨.bl b,H,I.tok _,rfl,q⟩
 .cases(show G=Value.ref p from F)
  obtain⟨z,its,Z,ob,e1,e2,nn,e3⟩:=(show ad4 X.prog X.w H s.heap p (.tup (ds.map V.ref))from I.hok p _ hp)
  have e4:=aw4 Z
  subst e4
  obtain⟨c0,dd,dt,sl⟩:=ob
  cases e2
  cases e3
  exact PySem.W.kia_tup J I.kIn hx e1 e (λ z=>nomatch z) λ tk=>⟨.bl b,H,I.tok _,rfl,q⟩
def tHv (i:Nat)(a:Addr)(b:Bool):TE:=λ W H Q=>W[i]?=some (some (.ref a))/\∀ H',ad3 H H'->Q (.bl b) H'
def tHt (i:Nat)(a:Addr)(b:Bool):TT:=λ W H Q=>W[i]?=some (some (.ref a))/\∀ H',ad3 H H'->Q b H'
theorem bn1 (G:CH X ck)(xc:XC F X.K X.mg){c:String}(Y:F.xc c=true)(Z:X.mg (c:Str)=some (.ref Cc))(kx:ci X.K (.ref a) (.ref Cc) (λ h=>XAt h a Cc))(hcl:oe.cls=.ref Cc){nm:Str}{i:Nat}(hi:ck.N[i]?=some nm)(hv:Vis X.env.scope nm)(hd:(nm==("__debug__":Str))=false)(hcd:(nm==("__classdict__":Str))=false) :
  ∀ {t:DV.HT} {E:Expr},mHT ck nm t E=true->t.ok F.xt=true->PE (X.hnd a oe) E (tHv i a (t.val c))/\PT (X.hnd a oe) E (tHt i a (t.val c))
 | .isi _,E,h,ho=>ff h
 | .one d,E,h,ho=>by
  cases E with
  | Call g xs kw p =>
   cases g with
   | Name g pg =>
    cases xs with
    | nil=>exact ff h
    | cons x xs=>cases x with
     | Name x px =>
      cases xs with
      | nil=>exact ff h
      | cons y xs=>cases y with
       | Name y py =>
        cases xs with
        | cons _ _=>exact ff h
        | nil=>cases kw with
         | cons _ _=>exact ff h
         | nil =>
          obtain⟨h,h5⟩:=zc h
          obtain⟨h,h4⟩:=zc h
          obtain⟨h,h3⟩:=zc h
          obtain⟨h1,h2⟩:=zc h
          have e1:=of_decide_eq_true h1
          have e3:=of_decide_eq_true h3
          have e4:=of_decide_eq_true h4
          subst e1 e3 e4
          obtain⟨g1,g2,g3⟩:=G.gl h2
          obtain⟨k1,k2,k3⟩:=G.gl h5
          obtain⟨D,hD⟩:=xc.cls d ho
          have z:PE (X.hnd a oe) (.Name x px) (bi2 i):=av4 (X:=X.hnd a oe) (by show X.N[i]?=_;rw[G.N];exact hi) hv hd hcd
          have J:PE (X.hnd a oe) (.Name (d:Str) py) (tC (.ref D)):=ai4 (X:=X.hnd a oe) k1 hD rfl k2
          have pa:PA (X.hnd a oe) [.Name x px,.Name (d:Str) py] _:=zt z (zt J ac5 rfl) rfl
          have main:PE (X.hnd a oe) (.Call (.Name "isinstance" pg) [.Name x px,.Name (d:Str) py] [] p) (tHv i a (kB c d)):=by
           refine(ag2 (aE5 kx hcl) (show Gl (X.hnd a oe) "isinstance" from g1) (G.bi _ (by decide)) qu pa g3 g2 rfl rfl).imp λ W H Q q=>?_
           exact⟨.ref a,q.1,.inl ⟨.ref D,_,rfl,.inl ⟨D,rfl,xc.sub c d Cc D Y ho Z hD⟩,q.2 _ (ad3.refl _)⟩⟩
          refine⟨main,(aS9 main).imp λ W H Q q=>?_⟩
          exact⟨q.1,λ H' s=>⟨_,rfl,q.2 H' s⟩⟩
       | _=>exact ff h
     | _=>exact ff h
   | _=>exact ff h
  | _=>exact ff h
 | .ve,E,h,ho=>by
  cases E with
  | Call g xs kw p =>
   cases g with
   | Name g pg =>
    cases xs with
    | nil=>exact ff h
    | cons x xs=>cases x with
     | Name x px =>
      cases xs with
      | nil=>exact ff h
      | cons y xs=>cases y with
       | Name y py =>
        cases xs with
        | cons _ _=>exact ff h
        | nil=>cases kw with
         | cons _ _=>exact ff h
         | nil =>
          obtain⟨h,h5⟩:=zc h
          obtain⟨h,h4⟩:=zc h
          obtain⟨h,h3⟩:=zc h
          obtain⟨h1,h2⟩:=zc h
          have e1:=of_decide_eq_true h1
          have e3:=of_decide_eq_true h3
          have e4:=of_decide_eq_true h4
          subst e1 e3 e4
          obtain⟨g1,g2,g3⟩:=G.gl h2
          obtain⟨k1,k2,k3⟩:=G.gl h5
          have z:PE (X.hnd a oe) (.Name x px) (bi2 i):=av4 (X:=X.hnd a oe) (by show X.N[i]?=_;rw[G.N];exact hi) hv hd hcd
          have J:PE (X.hnd a oe) (.Name "ValueError" py) (tC (.ty "ValueError")):=aQ8 (X:=X.hnd a oe) k1 (xc.ve0 c Y) (by rfl) rfl
          have pa:PA (X.hnd a oe) [.Name x px,.Name "ValueError" py] _:=zt z (zt J ac5 rfl) rfl
          have main:PE (X.hnd a oe) (.Call (.Name "isinstance" pg) [.Name x px,.Name "ValueError" py] [] p) (tHv i a true):=by
           refine(ag2 (aE5 kx hcl) (show Gl (X.hnd a oe) "isinstance" from g1) (G.bi _ (by decide)) qu pa g3 g2 rfl rfl).imp λ W H Q q=>?_
           exact⟨.ref a,q.1,.inr ⟨rfl,xc.ve1 c Cc Y Z,q.2 _ (ad3.refl _)⟩⟩
          refine⟨main,(aS9 main).imp λ W H Q q=>?_⟩
          exact⟨q.1,λ H' s=>⟨_,rfl,q.2 H' s⟩⟩
       | _=>exact ff h
     | _=>exact ff h
   | _=>exact ff h
  | _=>exact ff h
 | .not t,E,h,ho=>by
  cases E with
  | UnaryOp o l p=>cases o with
   | Not =>
    obtain⟨h1,h2⟩:=bn1 G xc Y Z kx hcl hi hv hd hcd (t:=t) (E:=l) h ho
    exact⟨(bl9 h1).imp λ W H Q q=>⟨q.1,λ H' s=>⟨_,rfl,q.2 H' s⟩⟩,(bj8 h2).imp λ W H Q q=>⟨q.1,λ H' s=>q.2 H' s⟩⟩
   | _=>exact ff h
  | _=>exact ff h
 | .or _ _,E,h,ho=>ff h
end
def tHd (i:Nat)(a:Addr)(o:VK->Hp->Prop):TS:=λ D W H=>W[i]?=some (some (.ref a))/\∀ H',ad3 H H'->o D.rt H'
noncomputable def vV:ko->V
 | .bl b=>.bl b
 | _=>.non
noncomputable def bD9 (ck:Ck)(nm:Str):List String->List Expr->Bool
 | [],es=>match es with|[]=>true|_=>false
 | c::cs,es=>match es with|e::es=>mHT ck nm (.one c) e&&bD9 ck nm cs es|_=>false
noncomputable def bn8:List (List Nat)->List Expr->Bool
 | [],es=>match es with|[]=>true|_=>false
 | t::ts,es=>match es with|.Constant (.str y) _ _::es=>decide (y=⟨t.toArray⟩)&&bn8 ts es|_=>false
noncomputable def ca4 (ck:Ck)(nm ks:Str)(e1 e4:Expr)(y1 y5 m4 m5 m6:Str)(es2 es3 es6:yK)(l4 l5 l6:Bool):Bool :=
 (ck.sc.names.lookup nm==some .local)&&((ck.sc.names.lookup ks==some .local)&&(!(nm==("__debug__":Str))&&(!(nm==("__classdict__":Str))&&(!(ks==("__debug__":Str))&&(!(ks==("__classdict__":Str))&&(mHT ck nm (.not .ve) e1&&(decide (y1=⟨DV.ai9.toArray⟩)&&(decide (y5=⟨DV.ai9.toArray⟩)&&(decide (m4=("append":Str))&&(decide (m5=("count":Str))&&(decide (m6=("index":Str))&&(l4&&(l5&&(l6&&(bD9 ck nm (DV.ab5.take 4) es2&&(bD9 ck nm ((DV.ab5.drop 4).take 4) es3&&(mHT ck nm (.one "NoName") e4&&bn8 lU es6)))))))))))))))))
def be4 (ck:Ck)(S:yL):Prop:=∃(nm ks:Str) (e1 e4:Expr) (y1 y5 m4 m5 m6:Str) (es2 es3 es6:yK) (j1 j5 i5 k5 j6:Nat) (p1 q1 r1 a2 b2 c2 a3 b3 c3 d3 f3 a4 ap4 cp4 p4 a5 ap5 pj5 cp5 pi5 pc5 pk5 q5 p5 pl6 a6 ap6 pj6 cp6 ps6 p6:Pos),
 S=[.If e1 [.Return (some (.Constant (.str y1) j1 p1)) q1] [] r1,.Assign [.Name ks a2] (.List es2 b2) c2,.Assign [.Name ks a3] (.BinOp (.Name ks b3) .Add (.List es3 c3) d3) f3,.Expr (.Call (.Attribute (.Name ks a4) m4 ap4) [e4] [] cp4) p4,
  .If (.Compare (.Call (.Attribute (.Name ks a5) m5 ap5) [.Constant (.bool true) j5 pj5] [] cp5) [.NotEq] [.Constant (.int 1) i5 pi5] pc5) [.Return (some (.Constant (.str y5) k5 pk5)) q5] [] p5,.Return (some (.Subscript (.List es6 pl6) (.Call (.Attribute (.Name ks a6) m6 ap6) [.Constant (.bool true) j6 pj6] [] cp6) ps6)) p6]/\ck.N=[nm,ks] /\
 ca4 ck nm ks e1 e4 y1 y5 m4 m5 m6 es2 es3 es6 (ap4.endLine==cp4.line) (ap5.endLine==cp5.line) (ap6.endLine==cp6.line)=true
noncomputable def mX (ck:Ck):l9->List Stmt->Bool
 | .no,_=>true
 | .kind,S=>@decide (be4 ck S) (cb _)
 | .alt a b,S=>mX ck a S&&mX ck b S
 | .rais c,S=>match S with|.Raise (some (.Call (.Name x _) [.Constant (.str _) _ _] [] _)) none _::_=>decide (x=(c:Str))&&ck.gl x|_=>false
 | .call f as,S=>match S with
  | .Expr (.Call (.Name x _) (e::es) [] _) _::_=>decide (x=(f:Str))&&ck.gl x&&mAs ck as (e::es)
  | .Assign [.Name _ _] (.Call (.Name x _) (e::es) [] _) _::_=>decide (x=(f:Str))&&ck.gl x&&mAs ck as (e::es)
  | _=>false
 | .iteT c a r,S=>match S with|.If t l [] _::rest=>mE ck c t&&mX ck a l&&mX ck r rest|_=>false
 | .iteE c a r,S=>match S with|.If t l o _::_=>mE ck c t&&mX ck a l&&mX ck r o|_=>false
 | .seq s b,S=>match S with|x::rest=>mS ck s x&&mX ck b rest|_=>false
 | .forX tg it b x,S=>match S with|.For tgt iter l [] _::_=>mTg ck tg tgt&&mI ck tgt it iter&&mSs ck b l&&mX ck x l|_=>false
 | .whlX _ _ _,_=>false
noncomputable def noL:l9->Bool
 | .alt a b=>noL a&&noL b
 | .iteT _ a r=>noL a&&noL r
 | .iteE _ a r=>noL a&&noL r
 | .seq _ b=>noL b
 | .forX _ _ _ _=>false
 | .whlX _ _ _=>false
 | _=>true
noncomputable def noR:l9->Bool
 | .alt a b=>noR a&&noR b
 | .rais _=>false
 | .iteT _ a r=>noR a&&noR r
 | .iteE _ a r=>noR a&&noR r
 | .seq _ b=>noR b
 | .forX _ _ _ x=>noR x
 | .whlX _ _ x=>noR x
 | _=>true
def av6 (Γ:Gm)(mg:yC)(C:Nat->Addr)(s:km)(H:Hp)(c:String)(s':km)(E:XK):Prop :=
 ∀ C' H' a Cc,Gr C s H C' s' H'->s.length<=s'.length->Rp Γ C' H' s'->mg (c:Str)=some (.ref Cc)->E (.ref a) (some Cc) H'
def TXv (Γ:Gm)(mg:yC)(m:kq->km->Option (String×km))(E:XK):TS:=λ _ W H=>∃ C U s c s',RE Γ C H s.length U W/\Rp Γ C H s/\m U s=some (c,s')/\av6 Γ mg C s H c s' E
def spX (Γ:Gm)(mg:yC)(x:List ko->km->Option (String×km)):Sp:=λ vs H _ E=>∃ C s l c s',Rp Γ C H s/\RVL Γ C H l vs/\kr s.length l=true/\x l s=some (c,s')/\av6 Γ mg C s H c s' E
theorem av6.trans {Γ:Gm}{z:yC}{C C1:Nat->Addr}{s s1 s':km}{H F:Hp}{c:String}{E:XK}(h:av6 Γ z C s H c s' E)(g:Gr C s H C1 s1 F)(l:s.length<=s1.length):av6 Γ z C1 s1 F c s' E :=
 λ C' H' a Cc g' G p m=>h C' H' a Cc (g.trans g' l) (al l G) p m
theorem PA.nox {X:Cx}{e:yK}{t:TA}(h:PA X.nox e t):PA X e t:=λ pos F s W H Q I hw =>
 aZ (h pos F s W H Q (I.wish _) hw) (λ _ _ ⟨v,H',G,r,q⟩=>⟨v,H',G.unwish,r,q⟩) λ _ _ z=>a8 z
theorem PS.nox {X:Cx}{st:Stmt}{t:TS}(h:PS X.nox st t):PS X st t:=λ F s W H D I hw =>
 aZ (h F s W H D (I.wish _) hw) (λ _ _ q=>q.unwish) λ _ _ z=>a8 z
def XOk (Γ:Gm)(prog:aD)(w:World)(K:ac)(mg:yC)(base:Heap)(F:kF)(n:Nat):Prop:=∀ f:String,(∀ l s,F.xcall f l s=none) \/
 ∃ a fd ps,FnOk prog w K mg base (CX1 prog w) n a fd ps (spX Γ mg (F.xcall f))/\mg (f:Str)=some (.ref a)/\bZ K (.ref a)=true/\Binds K fd ps []
section
variable {Γ:Gm} {F:kF} {n:Nat} {X:Cx} {ck:Ck} {a Cc:Addr} {oe:Obj}
theorem bO0 (G:CG Γ F n X ck)(xc:XC F X.K X.mg){c:String}(J:F.xc c=true)(z:X.mg (c:Str)=some (.ref Cc))(Y:ci X.K (.ref a) (.ref Cc) (λ h=>XAt h a Cc))(hcl:oe.cls=.ref Cc){nm:Str}{i:Nat}(Z:ck.N[i]?=some nm)(hv:Vis X.env.scope nm)(hd:(nm==("__debug__":Str))=false)(hcd:(nm==("__classdict__":Str))=false) :
  ∀ {t:lp} {S:yL},mHd ck nm t S=true->t.ok F.xt=true->PSs (X.hnd a oe) S (tHd i a (λ R H=>R (vV (t.vD c)) H))
 | .ret _,S,h,ho=>ff h
 | .iff _ _ _,S,h,ho=>ff h
 | .sup _ g,S,h,ho=>bO0 G xc J z Y hcl Z hv hd hcd (t:=g) h (zc ho).2
 | .aoN _ _,S,h,ho=>ff h
 | .iffN _ _,S,h,ho=>ff h
 | .nob _,S,h,ho=>ff h
 | .noe,S,h,ho=>ff h
theorem bp6 {y:Str}{F pos:Pos}{e:Expr}{G:TE}(J:PE X e G)(hn:aq6 e=true)(hw:fu [.Name y F] e X.env=pure none):PS X (.Assign [.Name y F] e pos) (λ D W H=>G W H λ _ _=>False):=by
 intro z s W H D I h
 exact aN6 (X:=X) (tg:=.Name y F) (pos:=pos) J bb2 (show dT e (some (.Name y F)) pos.line X.env=pure false from ai1 hn) hw rfl z s W H D I h
theorem bj7 (G:CG Γ F n X.nox ck)(XO:XOk Γ X.prog X.w X.K X.mg X.base F n){E:XK}(hp:af9 (CX1 X.prog X.w) X E){f:String}{as:lD}{e:Expr}{es:yK}{p pos:Pos}(hg:ck.gl (f:Str)=true)(m:mAs ck as (e::es)=true) :
  ∃ t:TE,PE X (.Call (.Name (f:Str) p) (e::es) [] pos) t/\∀ D W H Q,TXv Γ X.mg (kX F (.call f as)) E D W H->t W H Q:=by
 obtain⟨g1,g2,g3⟩:=G.gl hg
 rcases XO f with hbad|⟨a,fd,ps,hF,J,hk,hb⟩
 .refine⟨λ _ _ _=>False,λ _ _ _ _ _ _ z=>z.elim,λ D W H Q q=>?_⟩
  obtain⟨C,U,s,c,s',Y,R,hm,q⟩:=q
  change(match la F as U s with|.ok l s1=>F.xcall f l s1|_=>none)=_ at hm
  split at hm
  .rw[hbad]at hm;cases hm
  .cases hm
 .have hs:=aD8 m
  have Z:PA X (e::es) (TAv Γ (la F as)):=(sAs as _ X.nox ck G m).nox
  refine⟨_,aW4 hF G.room g1 J hk hb .nil hp Z g2 (zb (hs e (aw ..))) (zF λ x hx=>hs x (ak _ hx)).1,λ D W H Q q=>?_⟩
  obtain⟨C,U,s,c,s',Y,R,hm,q⟩:=q
  change(match la F as U s with|.ok l s1=>F.xcall f l s1|_=>none)=_ at hm
  split at hm
  .rename_i l s1 e1
   refine⟨C,U,s,l,s1,Y,R,e1,λ vs C1 H1 g1 l1 b1 r1 R1=>?_⟩
   show spX Γ X.mg (F.xcall f) (vs++[]) H1 Q E
   rw[aF]
   exact⟨C1,s1,l,c,s',R1,r1,b1,hm,q.trans g1 l1⟩
  .cases hm
theorem bA5 {mg:yC}{E:XK}{mI:kq->km->ky lv}{mb:kq->km->ky kW}{mx:kq->km->Option (String×km)}{tg:kY}{D D0:Ends}{W:St}{H:Hp} (h:TXv Γ mg (λ U s=>match mI U s with
  | .ok q s0=>ma (λ s=>kT s0 s q.src) (λ d U s=>match kN U tg d with
   | some U=>mb U s
   | none=>.bad) (λ d U s=>match kN U tg d with
   | some U=>mx U s
   | none=>none) q.its U s0
  | _=>none) E D0 W H):bT2 (TIv Γ mI) (gOf Γ.K tg) (λ D W H=>TSv Γ mb D W H\/TXv Γ mg mx E D W H) D W H:=by
 obtain⟨C,U,s,c,s',Ev,R,hm,k⟩:=h
 dsimp only at hm
 split at hm
 case h_2=>cases hm
 rename_i q s0 e1
 refine⟨C,U,s,q,s0,Ev,R,e1,λ J C1 H1 g1 l1 b1 R1 wk=>?_⟩
 refine⟨λ i m W' H'=>∃ C' U' t,Gr C1 s0 H1 C' t H'/\Rp Γ C' H' t/\RE Γ C' H' t.length U' W'/\i<=q.its.length/\m=q.its.length - i /\
  ma (λ s=>kT s0 s q.src) (λ d U s=>match kN U tg d with
   | some U=>mb U s
   | none=>.bad) (λ d U s=>match kN U tg d with
   | some U=>mx U s
   | none=>none) (q.its.drop i) U' t=some (c,s'),⟨q.its.length,?_⟩,?_⟩
 .exact⟨C1,U,s0,Gr.refl _ _ _,R1,Ev.mono g1 l1,cR _,by simp,by rw[e9];exact hm⟩
 .rintro i m W' H' ⟨C',U',t,g,R',E',a4,rfl,hc⟩
  have z:=g.le
  rcases iE i q.its.length with hlt|hge
  .have hd:q.its[i]?=some q.its[i]:=ag hlt
   rw[dw hlt]at hc
   unfold ma at hc
   split at hc
   case isFalse=>cases hc
   rename_i a3
   obtain⟨a2,a0⟩:=(wk C' H' t g z R' a3 i).1 hlt
   refine .inr ⟨a2,_,λ W2 H2 n=>⟨q.its.length - (i+1),by omega,n⟩,λ x H2 a1=>?_⟩
   obtain⟨sm,rv⟩:=a0 x H2 a1
   obtain⟨g2,R2⟩:=R'.same sm
   have rd:=rv _ hd
   have bd:(q.its[i]).bnd t.length=true:=zp z _ (ag5 b1 hd)
   cases hb:kN U' tg q.its[i]with
   | none =>
    rw[hb]at hc
    cases hc
   | some U3 =>
    rw[hb]at hc
    refine bb5 (E'.mono g2 (ao _)) rd bd hb λ W3 E3=>?_
    have go:∀ {c1:kW} {F:km},mb U3 t=.ok c1 F->(∀ C2 G,Gr C' t H2 C2 F G->t.length<=F.length->Rp Γ C2 G F->Gr C1 s0 H1 C2 F G):=λ _ C2 G Z l4 Y=>(g.trans g2 z).trans Z z
    split at hc
    .rename_i U1 F hs
     exact .inl ⟨C',U3,t,.next U1,F,E3,R2,hs,λ C2 G Z l4 Y W1 E1=>⟨C2,U1,F,go hs C2 G Z l4 Y,Y,E1,hlt,rfl,hc⟩⟩
    .rename_i U1 F hs
     exact .inl ⟨C',U3,t,.cont U1,F,E3,R2,hs,λ C2 G Z l4 Y W1 E1=>⟨C2,U1,F,go hs C2 G Z l4 Y,Y,E1,hlt,rfl,hc⟩⟩
    .cases hc
    .exact .inr ⟨C',U3,t,c,s',E3,R2,hc,k.trans (g1.trans (g.trans g2 z) l1) (al l1 z)⟩
  .rw[dQ hge]at hc
   cases hc
theorem ao5 (G:CG Γ F n X.nox ck)(xc:XC F X.K X.mg)(XO:XOk Γ X.prog X.w X.K X.mg X.base F n){E:XK}(hp:af9 (CX1 X.prog X.w) X E):∀(b:l9) (S:yL),(noR b=true\/aA2 X E)->(noL b=true\/iI (model X.prog X.w) X.A X.env X.xe)->mX ck b S=true->PSs X S (TXv Γ X.mg (kX F b) E)
 | .no,S,_,_,h=>λ J s W H D I q=>by
  obtain⟨_,_,_,_,_,_,_,z,_⟩:=q
  cases z
 | .kind,S,_,_,h=>λ J s W H D I q=>by
  obtain⟨_,_,_,_,_,_,_,z,_⟩:=q
  cases z
 | .alt a b,S,hT,Z,h=>λ J s W H D I q=>by
  obtain⟨h1,Y⟩:=zc h
  obtain⟨C,U,s0,c,s',Ev,R,z,q⟩:=q
  have z:(match kX F a U s0 with|some r=>some r|none=>kX F b U s0)=some (c,s'):=z
  cases e:kX F a U s0 with
  | some r =>
   rw[e]at z
   exact ao5 G xc XO hp a S (hT.imp_left λ z=>(zc z).1) (Z.imp_left λ z=>(zc z).1) h1 J s W H D I ⟨C,U,s0,c,s',Ev,R,e.trans z,q⟩
  | none =>
   rw[e]at z
   exact ao5 G xc XO hp b S (hT.imp_left λ z=>(zc z).2) (Z.imp_left λ z=>(zc z).2) Y J s W H D I ⟨C,U,s0,c,s',Ev,R,z,q⟩
 | .rais c,S,hT,_,h=>by
  have hT:aA2 X E:=hT.elim (λ z=>by cases z) id
  cases hx:F.xc c with
  | false =>
   intro J s W H D I q
   obtain⟨_,_,s,_,_,_,_,z,_⟩:=q
   change(if F.xc c=true then some (c,s)else none)=_ at z
   rw[hx]at z;cases z
  | true =>
   cases S with
   | nil=>exact ff h
   | cons st S=>cases st with
    | Raise v k p=>cases v with
     | none=>exact ff h
     | some v=>cases v with
      | Call g xs kw pc=>cases g with
       | Name x pn=>cases xs with
        | nil=>exact ff h
        | cons y xs=>cases y with
         | Constant cv j py=>cases cv with
          | str t=>cases xs with
           | cons _ _=>exact ff h
           | nil=>cases kw with
            | cons _ _=>exact ff h
            | nil=>cases k with
             | some _=>exact ff h
             | none =>
              obtain⟨h1,Y⟩:=zc h
              have e:=of_decide_eq_true h1
              subst e
              obtain⟨g1,g2,g3⟩:=G.gl Y
              obtain⟨Cc,hC,hE,_⟩:=xc.at_ c hx
              refine(zu (bf8 hT hE g1 hC G.room.hd g2) qg).imp λ D W H q a=>?_
              obtain⟨C,U,s,c',s',Ev,R,hm,q⟩:=q
              change(if F.xc c=true then some (c,s)else none)=_ at hm
              rw[hx,if_pos rfl]at hm
              cases hm
              exact q C H a Cc (Gr.refl C s H) (ao _) R hC
          | _=>exact ff h
         | _=>exact ff h
       | _=>exact ff h
      | _=>exact ff h
    | _=>exact ff h
 | .call f as,S,_,_,h=>by
  cases S with
  | nil=>exact ff h
  | cons st S=>cases st with
   | Assign ts v p=>cases ts with
    | nil=>exact ff h
    | cons t0 ts=>cases t0 with
     | Name y py=>cases ts with
      | cons _ _=>exact ff h
      | nil=>cases v with
       | Call g xs kw pc=>cases g with
        | Name x pn=>cases xs with
         | nil=>exact ff h
         | cons y xs=>cases kw with
          | cons _ _=>exact ff h
          | nil =>
           obtain⟨h,h3⟩:=zc h
           obtain⟨h1,Y⟩:=zc h
           have e:=of_decide_eq_true h1
           subst e
           obtain⟨t,ht,hq⟩:=bj7 G XO hp Y h3
           exact(zu (bp6 ht rfl rfl) qg).imp λ D W H q=>hq D W H _ q
        | _=>exact ff h
       | _=>exact ff h
     | _=>exact ff h
   | Expr v p=>cases v with
    | Call g xs kw pc=>cases g with
     | Name x pn=>cases xs with
      | nil=>exact ff h
      | cons y xs=>cases kw with
       | cons _ _=>exact ff h
       | nil =>
        obtain⟨h,h3⟩:=zc h
        obtain⟨h1,Y⟩:=zc h
        have e:=of_decide_eq_true h1
        subst e
        obtain⟨t,ht,hq⟩:=bj7 G XO hp Y h3
        exact(zu (aD7 ht (ai1 rfl)) qg).imp λ D W H q=>hq D W H _ q
     | _=>exact ff h
    | _=>exact ff h
   | _=>exact ff h
 | .iteT c a r,S,hT,Z,h=>by
  cases S with
  | nil=>exact ff h
  | cons st S=>cases st with
   | If t l o p=>cases o with
    | cons _ _=>exact ff h
    | nil =>
     obtain⟨h,h3⟩:=zc h
     obtain⟨h1,Y⟩:=zc h
     have a2:noR a=true\/aA2 X E:=hT.elim (λ z=>.inl (zc z).1) .inr
     have a3:noR r=true\/aA2 X E:=hT.elim (λ z=>.inl (zc z).2) .inr
     have a1:noL a=true\/_:=Z.elim (λ z=>.inl (zc z).1) .inr
     have a0:noL r=true\/_:=Z.elim (λ z=>.inl (zc z).2) .inr
     refine(zu (aN7 (sE c _ X.nox ck G h1).2.nox (ao5 G xc XO hp a _ a2 a1 Y) as9) (ao5 G xc XO hp r _ a3 a0 h3)).imp λ D W H q=>?_
     obtain⟨C,U,s,c',s',Ev,R,hm,q⟩:=q
     change(match ku F c U s with|.ok (.bl b) s1=>if b then kX F a U s1 else kX F r U s1|_=>none)=_ at hm
     split at hm
     .rename_i b s1 e1
      refine⟨C,U,s,b,s1,Ev,R,e1,λ C1 H1 g1 l1 R1=>?_⟩
      cases b with
      | true=>exact⟨C1,U,s1,c',s',Ev.mono g1 l1,R1,hm,q.trans g1 l1⟩
      | false=>exact⟨C1,U,s1,c',s',Ev.mono g1 l1,R1,hm,q.trans g1 l1⟩
     .cases hm
   | _=>exact ff h
 | .iteE c a r,S,hT,Z,h=>by
  cases S with
  | nil=>exact ff h
  | cons st S=>cases st with
   | If t l o p =>
    obtain⟨h,h3⟩:=zc h
    obtain⟨h1,Y⟩:=zc h
    have a2:noR a=true\/aA2 X E:=hT.elim (λ z=>.inl (zc z).1) .inr
    have a3:noR r=true\/aA2 X E:=hT.elim (λ z=>.inl (zc z).2) .inr
    have a1:noL a=true\/_:=Z.elim (λ z=>.inl (zc z).1) .inr
    have a0:noL r=true\/_:=Z.elim (λ z=>.inl (zc z).2) .inr
    refine(zu (aN7 (sE c _ X.nox ck G h1).2.nox (ao5 G xc XO hp a _ a2 a1 Y) (ao5 G xc XO hp r _ a3 a0 h3)) qg).imp λ D W H q=>?_
    obtain⟨C,U,s,c',s',Ev,R,hm,q⟩:=q
    change(match ku F c U s with|.ok (.bl b) s1=>if b then kX F a U s1 else kX F r U s1|_=>none)=_ at hm
    split at hm
    .rename_i b s1 e1
     refine⟨C,U,s,b,s1,Ev,R,e1,λ C1 H1 g1 l1 R1=>?_⟩
     cases b with
     | true=>exact⟨C1,U,s1,c',s',Ev.mono g1 l1,R1,hm,q.trans g1 l1⟩
     | false=>exact⟨C1,U,s1,c',s',Ev.mono g1 l1,R1,hm,q.trans g1 l1⟩
    .cases hm
   | _=>exact ff h
 | .seq st b,S,hT,Z,h=>by
  cases S with
  | nil=>exact ff h
  | cons x S =>
   obtain⟨h1,Y⟩:=zc h
   refine(zu (sS st _ X.nox ck G h1).nox (ao5 G xc XO hp b _ hT Z Y)).imp λ D W H q=>?_
   obtain⟨C,U,s,c',s',Ev,R,hm,q⟩:=q
   change(match DV.ex F st U s with|.ok (.next U1) s1=>kX F b U1 s1|_=>none)=_ at hm
   split at hm
   .rename_i U1 s1 e1
    exact⟨C,U,s,.next U1,s1,Ev,R,e1,λ C1 H1 g1 l1 R1 W1 a4=>⟨C1,U1,s1,c',s',a4,R1,hm,q.trans g1 l1⟩⟩
   .cases hm
 | .forX tg it b x,S,hT,Z,h=>by
  have Z:iI (model X.prog X.w) X.A X.env X.xe:=Z.elim (λ z=>by cases z) id
  cases S with
  | nil=>exact ff h
  | cons st S=>cases st with
   | For tgt iter l o p=>cases o with
    | cons _ _=>exact ff h
    | nil =>
     obtain⟨h,h4⟩:=zc h
     obtain⟨h,h3⟩:=zc h
     obtain⟨h1,Y⟩:=zc h
     have hb:PSs X l (λ D W H=>TSv Γ (lj F b) D W H\/TXv Γ X.mg (kX F x) E D W H):=λ J s W H D I q=>q.elim (λ z=>(sSs b _ X.nox ck G h3).nox J s W H D I z) (λ z=>ao5 G xc XO hp x _ hT (.inr Z) h4 J s W H D I z)
     have hi:PI X tgt iter (TIv Γ (lB F it)):=(sI it _ _ X.nox ck G Y).nox
     have hg:PG X tgt (gOf Γ.K tg):=(bb9 G h1).nox
     refine(zu (bj3 Z G.calm hi hg hb (at4 (bj5 Y))) qg).imp λ D W H q=>?_
     exact bA5 (mI:=lB F it) (mb:=lj F b) (mx:=kX F x) (tg:=tg) (q:TXv Γ X.mg _ E D W H)
   | _=>exact ff h
 | .whlX _ _ _,S,_,_,h=>ff h
theorem bv7 {tb:yL}{h₀:d5}{hs:List d5}{p:Pos}{t:TS}(hx:X.xe=λ _ _=>False)(h:PSs X tb t):PS X (.Try tb (h₀::hs) [] [] p) t:=by
 intro F s W H D I q
 refine iW (aZ (h F s W H D I q) (λ f s1 z=>?_) (λ e s1 z=>?_))
 .cases f with
  | next=>exact cY z
  | _=>exact z
 .rw[hx]at z;exact z.elim
def EH (Cc:Addr)(v:VK->Hp->Prop)(D:Ends):XK:=λ _ o H'=>o=some Cc/\∀ H'',ad3 H' H''->v D.rt H''
theorem br9 {tb:yL}{x nm:Str}{i:Nat}{b₀:Stmt}{Y:yL}{np a1 p:Pos}{hs:List d5}{m:kq->km->Option (String×km)}{b:VK->Hp->Prop}{D':Addr}(a3:X.ex=[])(a6:X.stack=X.env::X.outer)(a5:X.env.frame=some X.env.locals)
  (hc:bD X.K (.ref Cc) (.ref D')=some true) (hg:Gl X x) (hm:X.mg x=some (.ref D')) (hd:(x==("__debug__":Str))=false) (hN:X.N.Nodup) (hi:X.N[i]?=some nm) (hl:X.env.scope.names.lookup nm=some .local)
  (a2:∀(pn:yA) (Ww:Value->ae->Prop) (E:XK),af9 (CX1 X.prog X.w) { X with pn:=pn,xe:=Ww } E->PSs { X with pn:=pn,xe:=Ww } tb (TXv Γ X.mg m E)) (a4:∀ a oe,oe.cls=.ref Cc->PSs (X.hnd a oe) (b₀::Y) (tHd i a b)) :
  PS X (.Try tb (.ExceptHandler (some (.Name x np)) (some nm) (b₀::Y) a1::hs) [] [] p) (λ D W H=>TXv Γ X.mg m (EH Cc b D) D W H):=by
 intro F s W H D I q
 let Ww:Value->ae->Prop:=λ e s₁=>wpAny (model X.prog X.w) X.A (iP e X.env) (λ _ s₂=>wpAny (model X.prog X.w) X.A (iV e none) (λ _ s₃=>wpAny (model X.prog X.w) X.A (handleBy e X.env (.ExceptHandler (some (.Name x np)) (some nm) (b₀::Y) a1::hs)) (SP X F D) X.xe s₃) X.xe s₂) X.xe s₁
 have b0:({ X with pn:=X.pn++F,xe:=Ww }:Cx).Ok:=⟨I.ok.mod,I.ok.kind,I.ok.glob,I.ok.blt,I.ok.above,I.ok.inj,I.ok.has,I.ok.cab,I.ok.hd,I.ok.frames,I.ok.stk,I.ok.exf,I.ok.bs,I.ok.bsz,I.ok.noex,I.ok.exfs,I.ok.funs,I.ok.frf⟩
 have I':Inv { X with pn:=X.pn++F,xe:=Ww } [] W H s:=⟨b0,I.os,I.bare,I.base,I.loc,I.cell,I.free,I.freeC,λ p hp=>I.pin p (by rw[aF]at hp;exact hp),I.hok,I.len⟩
 have G:∀ {Z:yA} {W':St} {H':Hp} {s':ae},Inv { X with pn:=X.pn++F,xe:=Ww } Z W' H' s'->Inv X F W' H' s':=λ J=>⟨I.ok,J.os,J.bare,J.base,J.loc,J.cell,J.free,J.freeC,λ p hp=>J.pin p (cE _ hp),J.hok,J.len⟩
 have hp:af9 (CX1 X.prog X.w) { X with pn:=X.pn++F,xe:=Ww } (EH Cc b D):=λ Z W' H' s' e b2 J h=>by
  obtain⟨a,Cc',b3,rfl,T,eC,hq⟩:=CX1.tr J a3 h
  cases eC
  obtain⟨a0,oe,vs,T0,oT,ts,h1,h2,h3,h4,h5,h6,b1,h7⟩:=T.tr
  have hn:i < W'.length:=by rw[J.len];exact(af.mp hi).1
  exact aL5 ⟨G T.inv,T.n0,T.nH,λ p hp=>T.np p (cE _ hp),a0,oe,vs,T0,oT,ts,h1,h2,h3,h4,h5,h6,λ p hp=>b1 p (cE _ hp),h7⟩ a3 a6 a5 hc hg hm hd hN hi hl (a4 a) ⟨by rw[aR hn],hq⟩
 refine iW (aZ (a2 _ Ww _ hp [] s W H D I' q) (λ f s1 z=>?_) (λ e s1 z=>z))
 cases f with
 | next=>obtain⟨W1,H1,J,z⟩:=z;exact cY ⟨W1,H1,G J,z⟩
 | brk=>obtain⟨W1,H1,J,z⟩:=z;exact⟨W1,H1,G J,z⟩
 | cont=>obtain⟨W1,H1,J,z⟩:=z;exact⟨W1,H1,G J,z⟩
 | ret u=>obtain⟨v,W1,H1,J,r,z⟩:=z;exact⟨v,W1,H1,G J,r,z⟩
end
section
variable {X:Cx} {a:Addr} {oe:Obj}
theorem be5 {k i:Nat}{f:Addr}{x nm:Str}{st:Stmt}{fd:bN}{N:yH}{p:Str}{t0:Hp->VK->Prop}{px pn pos:Pos}(F:Fun X.K nm nm st f fd)(S:FnScope N [p] (defScope st))(hb:Binds X.K fd [p] [])(hr:Room (k+1) X.A)(hg:Gl X nm)(hm:X.mg nm=some (.ref f))
  (a3:(nm==("__debug__":Str))=false) (ha:PE (X.hnd a oe) (.Name x px) (bi2 i))
  (a1:∀(G:Value),fd.code=G->∀(s:ae) (H:Hp) (Q:VK),Room k (X.A.deeper (eG nm (defScope st) s.heap.objs.size f G))->t0 H Q ->
   ∃ t,PSs ((ai8 CX0 X.prog X.w X.K X.mg X.base N nm (defScope st) f G X.A X.stack s H (λ _ _ _=>False)).hnd a oe) (zw st) t/\t { nx:=λ _ H'=>Q .non H',rt:=Q } (qr N [.ref a]) H) :
  PE (X.hnd a oe) (.Call (.Name nm pn) [.Name x px] [] pos) (λ W H Q=>W[i]?=some (some (.ref a))/\t0 H Q):=by
 obtain⟨oc,od,kV,a5,pm,an,G,ct,a6,rfl,lk,hcd⟩:=F.ex
 intro a2 s W H Q I h
 have pa:PA (X.hnd a oe) [.Name x px] (an3 (bi2 i) aY1):=zt ha ac5
 refine cU (as2 (X:=X.hnd a oe) I hg hm ?_ a3)
 refine g8 (h₀:=X.base) I.ok.mod.kin F.kp (thn (pa pos a2 s W H (λ vs Y=>vs=[.ref a]/\t0 Y Q) I ⟨.ref a,h.1,rfl,h.2⟩) λ us s1 ⟨vs,Y,Z,r,q0,q⟩=>⟨Z.kIn,?_⟩) rfl rfl
 subst q0
 obtain⟨u,rfl,ru⟩:=r.one
 cases(show u=Value.ref a from ru)
 have e1:=Z.env0
 have e0:Env0 X.prog X.w X.K X.mg X.base X.A X.stack s1 Y:=⟨e1.frames,e1.mod,e1.bs,e1.bsz,e1.funs,e1.frf,e1.hok,e1.bare⟩
 obtain⟨p1,p2,p3,p4,p5⟩:=Z.pin (a,oe) (aw ..)
 refine g7 (fN (R:=CR CX0 X.stack X.prog X.w Y s1 Q (λ _ _ _=>False)) ?_ λ r s' hq=>?_)
 .have KX:X.K.In s1.heap:=Z.kIn
  have a4:s1.heap.NoLimit:=Z.nolimit
  have a0:∀ y∈[p].zip [Value.ref a],(defScope st).names.lookup y.1=some .local\/((defScope st).names.lookup y.1=some .cell/\((bq (s1.heap.objs.size+1) (defScope st).names []).lookup y.1).isSome=true):=λ⟨n,v⟩ hy=>by
   rcases S.par n (eF hy).1 with q|q
   .exact .inl q
   .exact .inr ⟨q,dJ _ _ _ (.inl q)⟩
  refine f6 (show(X.A.mark (some (.ref a))).depth<_ from hr.depth) (KX _ _ lk) rfl S.co S.gen rfl (g9 KX hcd) (hb s1 [.ref a] KX rfl _ _ _ _ ?_)
  refine e6 S.kind a0 λ env he s2 x=>?_
  subst he
  refine⟨a4.keeps x.toInCall.keep,codeAny_func ?_⟩
  obtain⟨t,ht,hq⟩:=a1 G rfl s1 Y Q (hr.deeper _) q
  have J:Inv (ai8 CX0 X.prog X.w X.K X.mg X.base N nm (defScope st) f G X.A X.stack s1 Y (λ _ _ _=>False)) [] (qr N [.ref a]) Y s2:=az1 S hr.hd e0 rfl (.cons rfl .nil) x
  have J2:Inv ((ai8 CX0 X.prog X.w X.K X.mg X.base N nm (defScope st) f G X.A X.stack s1 Y (λ _ _ _=>False)).hnd a oe) [] (qr N [.ref a]) Y s2 :=
   ⟨J.ok.hnd a oe,J.os,J.bare,J.base,J.loc,J.cell,J.free,J.freeC,λ y hy=>by
    rcases ax.mp hy with z|z
    .subst z
     refine⟨x.toInCall.keep _ _ p1,p2,aE (aH p1),λ z=>?_,p5⟩
     rcases ax.mp (Z.stkSub a z)with q|q
     .exact p3 q
     .exact p4 q
    .exact J.pin y z,J.hok,J.len⟩
  refine aZ (ht [] s2 (qr N [.ref a]) Y _ J2 hq) (λ fl s' hs=>?_) λ e s' hs=>hs.elim
  have fin:∀ {W':St} {H':Hp} {v:V} {u:Value},Inv ((ai8 CX0 X.prog X.w X.K X.mg X.base N nm (defScope st) f G X.A X.stack s1 Y (λ _ _ _=>False)).hnd a oe) [] W' H' s'->RelV v u->Q v H'->CE X.stack X.prog X.w Y s1 Q u s' :=
   λ {W' H' v u} J rv q=>⟨v,H',J.os,J.bare,J.base,J.hok,rv,q⟩
  cases fl with
  | ret u =>
   obtain⟨v,W',H',J,rv,q⟩:=hs
   exact fin J rv q
  | next =>
   obtain⟨W',H',J,q⟩:=hs
   exact fin (v:=V.non) (u:=Value.none) J rfl q
  | brk =>
   obtain⟨_,_,_,q⟩:=hs
   exact a8 q
  | cont =>
   obtain⟨_,_,_,q⟩:=hs
   exact a8 q
 .cases r with
  | error e=>exact hq.elim
  | ok fl =>
   cases fl with
   | ret u=>exact Z.after hq
   | next=>exact a8 hq
   | brk=>exact a8 hq
   | cont=>exact a8 hq
noncomputable def isT:Value->Bool
 | .bool b=>b
 | _=>false
theorem ar6:∀ {bs:List Bool} {us:yG},Vals (bs.map V.bl) us->us=bs.map Value.bool
 | [],_,.nil=>rfl
 | b::bs,_,.cons r t=>by
  have e:=ar6 t
  subst e
  cases(show _=Value.bool b from r)
  rfl
theorem bi9 {A:aN}{s:ae}{bs:List Bool}:∀ y,y∈(bs.map Value.bool).toArray->fc A s y (.bool true) (isT y):=λ y hy=>by
 obtain⟨b,_,rfl⟩:=bC.mp (List.mem_toArray.mp hy)
 have:=gr (A:=A) (s:=s) b true
 have e:(b==true)=isT (.bool b):=by cases b<;>rfl
 rwa [e]at this
theorem aW6:MtR X "list.count" (λ x vs H Q=>∃(l:Addr) (bs:List Bool),x=.ref l/\vs=[.bl true]/\H l=some (.lst (bs.map V.bl))/\Q (.int (bs.countP id:Nat)) H):=by
 intro G s W H x vs v us Q I rx rv h
 obtain⟨l,bs,rfl,rfl,J,q⟩:=h
 cases rx
 obtain⟨u,rfl,Z⟩:=rv.one
 cases(show u=Value.bool true from Z)
 obtain⟨z,its,n,r,hl,e⟩:=I.lstM J
 have Y:=ar6 r
 subst Y
 refine dX gu ⟨_,e,rfl⟩ F.entry_list_count (F.args_list_count_2 _ _) (SeqAt.list_countAt l _ n none #[] (.bool true) isT) ⟨e,bi9,?_⟩
 have ec:(bs.map Value.bool).toArray.toList.countP isT=bs.countP id:=by
  rw[List.toList_toArray,List.countP_map]
  rfl
 rw[ec]
 exact⟨.int (bs.countP id:Nat),H,I.tok _,⟨_,rfl⟩,q⟩
theorem aV4:MtR X "list.index" (λ x vs H Q=>∃(l:Addr) (bs:List Bool) (j:Nat),x=.ref l/\vs=[.bl true]/\H l=some (.lst (bs.map V.bl))/\bs[j]?=some true/\(∀ i:Nat,i<j->bs[i]?=some false)/\Q (.int (j:Nat)) H):=by
 intro G s W H x vs v us Q I rx rv h
 obtain⟨l,bs,j,rfl,rfl,Y,J,h2,q⟩:=h
 cases rx
 obtain⟨u,rfl,ru⟩:=rv.one
 cases(show u=Value.bool true from ru)
 obtain⟨z,its,n,r,hl,e⟩:=I.lstM Y
 have Z:=ar6 r
 subst Z
 have hj:j<bs.length:=(af.mp J).1
 have hz:bs.length<=aM:=by rw[aI]at z;exact z
 rw[fg]at hz
 refine dX gv ⟨_,e,rfl⟩ F.entry_list_index (F.args_list_index_2 _ _) (SeqAt.list_indexAt l _ n none #[] (.bool true) isT j (by simp;omega) (by omega) ?_ ?_) ⟨e,bi9,?_⟩
 .have:bs[j]=true:=(af.mp J).2
  simp[isT,this]
 .intro m hm hlt
  have a0:m<bs.length:=by simpa using hm
  have:bs[m]=false:=(af.mp (h2 m hlt)).2
  simp[isT,this]
 .exact⟨.int (j:Nat),H,I.tok _,⟨_,rfl⟩,q⟩
end
section
variable {F:kF} {X:Cx} {ck:Ck} {a Cc:Addr} {oe:Obj}
theorem aF5 {nm:Str}{c:String}{E:Expr}(h:mHT ck nm (.one c) E=true):shp E=true:=by
 cases E<;>first|rfl|exact ff h
theorem cc9 {e:Expr}{cp:Pos}{env:Env}(h:shp e=true):((dS cp (bp [e] env)).all (λ x=>!x.1)&&(backToKw cp (iY [] env)).all (λ x=>x.1.isSome)&&decide ([e].length+([]:List gA).length+(if([]:List gA).isEmpty then 0 else 1)<30))=true:=by
 cases e<;>first|rfl|cases h
theorem bi4 (G:CH X ck)(xc:XC F X.K X.mg){c:String}(z:F.xc c=true)(J:X.mg (c:Str)=some (.ref Cc))(kx:ci X.K (.ref a) (.ref Cc) (λ h=>XAt h a Cc))(hcl:oe.cls=.ref Cc){nm:Str}{i:Nat}(hi:ck.N[i]?=some nm)(hv:Vis X.env.scope nm)(hd:(nm==("__debug__":Str))=false)(hcd:(nm==("__classdict__":Str))=false) :
  ∀ {Y:List String} {es:yK},bD9 ck nm Y es=true->Y.all F.xt=true->PA (X.hnd a oe) es (λ W H Q=>W[i]?=some (some (.ref a))/\∀ H',ad3 H H'->Q ((Y.map (kB c)).map V.bl) H')
 | [],[],_,_=>ac5.imp λ W H Q q=>q.2 H (ad3.refl _)
 | [],_::_,h,_=>ff h
 | _::_,[],h,_=>ff h
 | d::Y,e::es,h,ho=>by
  obtain⟨Z,h2⟩:=zc h
  rw[d6,am]at ho
  have q1:=(bn1 (a:=a) (oe:=oe) G xc z J kx hcl hi hv hd hcd Z ho.1).1
  have q2:=bi4 G xc z J kx hcl hi hv hd hcd h2 ho.2
  refine(zt q1 q2 (zb (aF5 Z))).imp λ W H Q q=>⟨q.1,λ H1 s1=>⟨q.1,λ H2 s2=>q.2 H2 (s1.trans s2)⟩⟩
theorem aO6:∀ {ts:List (List Nat)} {es:yK},bn8 ts es=true->PA X es (λ W H Q=>Q (ts.map λ t=>V.str ⟨t.toArray⟩) H)
 | [],[],_=>ac5.imp λ W H Q q=>q
 | [],_::_,h=>ff h
 | _::_,[],h=>ff h
 | t::ts,e::es,h=>by
  cases e with
  | Constant k j p=>cases k with
   | str y =>
    obtain⟨z,F⟩:=zc h
    have e:=of_decide_eq_true z
    subst e
    exact(zt ay0 (aO6 F) rfl).imp λ W H Q q=>q
   | _=>exact ff h
  | _=>exact ff h
theorem bN7 {S:yL}(h:be4 ck S):mX ck .kind S=true:=@decide_eq_true _ (cb _) h
theorem bu7 {bs:List Bool}(hl:bs.length=9)(h:bs.countP id=1):∃ j:Nat,j<9/\bs[j]?=some true/\(∀ i:Nat,i<j->bs[i]?=some false)/\lU[j]?=some (lV bs):=by
 have hx:∃ x∈bs,id x=true:=by
  have:0<bs.countP id:=by omega
  exact List.countP_pos_iff.mp this
 have hj:bs.findIdx id<bs.length:=List.findIdx_lt_length_of_exists hx
 have J:DV.ae5.length=9:=rfl
 refine⟨bs.findIdx id,by omega,?_,λ i G=>?_,?_⟩
 .rw[ag hj]
  have:=List.findIdx_getElem (w:=hj)
  exact congrArg some this
 .have F:i<bs.length:=by omega
  rw[ag F]
  have:=List.not_of_lt_findIdx G
  simpa using this
 .unfold lV
  rw[if_pos h]
  have z:bs.findIdx id<DV.ae5.length:=by omega
  rw[ag z,aQ,ag z]
  rfl
theorem bw3 (G:CH X ck)(xc:XC F X.K X.mg){c:String}(b5:F.xc c=true)(b6:X.mg (c:Str)=some (.ref Cc))(kx:ci X.K (.ref a) (.ref Cc) (λ h=>XAt h a Cc))(hcl:oe.cls=.ref Cc)(nd:X.N.Nodup)(b7:X.env.scope=ck.sc)(hx:DV.ab5.all F.xt=true)
  {S:yL} (h:be4 ck S):PSs (X.hnd a oe) S (λ D W H=>W=[some (.ref a),none]/\∀ H',ad3 H H'->D.rt (.str ⟨(kI c).toArray⟩) H'):=by
 obtain⟨nm,ks,e1,e4,y1,y5,m4,m5,m6,h1,g4,f4,j1,j5,i5,k5,j6,p1,q1,r1,a2,b2,c2,a3,b3,c3,d3,f3,a4,g0,h8,p4,a5,h2,i0,g5,h7,g1,f5,q5,p5,h9,a6,g2,g3,i1,h0,p6,rfl,eN,hh⟩:=h
 unfold ca4 at hh
 obtain⟨l1,hh⟩:=zc hh
 obtain⟨Z,hh⟩:=zc hh
 obtain⟨d1,hh⟩:=zc hh
 obtain⟨d2,hh⟩:=zc hh
 obtain⟨c4,hh⟩:=zc hh
 obtain⟨d4,hh⟩:=zc hh
 obtain⟨f2,hh⟩:=zc hh
 obtain⟨z1,hh⟩:=zc hh
 obtain⟨z5,hh⟩:=zc hh
 obtain⟨z2,hh⟩:=zc hh
 obtain⟨z3,hh⟩:=zc hh
 obtain⟨z4,hh⟩:=zc hh
 obtain⟨c0,hh⟩:=zc hh
 obtain⟨e5,hh⟩:=zc hh
 obtain⟨e0,hh⟩:=zc hh
 obtain⟨c1,hh⟩:=zc hh
 obtain⟨f1,hh⟩:=zc hh
 obtain⟨Y,f0⟩:=zc hh
 have z:=of_decide_eq_true z1
 subst z
 have z:=of_decide_eq_true z5
 subst z
 have z:=of_decide_eq_true z2
 subst z
 have z:=of_decide_eq_true z3
 subst z
 have z:=of_decide_eq_true z4
 subst z
 have l1:X.env.scope.names.lookup nm=some .local:=by rw[b7];exact eq_of_beq l1
 have Z:X.env.scope.names.lookup ks=some .local:=by rw[b7];exact eq_of_beq Z
 have d1:(nm==("__debug__":Str))=false:=by simpa using d1
 have d2:(nm==("__classdict__":Str))=false:=by simpa using d2
 have d3:(ks==("__debug__":Str))=false:=by simpa using c4
 have d4:(ks==("__classdict__":Str))=false:=by simpa using d4
 have b1:ck.N[0]?=some nm:=by rw[eN];rfl
 have a0:(X.hnd a oe).N[1]?=some ks:=by show X.N[1]?=_;rw[G.N,eN];rfl
 have hT:=λ {t:DV.HT} {E:Expr} (m:mHT ck nm t E=true) (o:t.ok F.xt=true)=>bn1 (a:=a) (oe:=oe) G xc b5 b6 kx hcl b1 (.inl l1) d1 d2 m o
 have b4:=λ {cs:List String} {es:yK} (m:bD9 ck nm cs es=true) (o:cs.all F.xt=true)=>bi4 (a:=a) (oe:=oe) G xc b5 b6 kx hcl b1 (.inl l1) d1 d2 m o
 have vk:∀ {p:Pos},PE (X.hnd a oe) (.Name ks p) (bi2 1):=av4 a0 (.inl Z) d3 d4
 have x4:(DV.ab5.take 4).all F.xt=true:=aB.mpr λ y hy=>aB.mp hx y (cG hy)
 have x5:((DV.ab5.drop 4).take 4).all F.xt=true:=aB.mpr λ y hy=>aB.mp hx y (dm (cG hy))
 have x9:(DV.HT.one "NoName").ok F.xt=true:=aB.mp hx "NoName" (by decide)
 refine(zu (aN7 (hT f2 rfl).2 (an9 (ar2 ay0)) as9) (zu (aI4 nd a0 (.inl Z) (aq9 (b4 c1 x4)) rfl (.inr Z)) (zu (aI4 nd a0 (.inl Z) (by8 bj6 vk (aq9 (b4 f1 x5))) rfl (.inr Z)) (zu (aD7 (aZ3 ce dL fB am9 vk (zt (hT Y x9).1 ac5 (zb (aF5 Y))) rfl (cc9 (aF5 Y)) c0 (zb (aF5 Y)) rfl) rfl) (zu (aN7 (aB5 bW6 (aZ3 ce gu PySem.F.type_list_count aW6 vk (zt bq0 ac5) rfl rfl e5) aP7 rfl) (an9 (ar2 ay0)) as9)
  (an9 (ar2 (bD8 aV1 (aq9 (aO6 f0)) (aZ3 ce gv PySem.F.type_list_index aV4 vk (zt bq0 ac5) rfl rfl e0) (ah7 rfl))))))))).imp λ D W H q=>?_
 obtain⟨rfl,q⟩:=q
 have J:∀ {k:Nat},k<=1000->k<=aM:=λ h=>eS (al3 h)
 refine⟨rfl,λ H1 s1=>?_⟩
 show(if(!true)=true then _ else _)
 rw[if_neg (by decide)]
 refine⟨rfl,λ H2 s2=>⟨J (by show 4<=1000;decide),λ p hp=>?_⟩⟩
 refine⟨.ref p,rfl,rfl,λ H3 s3=>⟨J (by show 4<=1000;decide),λ p' b0=>?_⟩⟩
 have h3:H3 p=some (.lst (((DV.ab5.take 4).map (kB c)).map V.bl)):=s3 _ _ (by rw[zo])
 have n1:p≠p':=zf h3 b0
 refine⟨p,p',_,_,rfl,rfl,by rw[zn n1];exact h3,zo,J (by show 8<=1000;decide),λ r hr=>?_⟩
 refine⟨.ref r,rfl,.inl ⟨rfl,_,SqL.of zo⟩,rfl,λ H4 s4=>?_⟩
 have h4:=s4 _ _ zo
 refine⟨r,_,_,rfl,rfl,h4,al3 (by show 8<=1000;decide),?_⟩
 have h5:(upd H4 r (.lst ((((DV.ab5.take 4).map (kB c)).map V.bl++(((DV.ab5.drop 4).take 4).map (kB c)).map V.bl)++[.bl ((DV.HT.one "NoName").val c)]))) r=some (.lst ((DV.ab5.map (kB c)).map V.bl)):=by
  rw[zo];rfl
 have s5:ad3 H (upd H4 r (.lst ((((DV.ab5.take 4).map (kB c)).map V.bl++(((DV.ab5.drop 4).take 4).map (kB c)).map V.bl)++[.bl ((DV.HT.one "NoName").val c)]))):=λ b o e=>by
  have e1:=s1 b o e
  have e2:=s2 b o e1
  have e3:=s3 b o (by rw[zn (zf e2 hp)];exact e2)
  have a1:(upd H3 p' (.lst ((((DV.ab5.drop 4).take 4).map (kB c)).map V.bl))) b=some o:=by rw[zn (zf e3 b0)];exact e3
  have e4:=s4 b o (by rw[zn (zf a1 hr)];exact a1)
  have n:b≠r:=zf a1 hr
  rw[zn n];exact e4
 generalize hU:upd H4 r (.lst ((((DV.ab5.take 4).map (kB c)).map V.bl++(((DV.ab5.drop 4).take 4).map (kB c)).map V.bl)++[.bl ((DV.HT.one "NoName").val c)]))=Uu at h5 s5
 refine⟨.ref r,rfl,.inl ⟨rfl,_,SqL.of h5⟩,r,DV.ab5.map (kB c),rfl,rfl,h5,rfl,_,rfl,?_⟩
 have key:(!decide (V.int ((DV.ab5.map (kB c)).countP id:Nat)=V.int 1))=!decide ((DV.ab5.map (kB c)).countP id=1):=by
  congr 1
  rw[aO7]
  rw[bL,beq_iff_eq,decide_eq_true_eq]
  omega
 rw[key]
 by_cases hc:(DV.ab5.map (kB c)).countP id=1
 .rw[decide_eq_true hc]
  show(if(!true)=true then _ else _)
  rw[if_neg (by decide)]
  obtain⟨j,j1,j2,j3,j4⟩:=bu7 (bs:=DV.ab5.map (kB c)) rfl hc
  refine⟨J (by show 9<=1000;decide),λ t ht=>?_⟩
  have h6:(upd Uu t (.lst (DV.ae5.map λ t=>V.str ⟨t.toArray⟩))) r=some (.lst ((DV.ab5.map (kB c)).map V.bl)):=by rw[zn (zf h5 ht)];exact h5
  refine⟨.ref r,rfl,.inl ⟨rfl,_,SqL.of h6⟩,r,_,j,rfl,rfl,h6,j2,j3,t,DV.ae5.map (λ t=>V.str ⟨t.toArray⟩),(j:Int),V.str ⟨(kI c).toArray⟩,rfl,rfl,SqL.of zo,?_,q _ (λ b o e=>?_)⟩
  .unfold atI
   have e1:ixN (DV.ae5.map λ t=>V.str ⟨t.toArray⟩).length (j:Int)=some j:=by
    unfold ixN
    rw[if_pos (by omega),if_pos (by rw[aI,show DV.ae5.length=9 from rfl];omega)]
    simp
   rw[e1]
   show(DV.ae5.map λ t=>V.str ⟨t.toArray⟩)[j]?=_
   rw[a9,j4]
   rfl
  .have e1:=s5 b o e
   rw[zn (zf e1 ht)];exact e1
 .rw[decide_eq_false hc]
  show(if(!false)=true then _ else _)
  rw[if_pos (by decide)]
  have e1:kI c=DV.ai9:=by unfold kI lV;rw[if_neg hc]
  have q':=q Uu s5
  rw[e1]at q'
  exact q'
end
section
variable {Γ:Gm}
theorem aB6 {C C1:Nat->Addr}{H F:Hp}{s s1:km}(R:Rp Γ C H s)(g:Gr C s H C1 s1 F)(ho:mf s s1=true){i:Nat}{o:kS}(z:i<s.length)(e:s1[i]?=some o):o.bnd s.length=true:=by
 unfold mf at ho
 have:=aB.mp ho i (cr.mpr z)
 rw[e,aY]at this
 rcases this with h|h
 .exact R.wf i o (of_decide_eq_true h).symm
 .exact h
theorem qo {s1:km}{k i:Nat}{o:kS}(e:(s1.take k)[i]?=some o):i<k/\s1[i]?=some o:=by
 rw[List.getElem?_take]at e
 split at e
 .exact⟨‹_›,e⟩
 .cases e
theorem aJ3 {C C1:Nat->Addr}{H F:Hp}{s s1:km}(R:Rp Γ C H s)(g:Gr C s H C1 s1 F)(R1:Rp Γ C1 F s1)(ho:mf s s1=true):Gr C s H C1 (s1.take s.length) F/\Rp Γ C1 F (s1.take s.length):=by
 have hl:(s1.take s.length).length=s.length:=by rw[bE];have:=g.le;omega
 refine⟨⟨g.w,by rw[hl];exact ao _,λ i Y J=>by rw[hl]at J;omega,λ i o G e e'=>g.kd i o G e (qo e').2,g.st,g.fr⟩,λ i j o G e e' m m' z=>R1.inj i j o G (qo e).2 (qo e').2 m m' z,λ i o e=>R1.obj i o (qo e).2,λ i o e=>?_,R1.tab⟩
 rw[hl]
 exact aB6 R g ho (qo e).1 (qo e).2
theorem zZ {C C1:Nat->Addr}{H J:Hp}{s s1 s':km}{v0 d:ko}{v:V}(R:Rp Γ C H s)(g:Gr C s H C1 s1 J)(R1:Rp Γ C1 J s1)(hb:v0.bnd s1.length=true)(r:RV Γ C1 J v0 v)(h:lC s v0 s1=.ok d s') :
  ∃ C',Gr C s H C' s' J/\s.length<=s'.length/\d.bnd s'.length=true/\RV Γ C' J d v/\Rp Γ C' J s':=by
 have all:d=v0->s'=s1->∃ C',Gr C s H C' s' J/\s.length<=s'.length/\d.bnd s'.length=true/\RV Γ C' J d v/\Rp Γ C' J s':=λ e1 e2=>by
  subst e1;subst e2
  exact⟨C1,g,g.le,hb,r,R1⟩
 unfold lC at h
 split at h
 case isFalse=>cases h;exact all rfl rfl
 rename_i ho
 obtain⟨gt,Rt⟩:=aJ3 R g R1 ho
 have hl:(s1.take s.length).length=s.length:=by rw[bE];have:=g.le;omega
 have tk:d=v0->s'=s1.take s.length->v0.bnd s.length=true->∃ C',Gr C s H C' s' J/\s.length<=s'.length/\d.bnd s'.length=true/\RV Γ C' J d v/\Rp Γ C' J s':=λ e1 e2 b=>by
  subst e1;subst e2
  exact⟨C1,gt,by rw[hl];exact ao _,by rw[hl];exact b,r,Rt⟩
 split at h
 .rename_i k
  split at h
  .cases h
   exact tk rfl rfl (by unfold kA;exact decide_eq_true ‹_›)
  .rename_i hk
   split at h
   .rename_i o Z
    split at h
    .rename_i Y
     cases h
     have gw:Gw C1 s.length J (λ i=>if i=s.length then C1 k else C1 i) J:=⟨λ i z=>if_neg (aE z),Kp.refl _⟩
     have key:∀(i:Nat) (G:kS),(s1.take s.length++[o])[i]?=some G->(i<s.length/\s1[i]?=some G)\/(i=s.length/\G=o):=λ i G e=>by
      rcases fq i s.length with h|h|h
      .rw[aS (by rw[hl];exact h)]at e;exact .inl (qo e)
      .subst h
       rw[bT (by rw[hl];exact ao _),hl,Nat.sub_self]at e
       exact .inr ⟨rfl,(ay e).symm⟩
      .rw[c8 (by rw[au,hl];simp;omega)]at e;cases e
     have F:(s1.take s.length++[o]).length=s.length+1:=by rw[au,hl];rfl
     refine⟨λ i=>if i=s.length then C1 k else C1 i,⟨⟨λ i z=>?_,g.w.kp⟩,by rw[F];omega,λ i h1 h2=>?_,λ i oo G e e'=>?_,g.st,g.fr⟩,by rw[F];omega,by unfold kA;rw[F];exact decide_eq_true (cN _),?_,⟨λ i j oi oj a1 a0 mi mj e=>?_,λ i G e=>?_,λ i G e=>?_,R1.tab⟩⟩
     .show(if i=s.length then C1 k else C1 i)=C i
      rw[if_neg (aE z)];exact g.w.map i z
     .rw[F]at h2
      show H (if i=s.length then C1 k else C1 i)=none
      rw[if_pos (by omega)]
      exact g.new k (by omega) (af.mp Z).1
     .rcases key i G e' with⟨_,e2⟩|⟨z,_⟩
      .exact g.kd i oo G e e2
      .have:=(af.mp e).1;omega
     .rw[r.refE]
      unfold RV
      show V.ref (C1 k)=V.ref (if s.length=s.length then C1 k else C1 s.length)
      rw[if_pos rfl]
     .rcases key i oi a1 with⟨z,ei⟩|⟨z,zi⟩<;>rcases key j oj a0 with⟨hj,ej⟩|⟨hj,zj⟩
      .rw[if_neg (aE z),if_neg (aE hj)]at e
       exact R1.inj i j oi oj ei ej mi mj e
      .rw[if_neg (aE z),if_pos hj]at e
       subst zj
       have:=R1.inj i k oi _ ei Z mi mj e
       omega
      .rw[if_neg (aE hj),if_pos z]at e
       subst zi
       have:=R1.inj k j _ oj Z ej mi mj e
       omega
      .rw[z,hj]
     .rcases key i G e with⟨z,e⟩|⟨z,rfl⟩
      .show RO Γ _ _ (if i=s.length then C1 k else C1 i) G
       rw[if_neg (aE z)]
       exact(R1.obj i G e).mono gw (aB6 R g ho z e) λ _ u hu=>hu
      .show RO Γ _ _ (if i=s.length then C1 k else C1 i) G
       rw[if_pos z]
       exact(R1.obj k _ Z).mono gw Y λ _ u hu=>hu
     .rw[F]
      rcases key i G e with⟨z,e⟩|⟨_,rfl⟩
      .exact zQ (d9 _) _ (aB6 R g ho z e)
      .exact zQ (d9 _) _ Y
    .cases h;exact all rfl rfl
   .exact fb h
 .split at h
  .cases h;exact tk rfl rfl ‹_›
  .cases h;exact all rfl rfl
def by3 (Γ:Gm)(cds:yF)(f:Str)(sc:Scope)(N:yH)(fd:bN)(lk:String->List Nat->Expr->Bool):Prop :=
 ∀ id caps E,lk id caps E=true->False
def GoodB (Γ:Gm)(cds:yF)(mg:yC)(f:String)(pc vc:Nat)(m:Ck->List Stmt->Bool):Prop:=∃ st N ps a fd lk,DefAt Γ.K mg (f:Str) st ps a fd/\FnScope N ps (defScope st)/\ps.length=pc/\N.length=pc+vc/\m ⟨N,defScope st,lk⟩ (zw st)=true/\by3 Γ cds (f:Str) (defScope st) N fd lk
def Good (Γ:Gm)(cds:yF)(mg:yC)(f:String)(d:lE):Prop:=GoodB Γ cds mg f d.ps d.vs λ ck S=>mSs ck d.body S
noncomputable def mKc (ck:Ck)(nm:Str)(f:String)(E:Expr):Bool:=match E with|.Call (.Name g _) [.Name x _] [] _=>decide (g=(f:Str))&&(ck.gl g&&decide (x=nm))|_=>false
noncomputable def bX0 (ck:Ck)(nm:Str)(f:String)(l:Bool)(S:yL):Bool:=match S with
 | [.Return (some e) _]=>(match l with|true=>(match e with|.List [c] _=>mKc ck nm f c|_=>false)|false=>mKc ck nm f e)
 | _=>false
noncomputable def mHk (ck:Ck)(nm:Str)(h:lp)(S:yL):Bool:=match h.kn with|some (f,l)=>bX0 ck nm f l S|none=>mHd ck nm h S
def bB5 (h:lp)(c:String):VK->Hp->Prop:=match h.kn with
 | some (_,true)=>λ R H=>∀ p,H p=none->R (.ref p) (upd H p (.lst [.str ⟨(kI c).toArray⟩]))
 | some (_,false)=>λ R H=>R (.str ⟨(kI c).toArray⟩) H
 | none=>λ R H=>R (vV (h.vD c)) H
noncomputable def mT0 (ck:Ck)(d:mn)(S:yL):Bool:=match S with
 | st::rest=>(match st with|.Try tb hs [] [] _=>(match hs with|[eh]=>(match eh with|.ExceptHandler (some en) (some nm) hb _=>(match en,hb with|.Name x _,b::su=>mSs ck d.body tb&&(mX ck d.xb tb&&(noR d.xb&&(noL d.xb&&(d.h.supOk d.c&&(decide (x=((d.h.cls d.c:String):Str))&&(ck.gl x&&(decide (ck.N[d.i]?=some nm)&&((ck.sc.names.lookup nm==some .local)&&(!(nm==("__debug__":Str))&&(!(nm==("__classdict__":Str))&&(mHk ck nm d.h (b::su)&&mSs ck d.tl rest)))))))))))|_,_=>false)|.ExceptHandler (some en) none hb _=>false|_=>false)|_=>false)|_=>false)
 | _=>false
noncomputable def bO4 (ck:Ck):l7->List Stmt->Option (List Stmt)
 | .nil,S=>some S
 | .cons s ss,S=>match S with|x::xs=>(match mS ck s x with|true=>bO4 ck ss xs|false=>none)|[]=>none
noncomputable def mT (ck:Ck)(d:mn)(S:yL):Bool:=match bO4 ck d.pre S with
 | some S1=>mT0 ck d S1
 | none=>false
structure PrOk (Γ:Gm)(cds:yF)(P:kH)(mg:yC)(w:World):Prop where
 df:∀ f d,P.df f=some d->Good Γ cds mg f d
 con:∀ x d,P.con x=some d->∃ v u,mg (x:Str)=some u/\RelV v u/\(∀ m,d.bnd m=true)/\∀ C H,RV Γ C H d v
 bi:∀ x∈bNames,mg x=none
 fa:∀(f:String) (a:Addr),Γ.fa f=some a->mg (f:Str)=some (.ref a)/\∃ oc od fd sl,Γ.K.lookup a=some ⟨oc,od,.func fd,sl⟩
 lg:True
 nd:(Γ.T.map (·.1)).Nodup
 xf:∀ f d,P.xf f=some d->GoodB Γ cds mg f d.ps d.vs λ ck S=>mX ck d.body S
 tf:∀ f d,P.tf f=some d->GoodB Γ cds mg f d.ps d.vs λ ck S=>mT ck d S
 xc:∀ c:String,P.xc c=true->∃ Cc,mg (c:Str)=some (.ref Cc)/\ExcCls Γ.K Cc/\excI Γ.K Cc=true
 xt:∀ c:String,P.xt c=true->∃ Cc,mg (c:Str)=some (.ref Cc)
 xs:∀(c d:String) (Cc D:Addr),P.xc c=true->P.xt d=true->mg (c:Str)=some (.ref Cc)->mg (d:Str)=some (.ref D)->aW Γ.K (.ref Cc) (.ref D)=some (kB c d)
 xm:∀(c d:String) (Cc D:Addr),P.xc c=true->P.xt d=true->mg (c:Str)=some (.ref Cc)->mg (d:Str)=some (.ref D)->bD Γ.K (.ref Cc) (.ref D)=some (kB c d)
 xe:∀(c:String) (Cc:Addr),P.xc c=true->mg (c:Str)=some (.ref Cc)->bD Γ.K (.ref Cc) (.ref Cc)=some true
 v0:∀ c:String,P.xc c=true->mg ("ValueError":Str)=none
 v1:∀(c:String) (Cc:Addr),P.xc c=true->mg (c:Str)=some (.ref Cc)->aW Γ.K (.ref Cc) (.type "ValueError")=some true
 cdc:∀(c:String) kvs,P.cdc c=some kvs->∃ a,mg (c:Str)=some (.ref a)/\∀(prog:aD) (h:Heap),Γ.K.In h->jC prog w h a (strD kvs)
def aq2 (Γ:Gm)(prog:aD)(w:World)(mg:yC)(base:Heap)(F:kF)(n:Nat):Prop:=(∀ f:String,(∀ l s,F.call f l s=.bad) \/
  ∃ a fd ps,FnOk prog w Γ.K mg base CX0 n a fd ps (spV Γ (F.call f))/\mg (f:Str)=some (.ref a)/\bZ Γ.K (.ref a)=true/\Binds Γ.K fd ps []) /\
 True
theorem as6 {C:Nat->Addr}{H:Hp}{n k:Nat}{N:yH}{l:List ko}{vs:List V}(r:RVL Γ C H l vs)(b:kr n l=true)(hN:N.length=l.length+k):RE Γ C H n (l.map some++aj k none) (qr N vs):=by
 have hl:=r.length
 refine⟨?_,λ i d e=>?_⟩
 .unfold qr;simp[hl,hN]
 .by_cases hi:i<l.length
  .rw[aS (by simpa using hi),a9]at e
   have e':l[i]?=some d:=by
    rw[ag hi]at e ⊢
    exact ay e
   obtain⟨v,e1,e2⟩:=r.get e'
   refine⟨ag5 b e',v,?_,e2⟩
   unfold qr
   rw[aS (by rw[aI,hl];exact hi),a9,e1];rfl
  .rw[bT (by simpa using iO hi)]at e
   rw[fC]at e
   split at e<;>cases e
theorem bF7 {z:yF}{P:kH}{prog:aD}{w:World}{F:yC}(G:PrOk Γ z P F w)(n:Nat):∀(c:String) kvs,(kz P n).cdc c=some kvs->∃ a,F (c:Str)=some (.ref a)/\∀ h:Heap,Γ.K.In h->jC prog w h a (strD kvs):=by
 have:(kz P n).cdc=P.cdc:=by cases n<;>rfl
 rw[this]
 intro c kvs e
 obtain⟨a,J,Y⟩:=G.cdc c kvs e
 exact⟨a,J,Y prog⟩
theorem aU5 {F:yF}{P:kH}{prog:aD}{w:World}{mg:yC}{base:Heap}(Z:PrOk Γ F P mg w)(hb:∀ y∈F,bU base y.1 y.2/\BM mg base)(n:Nat)(z:aq2 Γ prog w mg base (kz P n) (n+31))
  {f:String} {st:Stmt} {N ps:yH} {a:Addr} {fd:bN} {lk:String->List Nat->Expr->Bool} (hS:FnScope N ps (defScope st)) (hL:by3 Γ F (f:Str) (defScope st) N fd lk) (G:Value) (hcd:∀ id Y E,lk id Y E=true->fd.code=G) (A:aN) (J:List Env) (sh:ae) (H:Hp) (E:XK) (hr:Room (n+31) (A.deeper (eG (f:Str) (defScope st) sh.heap.objs.size a G))) :
  CG Γ (kz P n) (n+31) (ai8 CX0 prog w Γ.K mg base N (f:Str) (defScope st) a G A J sh H E).nox ⟨N,defScope st,lk⟩:=by
 refine⟨rfl,rfl,hS.nd,rfl,rfl,?_,hr,λ x k e=>.inl e,λ _ _=>rfl,Z.bi,z.1,?_,hL,z.2,Z.fa,bF7 Z n⟩
 .show kJ+1<=n+31
  unfold kJ;omega
 .have:(kz P n).con=P.con:=by cases n<;>rfl
  rw[this];exact Z.con
theorem bH6 {Z:yF}{P:kH}{prog:aD}{w:World}{mg:yC}{base:Heap}(hP:PrOk Γ Z P mg w)(hb:∀ y∈Z,bU base y.1 y.2/\BM mg base)(n:Nat)(a0:aq2 Γ prog w mg base (kz P n) (n+31))
  {f:String} {d:lE} (e:P.df f=some d) {st:Stmt} {N ps:yH} {a:Addr} {fd:bN} {lk:String->List Nat->Expr->Bool} (hD:DefAt Γ.K mg (f:Str) st ps a fd) (hS:FnScope N ps (defScope st)) (h1:ps.length=d.ps) (h2:N.length=d.ps+d.vs) (hm:mSs ⟨N,defScope st,lk⟩ d.body (zw st)=true) (hL:by3 Γ Z (f:Str) (defScope st) N fd lk) :
  FnOk prog w Γ.K mg base CX0 (n+1+31) a fd ps (spV Γ ((kz P (n+1)).call f)):=by
 have J:∀ vs H Q E,spV Γ ((kz P (n+1)).call f) vs H Q E->vs.length=ps.length:=λ vs H Q E q=>by
  obtain⟨C,s,l,d',s',R,r,b,hc,k⟩:=q
  simp only[kz,e]at hc
  split at hc
  .rw[r.length,h1];assumption
  .exact fb hc
 have body:∀(z:Value),(∀ id Y E,lk id Y E=true->fd.code=z)->∀(A:aN) (F:List Env) (sh:ae) (H:Hp) (vs:List V) (Q:VK) (E:XK),Room (n+31) (A.deeper (eG (f:Str) (defScope st) sh.heap.objs.size a z))->spV Γ ((kz P (n+1)).call f) vs H Q E ->
   ∃ t,PSs (ai8 CX0 prog w Γ.K mg base N (f:Str) (defScope st) a z A F sh H E).nox (zw st) t/\t { nx:=λ _ H'=>Q .non H',rt:=Q } (qr N vs) H:=by
  intro z hcd A F sh H vs Q E hr q
  have G:=aU5 hP hb n a0 hS hL (a:=a) z hcd A F sh H E hr
  refine⟨_,sSs d.body (zw st) _ ⟨N,defScope st,lk⟩ G hm,?_⟩
  obtain⟨C,s,l,d',s',R,r,b,hc,k⟩:=q
  simp only[kz,e]at hc
  split at hc
  case isFalse=>exact fb hc
  rename_i J
  obtain⟨c,s1,e1,hc⟩:=aa1 hc
  refine⟨C,l.map some++aj d.vs none,s,c,s1,as6 r b (by rw[h2,J]),R,e1,λ C1 H1 g1 l1 R1=>?_⟩
  cases c with
  | ret v0 =>
   intro v hb rv
   obtain⟨C',g',l',b',r',R'⟩:=zZ R g1 R1 hb rv hc
   exact k v C' H1 g' l' b' r' R'
  | next U =>
   intro W' _
   obtain⟨C',g',l',b',r',R'⟩:=zZ (v0:=.non) R g1 R1 rfl RV.nonI hc
   exact k .non C' H1 g' l' b' r' R'
  | cont U=>exact fb hc
  | brk U=>exact fb hc
 exact hD.fn.ok hS J (λ z=>body z λ id Y E h=>(hL id Y E h).elim)
theorem Fun.okX {CX:CXT}{P:aD}{w:World}{K:ac}{mg:yC}{base:Heap}{x qual:Str}{st:Stmt}{f:Addr}{Z:bN}{N ps:yH}{k:Nat}{sp:Sp}(F:Fun K x qual st f Z)(S:FnScope N ps (defScope st))(len:∀ vs H Q E,sp vs H Q E->vs.length=ps.length)
  (J:∀(G:Value),Z.code=G->∀(A:aN) (z:List Env) (s:ae) (H:Hp) (vs:List V) (Q:VK) (E:XK),Room k (A.deeper (eG qual (defScope st) s.heap.objs.size f G))->sp vs H Q E ->
   ∃ t,PSs (ai8 CX P w K mg base N qual (defScope st) f G A z s H E) (zw st) t/\t { nx:=λ _ H'=>Q .non H',rt:=Q } (qr N vs) H):FnOk P w K mg base CX (k+1) f Z ps sp:=by
 obtain⟨oc,od,kV,a0,pm,an,G,ct,a1,rfl,lk,hc⟩:=F.ex
 exact bF4 lk hc S len λ A z s H vs Q E hr Y=>J G rfl A z s H vs Q E hr Y
theorem bE4 {J:yF}{P:kH}{w:World}{Y:yC}(z:PrOk Γ J P Y w)(n:Nat):XC (kz P n) Γ.K Y:=by
 have e:(kz P n).xc=P.xc:=by cases n<;>rfl
 have e':(kz P n).xt=P.xt:=by cases n<;>rfl
 exact⟨λ c h=>z.xc c (by rw[e]at h;exact h),λ c h=>z.xt c (by rw[e']at h;exact h),λ c d Cc D F G=>z.xs c d Cc D (by rw[e]at F;exact F) (by rw[e']at G;exact G),λ c d Cc D F G=>z.xm c d Cc D (by rw[e]at F;exact F) (by rw[e']at G;exact G),λ c h=>z.v0 c (by rw[e]at h;exact h),λ c Cc h=>z.v1 c Cc (by rw[e]at h;exact h)⟩
theorem bF8 {J:yF}{P:kH}{prog:aD}{w:World}{F:yC}{base:Heap}(hP:PrOk Γ J P F w)(hb:∀ y∈J,bU base y.1 y.2/\BM F base)(n:Nat)(Y:aq2 Γ prog w F base (kz P n) (n+31))(XO:XOk Γ prog w Γ.K F base (kz P n) (n+31))
  {f:String} {d:DV.Xf} (e:P.xf f=some d) {st:Stmt} {N ps:yH} {a:Addr} {fd:bN} {lk:String->List Nat->Expr->Bool} (hD:DefAt Γ.K F (f:Str) st ps a fd) (hS:FnScope N ps (defScope st)) (h1:ps.length=d.ps) (h2:N.length=d.ps+d.vs) (hm:mX ⟨N,defScope st,lk⟩ d.body (zw st)=true) (hL:by3 Γ J (f:Str) (defScope st) N fd lk) :
  FnOk prog w Γ.K F base (CX1 prog w) (n+1+31) a fd ps (spX Γ F ((kz P (n+1)).xcall f)):=by
 refine hD.fn.okX hS (λ vs H Q E q=>?_) λ a0 hcd A z sh H vs Q E hr q=>?_
 .obtain⟨C,s,l,c,s',R,r,b,hc,k⟩:=q
  simp only[kz,e]at hc
  split at hc
  .rw[r.length,h1];assumption
  .cases hc
 .have G:=aU5 hP hb n Y hS hL (a:=a) a0 (λ _ _ _ _=>hcd) A z sh H E hr
  obtain⟨C,s,l,c,s',R,r,b,hc,k⟩:=q
  simp only[kz,e]at hc
  split at hc
  case isFalse=>cases hc
  rename_i Z
  exact⟨_,ao5 (X:=ai8 (CX1 prog w) prog w Γ.K F base N (f:Str) (defScope st) a a0 A z sh H E) G (bE4 hP n) XO bQ6 d.body (zw st) (.inr bU1) (.inr PassesOwn.leaving) hm,C,l.map some++aj d.vs none,s,c,s',as6 r b (by rw[h2,Z]),R,hc,k⟩
theorem bN4 {z:Ck}{nm:Str}{h:lp}{S:yL}{c:String}{s s':km}(k:h.kn=none)(m:mHd z nm h S=true):h.out c s s'=lC s (h.vD c) s':=by
 cases h with
 | noe=>exact ff m
 | _=>simp only[lW,k]
theorem bB4 {h:lp}{f:String}{l:Bool}{c:String}{s s':km}(k:h.kn=some (f,l)):h.out c s s'=match l with|true=>lC s (.ref s'.length) (s'++[.lst [.str (kI c)]])|false=>lC s (.str (kI c)) s':=by
 cases h with
 | noe=>cases k
 | _=>cases l<;>simp only[lW,k]
theorem bQ9 {P:kH}{n:Nat}{f:String}(h:(kz P n).kd f=true):∃ d,P.xf f=some d/\d.ps=1/\d.vs=1/\d.body=.kind:=by
 have e:(kz P n).kd=DV.by1 P:=by cases n<;>rfl
 rw[e]at h
 unfold DV.by1 at h
 split at h
 .rename_i d hd
  simp only[am,beq_iff_eq]at h
  refine⟨d,hd,h.1,h.2.1,?_⟩
  have:=h.2.2
  cases q:d.body<;>rw[q]at this<;>first|rfl|cases this
 .cases h
theorem aO1 (c:String):(kI c).length<=1000:=by
 unfold kI lV
 split
 .rw[aQ]
  cases e:lU[List.findIdx id (DV.ab5.map (kB c))]? with
  | none=>exact cR _
  | some x =>
   have hm:=bS e
   exact(by decide:∀ x∈lU,x.length<=1000) x hm
 .decide
theorem bl1 {a0:yF}{P:kH}{w:World}{n:Nat}{X:Cx}{ck:Ck}{a Cc:Addr}{oe:Obj}(hP:PrOk Γ a0 P X.mg w)(hK:X.K=Γ.K)(G:CH X ck)(hr:Room (n+31) X.A)(xc:XC (kz P n) X.K X.mg){c:String}(Z:(kz P n).xc c=true)(a2:X.mg (c:Str)=some (.ref Cc))(kx:ci X.K (.ref a) (.ref Cc) (λ h=>XAt h a Cc))(hcl:oe.cls=.ref Cc){nm:Str}{i:Nat}(hi:ck.N[i]?=some nm)(hv:Vis X.env.scope nm)(hd:(nm==("__debug__":Str))=false)(hcd:(nm==("__classdict__":Str))=false)
  {f:String} {E:Expr} (hk:(kz P n).kd f=true) (hx:DV.ab5.all (kz P n).xt=true) (h:mKc ck nm f E=true):PE (X.hnd a oe) E (λ W H Q=>W[i]?=some (some (.ref a))/\∀ H',ad3 H H'->Q (.str ⟨(kI c).toArray⟩) H')/\shp E=true:=by
 unfold mKc at h
 split at h
 case h_2=>cases h
 refine⟨?_,rfl⟩
 obtain⟨F,h⟩:=zc h
 obtain⟨h2,Y⟩:=zc h
 have e1:=of_decide_eq_true F
 subst e1
 have z:∀ {px:Pos},PE (X.hnd a oe) (.Name nm px) (bi2 i):=av4 (X:=X.hnd a oe) (by show X.N[i]?=_;rw[G.N];exact hi) hv hd hcd
 have e3:=of_decide_eq_true Y
 subst e3
 obtain⟨d,a4,J,a5,a1⟩:=bQ9 hk
 obtain⟨st,N,ps,f',fd,lk,hD,hS,l1,l2,hm,hL⟩:=hP.xf _ d a4
 rw[a1]at hm
 have hm:be4 ⟨N,defScope st,lk⟩ (zw st):=@of_decide_eq_true _ (cb _) hm
 rw[J]at l1 l2
 obtain⟨p,rfl⟩:∃ p,ps=[p]:=by
  match ps,l1 with
  | [p],_=>exact⟨p,rfl⟩
 obtain⟨g1,g2,g3⟩:=G.gl h2
 rw[<-hK]at hD
 refine be5 (k:=n+30) (t0:=λ H Q=>∀ H',ad3 H H'->Q (.str ⟨(kI c).toArray⟩) H') hD.fn hS hD.bi hr g1 hD.mg g2 z λ a3 _ s H Q _ q=>?_
 have ch:CH (ai8 CX0 X.prog X.w X.K X.mg X.base N (f:Str) (defScope st) f' a3 X.A X.stack s H (λ _ _ _=>False)) ⟨N,defScope st,lk⟩:=by
  refine⟨rfl,λ {x} hx=>?_,G.bi⟩
  unfold Ck.gl at hx
  simp only[am,fo]at hx
  obtain⟨⟨F,h2⟩,Y⟩:=hx
  refine⟨?_,h2,of_decide_eq_false Y⟩
  split at F
  .rename_i e;exact e
  .cases F
 refine⟨_,bw3 ch xc Z a2 kx hcl hS.nd rfl hx hm,?_,λ H' s'=>q H' s'⟩
 unfold qr
 have:N.length=2:=by omega
 show _++aj (N.length - 1) none=_
 rw[this]
 rfl
theorem bW9 {Z:yF}{P:kH}{w:World}{n:Nat}{X:Cx}{Y:Ck}{a Cc:Addr}{oe:Obj}(hP:PrOk Γ Z P X.mg w)(G:CG Γ (kz P n) (n+31) X Y)(xc:XC (kz P n) X.K X.mg){c:String}(F:(kz P n).xc c=true)(J:X.mg (c:Str)=some (.ref Cc))(kx:ci X.K (.ref a) (.ref Cc) (λ h=>XAt h a Cc))(hcl:oe.cls=.ref Cc){nm:Str}{i:Nat}(hi:Y.N[i]?=some nm)(hv:Vis X.env.scope nm)(hd:(nm==("__debug__":Str))=false)(hcd:(nm==("__classdict__":Str))=false)
  {t:lp} {S:yL} (m:mHk Y nm t S=true) (o:t.ok (kz P n).xt=true) (k:t.kok (kz P n).kd=true):PSs (X.hnd a oe) S (tHd i a (bB5 t c)):=by
 unfold mHk at m
 unfold DV.Hd.kok at k
 have a0:∀ {h:lp} {f:String} {l:Bool},h.kn=some (f,l)->h.ok (kz P n).xt=true->DV.ab5.all (kz P n).xt=true:=λ {h}=>by
  induction h with
  | kin f l=>exact λ _ z=>z
  | sup x h ih=>exact λ e z=>ih e (zc z).2
  | _=>exact λ e=>by cases e
 cases q:t.kn with
 | none =>
  rw[q]at m
  have:=bO0 G xc F J kx hcl hi hv hd hcd m o
  unfold bB5
  rw[q]
  exact this
 | some y =>
  obtain⟨f,l⟩:=y
  rw[q]at m k
  have m:bX0 Y nm f l S=true:=m
  have hx:=a0 q o
  unfold bX0 at m
  split at m
  case h_2=>cases m
  unfold bB5
  rw[q]
  cases l with
  | false =>
   exact(an9 (ar2 (bl1 hP G.K G.ch G.room xc F J kx hcl hi hv hd hcd k hx m).1)).imp λ D W H q=>q
  | true =>
   dsimp only at m
   split at m
   case h_2=>cases m
   obtain⟨k1,k2⟩:=bl1 (a:=a) (oe:=oe) hP G.K G.ch G.room xc F J kx hcl hi hv hd hcd k hx m
   exact(an9 (ar2 (aq9 (zt k1 ac5 (zb k2))))).imp λ D W H q=>⟨q.1,λ H1 s1=>⟨eS (al3 (by show 1<=1000;decide)),λ p hp=>q.2 H1 s1 p hp⟩⟩
theorem bH1 {z:Ck}{nm:Str}{c:String}{C:Nat->Addr}{H:Hp}{n:Nat}:∀ {h:lp} {S:yL},mHd z nm h S=true->(h.vD c).bnd n=true/\RV Γ C H (h.vD c) (vV (h.vD c))
 | .ret _,S,m=>ff m
 | .iff _ _ _,S,m=>ff m
 | .nob b,S,_=>⟨rfl,RV.blI⟩
 | .noe,S,_=>⟨rfl,RV.nonI⟩
 | .iffN _ _,S,m=>ff m
 | .aoN _ _,S,m=>ff m
 | .sup x h,S,m=>bH1 (h:=h) m
 | .kin _ _,S,m=>ff m
theorem bl4 {F:kF}{n:Nat}{X:Cx}{z:Ck}{t:TS}(G:CG Γ F n X z):∀ {pre:l7} {S J:yL},bO4 z pre S=some J->PSs X J t->PSs X S (bU0 (TSv Γ (lj F pre)) t)
 | .nil,S,J,h,h1=>by
  cases h
  refine h1.imp λ D W H q=>?_
  obtain⟨C,U,s,c,s',E,R,e,q⟩:=q
  cases e
  exact q.here R W E
 | .cons s ss,S,J,h,h1=>by
  cases S with
  | nil=>exact absurd h (by nofun)
  | cons x xs =>
   have h:(match mS z s x with|true=>bO4 z ss xs|false=>none)=some J:=h
   cases hm:mS z s x with
   | false=>rw[hm]at h;exact absurd h (by nofun)
   | true =>
    rw[hm]at h
    exact(zu (sS s _ X z G hm) (bl4 G h h1)).imp λ D W H q=>bk4 (D:={ D with nx:=t D }) (TSv.eq (λ U s=>rfl) q)
theorem bG7 {b3:yF}{P:kH}{prog:aD}{w:World}{J:yC}{base:Heap}(hP:PrOk Γ b3 P J w)(hb:∀ y∈b3,bU base y.1 y.2/\BM J base)(n:Nat)(b1:aq2 Γ prog w J base (kz P n) (n+31))(XO:XOk Γ prog w Γ.K J base (kz P n) (n+31))
  {f:String} {d:mn} (e0:P.df f=none) (e:P.tf f=some d) {st:Stmt} {N ps:yH} {a:Addr} {fd:bN} {lk:String->List Nat->Expr->Bool} (hD:DefAt Γ.K J (f:Str) st ps a fd) (hS:FnScope N ps (defScope st)) (h1:ps.length=d.ps) (h2:N.length=d.ps+d.vs) (hm:mT ⟨N,defScope st,lk⟩ d (zw st)=true) (hL:by3 Γ b3 (f:Str) (defScope st) N fd lk) :
  FnOk prog w Γ.K J base CX0 (n+1+31) a fd ps (spV Γ ((kz P (n+1)).call f)):=by
 refine hD.fn.okX hS (λ vs H Q E q=>?_) λ F hcd A z sh H vs Q E hr q=>?_
 .obtain⟨C,s,l,d',s',R,r,b,hc,k⟩:=q
  simp only[kz,e0,e]at hc
  split at hc
  .rw[r.length,h1];assumption
  .exact fb hc
 have G:=aU5 hP hb n b1 hS hL (a:=a) F (λ _ _ _ _=>hcd) A z sh H E hr
 have xc:=bE4 hP n
 obtain⟨C,s,l,d',s',R,r,b,hc,k⟩:=q
 simp only[kz,e0,e]at hc
 split at hc
 case isFalse=>exact fb hc
 rename_i Z
 have E0:=as6 r b (k:=d.vs) (N:=N) (by rw[h2,Z])
 unfold mT at hm
 split at hm
 case h_2=>exact ff hm
 rename_i S1 c0
 unfold DV.bx3 at hc
 split at hc
 case h_2=>exact fb hc
 rename_i U0 s0 ep
 suffices key:∃ t,PSs (ai8 CX0 prog w Γ.K J base N (f:Str) (defScope st) a F A z sh H E).nox S1 t/\∀ C0 W0 H0,Gr C s H C0 s0 H0->s.length<=s0.length->Rp Γ C0 H0 s0->RE Γ C0 H0 s0.length U0 W0->t { nx:=λ _ H'=>Q .non H',rt:=Q } W0 H0 by
  obtain⟨t,ht,kt⟩:=key
  refine⟨_,(bl4 (X:=(ai8 CX0 prog w Γ.K J base N (f:Str) (defScope st) a F A z sh H E).nox) G c0 ht).nox,?_⟩
  exact⟨C,l.map some++aj d.vs none,s,.next U0,s0,E0,R,ep,λ C1 H1 g1 l1 R1 W1 E1=>kt C1 W1 H1 g1 l1 R1 E1⟩
 unfold mT0 at hm
 split at hm
 case h_2=>exact ff hm
 rename_i d3 rest
 split at hm
 case h_2=>exact ff hm
 rename_i tb hs tp
 split at hm
 case h_2=>exact ff hm
 rename_i eh
 have run:mSs ⟨N,defScope st,lk⟩ d.body tb=true->mSs ⟨N,defScope st,lk⟩ d.tl rest=true->((lj (kz P n) d.body U0 s0).bind λ c s1=>match c with
  | .ret v=>lC s v s1
  | .next U=>(lj (kz P n) d.tl U s1).bind λ c s2=>match c with
   | .ret v=>lC s v s2
   | .next _=>lC s .non s2
   | _=>.bad
  | _=>.bad)=.ok d' s'->∃ t,PSs (ai8 CX0 prog w Γ.K J base N (f:Str) (defScope st) a F A z sh H E).nox (.Try tb [eh] [] [] tp::rest) t/\∀ C0 W0 H0,Gr C s H C0 s0 H0->s.length<=s0.length->Rp Γ C0 H0 s0->RE Γ C0 H0 s0.length U0 W0->t { nx:=λ _ H'=>Q .non H',rt:=Q } W0 H0:=λ m1 a6 hc=>by
  refine⟨_,(zu (bv7 (X:=(ai8 CX0 prog w Γ.K J base N (f:Str) (defScope st) a F A z sh H E).nox) rfl (sSs d.body tb _ ⟨N,defScope st,lk⟩ G m1)) (sSs d.tl rest _ ⟨N,defScope st,lk⟩ G a6)),λ C0 W0 H0 g0 l0 R0 Ea=>?_⟩
  obtain⟨c,s1,e1,hc⟩:=aa1 hc
  refine⟨C0,U0,s0,c,s1,Ea,R0,e1,λ C1 H1 g1 l1 R1=>?_⟩
  replace g1:=g0.trans g1 l0
  replace l1:=al l0 l1
  cases c with
  | ret v0 =>
   intro v hb rv
   obtain⟨C',g',l',b',r',R'⟩:=zZ R g1 R1 hb rv hc
   exact k v C' H1 g' l' b' r' R'
  | next U =>
   intro W' E1
   obtain⟨c,s2,e2,hc⟩:=aa1 hc
   refine⟨C1,U,s1,c,s2,E1,R1,e2,λ C2 H2 g2 l2 R2=>?_⟩
   cases c with
   | ret v0 =>
    intro v hb rv
    obtain⟨C',g',l',b',r',R'⟩:=zZ R (g1.trans g2 l1) R2 hb rv hc
    exact k v C' H2 g' l' b' r' R'
   | next U =>
    intro W' _
    obtain⟨C',g',l',b',r',R'⟩:=zZ (v0:=.non) R (g1.trans g2 l1) R2 rfl RV.nonI hc
    exact k .non C' H2 g' l' b' r' R'
   | cont U=>exact fb hc
   | brk U=>exact fb hc
  | cont U=>exact fb hc
  | brk U=>exact fb hc
 split at hm
 .rename_i en nm d4 hp
  split at hm
  case h_2=>exact ff hm
  rename_i x np b0 su
  obtain⟨m1,hm⟩:=zc hm
  obtain⟨m2,hm⟩:=zc hm
  obtain⟨m3,hm⟩:=zc hm
  obtain⟨d1,hm⟩:=zc hm
  obtain⟨d2,hm⟩:=zc hm
  obtain⟨m4,hm⟩:=zc hm
  obtain⟨m5,hm⟩:=zc hm
  obtain⟨m6,hm⟩:=zc hm
  obtain⟨m7,hm⟩:=zc hm
  obtain⟨m8,hm⟩:=zc hm
  obtain⟨m9,hm⟩:=zc hm
  obtain⟨Y,a6⟩:=zc hm
  have ex:=of_decide_eq_true m4
  have ei:=of_decide_eq_true m6
  subst ex
  unfold DV.be7 at hc
  split at hc
  .rename_i c s1 hx
   split at hc
   case isFalse=>exact fb hc
   rename_i b4
   obtain⟨a2,a0,hok,c3⟩:=b4
   unfold DV.Tf.tk at a2
   obtain⟨Cc,hC,hE,hI⟩:=xc.at_ _ a0
   obtain⟨g1,g2,g3⟩:=G.gl m5
   have a5:(defScope st).names.lookup nm=some .local:=eq_of_beq m7
   have c4:(nm==("__debug__":Str))=false:=by simpa using m8
   have c1:(nm==("__classdict__":Str))=false:=by simpa using m9
   have kx:∀ a',ci Γ.K (.ref a') (.ref Cc) (λ h=>XAt h a' Cc):=λ a'=>bp9 hE hI
   obtain⟨D',a4,hexm⟩:∃ D',J ((d.h.cls d.c:String):Str)=some (.ref D')/\bD Γ.K (.ref Cc) (.ref D')=some true:=by
    have c2:(kz P n).xc=P.xc:=by cases n<;>rfl
    cases hh:d.h with
    | sup x' h' =>
     rw[hh]at hok a2
     have b7:(kz P n).xt x'=true:=(zc hok).1
     obtain⟨D',a4⟩:=xc.cls x' b7
     refine⟨D',a4,?_⟩
     rw[xc.exm c x' Cc D' a0 b7 hC a4]
     exact congrArg some a2
    | _ =>
     rw[hh]at a2
     have ec:c=d.c:=eq_of_beq a2
     subst ec
     exact⟨Cc,hC,hP.xe _ Cc (by rw[c2]at a0;exact a0) hC⟩
   refine⟨_,(zu (br9 (X:=(ai8 CX0 prog w Γ.K J base N (f:Str) (defScope st) a F A z sh H E).nox) (Γ:=Γ) (Cc:=Cc) (m:=kX (kz P n) d.xb) (b:=bB5 d.h c) (D':=D') (i:=d.i) rfl rfl rfl hexm g1 a4 g2 hS.nd ei a5 (λ pn Ww E1 b6=>?_) λ a' oe hcl=>bW9 hP G xc a0 hC (kx a') hcl ei (.inl a5) c4 c1 Y hok c3) qg),λ C0 W0 H0 g0 l0 R0 Ea=>?_⟩
   .have G':CG Γ (kz P n) (n+31) ({ (ai8 CX0 prog w Γ.K J base N (f:Str) (defScope st) a F A z sh H E).nox with pn:=pn,xe:=Ww }:Cx).nox ⟨N,defScope st,lk⟩:=⟨G.K,G.N,G.nd,rfl,G.calm,G.deep,G.room,G.sc,G.fn,G.bi,G.call,G.con,G.lam,G.cl,G.fa,G.cdc⟩
    exact ao5 (X:={ (ai8 CX0 prog w Γ.K J base N (f:Str) (defScope st) a F A z sh H E).nox with pn:=pn,xe:=Ww }) G' xc XO b6 d.xb tb (.inl m3) (.inl d1) m2
   .refine⟨C0,U0,s0,c,s1,Ea,R0,hx,λ C' H' a' Cc' g' l' R' a3=>?_⟩
    replace g':=g0.trans g' l0
    replace l':=al l0 l'
    have a3:J (c:Str)=some (.ref Cc'):=a3
    rw[hC]at a3
    cases a3
    refine⟨rfl,λ b5 same=>?_⟩
    obtain⟨gs,Rs⟩:=R'.same same
    have Z:(kI c).length<=kD:=al (aO1 c) (by decide)
    unfold bB5
    cases hq:d.h.kn with
    | none =>
     unfold mHk at Y
     rw[hq]at Y
     have Y:mHd ⟨N,defScope st,lk⟩ nm d.h (b0::su)=true:=Y
     rw[bN4 hq Y]at hc
     have vr:=bH1 (Γ:=Γ) (c:=c) (C:=C') (H:=b5) (n:=s1.length) Y
     obtain⟨C2,a1,l2,b2,r2,R2⟩:=zZ (v0:=d.h.vD c) R (g'.trans gs l') Rs vr.1 vr.2 hc
     exact k _ C2 b5 a1 l2 b2 r2 R2
    | some y =>
     obtain⟨fk,l⟩:=y
     rw[bB4 hq]at hc
     cases l with
     | false =>
      obtain⟨C2,a1,l2,b2,r2,R2⟩:=zZ (v0:=.str (kI c)) R (g'.trans gs l') Rs rfl (RV.strI Z) hc
      exact k _ C2 b5 a1 l2 b2 r2 R2
     | true =>
      intro p hp
      obtain⟨gn,Rn⟩:=Rs.new (o:=.lst [.str (kI c)]) (u:=.lst [.str ⟨(kI c).toArray⟩]) hp rfl λ C' H' g e=>⟨[_],e,.cons (RV.strI Z) .nil⟩
      obtain⟨C2,a1,l2,b2,r2,R2⟩:=zZ (v0:=.ref s1.length) R ((g'.trans gs l').trans gn l') Rn (by unfold kA;simp) (v:=.ref p) (by unfold RV;simp) hc
      exact k _ C2 _ a1 l2 b2 r2 R2
  .exact run m1 a6 hc
 .exact ff hm
 .exact ff hm
theorem aI7 {F:yF}{P:kH}{prog:aD}{w:World}{mg:yC}{base:Heap}(z:PrOk Γ F P mg w)(hb:∀ y∈F,bU base y.1 y.2/\BM mg base):∀ n:Nat,aq2 Γ prog w mg base (kz P n) (n+31)/\XOk Γ prog w Γ.K mg base (kz P n) (n+31)
 | 0=>⟨⟨λ f=>.inl λ l s=>rfl,trivial⟩,λ f=>.inl λ l s=>rfl⟩
 | n+1=>by
  obtain⟨ih,XO⟩:=aI7 (prog:=prog) (w:=w) (base:=base) z hb n
  refine⟨⟨λ f=>?_,trivial⟩,λ f=>?_⟩
  .cases e:P.df f with
   | none =>
    cases e2:P.tf f with
    | none=>exact .inl λ l s=>by simp only[kz,e,e2]
    | some d =>
     obtain⟨st,N,ps,a,Z,lk,hD,G,Y,h2,hm,J⟩:=z.tf f d e2
     exact .inr ⟨a,Z,ps,bG7 z hb n ih XO e e2 hD G Y h2 hm J,hD.mg,hD.fn.kp,hD.bi⟩
   | some d =>
    obtain⟨st,N,ps,a,Z,lk,hD,G,Y,h2,hm,J⟩:=z.df f d e
    exact .inr ⟨a,Z,ps,bH6 z hb n ih e hD G Y h2 hm J,hD.mg,hD.fn.kp,hD.bi⟩
  .cases e:P.xf f with
   | none=>exact .inl λ l s=>by simp only[kz,e]
   | some d =>
    obtain⟨st,N,ps,a,Z,lk,hD,G,Y,h2,hm,J⟩:=z.xf f d e
    exact .inr ⟨a,Z,ps,bF8 z hb n ih XO e hD G Y h2 hm J,hD.mg,hD.fn.kp,hD.bi⟩
theorem bu9 {z:yF}{P:kH}{prog:aD}{w:World}{F:yC}{base:Heap}(G:PrOk Γ z P F w)(hb:∀ y∈z,bU base y.1 y.2/\BM F base)(n:Nat):aq2 Γ prog w F base (kz P n) (n+31):=(aI7 G hb n).1
def spT (Γ:Gm):Sp:=λ vs H Q _=>∃(a:Addr) (ns:List Int),vs=[.ref a]/\SqF Γ.K H a (ns.map V.int)/\ns.length<=63/\TabsH Γ.T H/\∀ H',Q (.bl true) H'
theorem aG7 {C:Nat->Addr}{H:Hp}:∀ ns:List Int,RVL Γ C H (ns.map DV.D.int) (ns.map V.int)
 | []=>.nil
 | n::ns=>.cons RV.intI (aG7 ns)
theorem av9 {m:Nat}:∀ ns:List Int,kr m (ns.map DV.D.int)=true
 | []=>rfl
 | n::ns=>by rw[bz];unfold kr;rw[av9 ns];rfl
theorem bz5 {P:kH}{k:Nat}(h:∀ ns:List Int,ns.length<=63->∃ s',(kz P k).call "law" [.ref 0] [.ro (ns.map DV.D.int)]=.ok (.bl true) s')(vs:List V)(H:Hp)(Q:VK)(E:XK)(q:spT Γ vs H Q E):spV Γ ((kz P k).call "law") vs H Q E:=by
 obtain⟨a,ns,rfl,z,hl,hT,F⟩:=q
 obtain⟨s',hs⟩:=h ns hl
 refine⟨λ _=>a,[.ro (ns.map DV.D.int)],[.ref 0],.bl true,s',⟨λ i j o G e e' m m' _=>?_,λ i o e=>?_,λ i o e=>?_,hT⟩,.cons RV.refI .nil,?_,hs,λ v C' H' g l b r R=>?_⟩
 .cases i with
  | zero=>cases e;cases m
  | succ i=>cases e
 .cases i with
  | zero=>cases e;exact⟨_,z,aG7 ns⟩
  | succ i=>cases e
 .cases i with
  | zero=>cases e;unfold kC;exact av9 ns
  | succ i=>cases e
 .unfold kr kA kr;rfl
 .rw[r.blE];exact F H'
theorem aF6 {z:yF}{F:yC}:∀ {tbl:List (String×lE)},(∀ p∈tbl,Good Γ z F p.1 p.2)->∀ f d,tbl.lookup f=some d->Good Γ z F f d
 | [],_,f,d,h=>by cases h
 | (g,e)::tbl,H,f,d,h=>by
  rw[aP]at h
  cases q:f==g with
  | true =>
   rw[q]at h
   cases h
   rw[eq_of_beq q]
   exact H (g,_) (aw ..)
  | false =>
   rw[q]at h
   exact aF6 (λ p hp=>H p (ak _ hp)) f d h
def bb7 (Γ:Gm)(mg:yC)(x:String)(d:ko):Prop:=∃ v u,mg (x:Str)=some u/\RelV v u/\(∀ m,d.bnd m=true)/\∀ C H,RV Γ C H d v
theorem aS1 {z:yC}:∀ {tbl:List (String×ko)},(∀ p∈tbl,bb7 Γ z p.1 p.2)->∀ f d,tbl.lookup f=some d->bb7 Γ z f d
 | [],_,f,d,h=>by cases h
 | (g,e)::tbl,H,f,d,h=>by
  rw[aP]at h
  cases q:f==g with
  | true =>
   rw[q]at h
   cases h
   rw[eq_of_beq q]
   exact H (g,_) (aw ..)
  | false =>
   rw[q]at h
   exact aS1 (λ p hp=>H p (ak _ hp)) f d h
theorem aP1 {z:yC}{x:String}{i:Int}{t:Tok}(h:z (x:Str)=some (.int i t)):bb7 Γ z x (.int i):=⟨.int i,_,h,⟨t,rfl⟩,λ _=>rfl,λ _ _=>RV.intI⟩
inductive ConV (Γ:Gm):ko->Value->Prop where
 | int (i:Int) (t:Tok):ConV Γ (.int i) (.int i t)
 | str (x:List Nat) (t:Tok) (h:x.length<=1000):ConV Γ (.str x) (.str ⟨x.toArray⟩ t)
inductive ConL (Γ:Gm):List ko->List Value->Prop where
 | nil:ConL Γ [] []
 | cons {d v l vs} (a:ConV Γ d v) (b:ConL Γ l vs):ConL Γ (d::l) (v::vs)
theorem bq8 {mg:yC}{x:String}{a:Addr}{o:Obj}{its:yG}{n:Nat}{l:List ko}(h:mg (x:Str)=some (.ref a))(hk:Γ.K.lookup a=some o)(hc:o.cls=.type "tuple")(hd:o.data=.seq its.toArray n)(hz:its.length<=1000)
  (hl:ConL Γ l its) (Z:kR l=false:=by rfl):bb7 Γ mg x (.tup l):=by
 have key:∃ F,Vals F its/\(∀ m,kr m l=true)/\∀ C H,RVL Γ C H l F:=by
  clear hd hz Z
  induction hl with
  | nil=>exact⟨[],.nil,λ _=>rfl,λ _ _=>.nil⟩
  | cons a b ih =>
   obtain⟨F,J,Y,G⟩:=ih
   cases a with
   | int i t=>exact⟨.int i::F,.cons ⟨t,rfl⟩ J,λ m=>by unfold kr;rw[Y];rfl,λ C H=>.cons RV.intI (G C H)⟩
   | str x t h=>exact⟨.str ⟨x.toArray⟩::F,.cons ⟨t,rfl⟩ J,λ m=>by unfold kr;rw[Y];rfl,λ C H=>.cons (RV.strI (by unfold kD;omega)) (G C H)⟩
 obtain⟨F,J,Y,G⟩:=key
 refine⟨.ref a,_,h,rfl,λ m=>by unfold kA;exact Y m,λ C H=>RV.tupC (.inr ⟨o,its.toArray,n,hk,hc,hd,?_,J⟩) (λ z=>by rw[Z]at z;cases z) (G C H)⟩
 rw[aq];exact aH4 hz
end
theorem aL1 {P:aD}{w:World}{K:ac}{mg mb:yC}{k:Nat}{fa a:Addr}{fd:bN}{x:Str}{sp:Sp}{G:ae}{vs:yG}{ns:List Int}{tabs:yF}
  (KX:K.In G.heap) (c1:G.heap.Ns aV mg) (hb:G.heap.Ns fI mb) (d4:∀ x:Str,x ≠ "__name__"->mb x=a7 x) (b0:G.heap.NoLimit) (hg:G.gens=#[]) (d2:BM mg G.heap) (hT:jD tabs G.heap) (e4:jE K=true)
  (ha:G.heap.get? a=some { cls:=.type "list",data:=.seq vs.toArray }) (hi:jg vs ns) (hl:ns.length<=aM) (hr:Room k gC)
  (F:∀ base:Heap,K.In base->base.Ns aV mg->BM mg base->(∀ q∈tabs,bU base q.1 q.2)->FnOk P w K mg base CX0 k fa fd [x] sp) (a3:∀(s:ae) (u:Value),jf s fd ⟨[u],[]⟩ [(x,u)])
  (d1:∀ H:Hp,(∀ q∈tabs,H q.2=some (.tbl #[]))->SqL K H a (ns.map V.int)->(∀ u,H a=some u->(∃ o xs,u=.frz o (.lst xs))\/∃ ps,u=.tbl ps)->sp [.ref a] H (λ v _=>v=.bl true) E0) :
  gz (model P w) gC (.call (.ref fa) ⟨[.ref a],[]⟩) (λ r s'=>r=.ok (.ret (.bool true))/\OldK G.heap s'.heap/\s'.os=G.os/\eR s'.gens) G:=by
 have rv:=aA0 hi
 have c0:=hi.length
 have J:∀ b,b∈tabs.map (·.2)->G.heap.get? b=some (gy #[]):=λ b h=>by
  obtain⟨q,hq,rfl⟩:=bC.mp h
  exact(hT q hq).2
 have a0:∀ H:Hp,(∀ b u,H b=some u->(b=a/\∃ o xs,u=.frz o (.lst xs))\/(b∈tabs.map (·.2)/\u=.tbl #[]))->(∀ q∈tabs,H q.2=some (.tbl #[]))->SqL K H a (ns.map V.int)->HOk P w H G.heap->(H a≠none->K.lookup a=none) ->
   gz (model P w) gC (.call (.ref fa) ⟨[.ref a],[]⟩) (λ r s'=>r=.ok (.ret (.bool true))/\OldK G.heap s'.heap/\s'.os=G.os/\eR s'.gens) G:=by
  intro H hO c4 hS hok hK
  have un:∀ b o,G.heap.get? b=some o->o.cls≠.type "list"->(∀ vs,o.data≠.fields vs)->H b=none:=λ b o e n1 n2=>by
   cases q:H b with
   | none=>rfl
   | some u =>
    rcases hO b u q with⟨z,_⟩|⟨z,_⟩
    .rw[z,ha]at e;cases e;exact absurd rfl n1
    .rw[J b z]at e;cases e;exact absurd rfl (n2 #[])
  have Z:∀ {b:Addr} {m:yC},G.heap.Ns b m->(aY2 G.heap H).Ns b m:=λ {b m} ⟨o,es,ep,e,d,r⟩=>by
   refine⟨o,es,ep,aj0 e ?_,d,r⟩
   cases q:H b with
   | none=>rfl
   | some u =>
    rcases hO b u q with⟨z,_⟩|⟨z,_⟩
    .rw[z,ha]at e;cases e;cases d
    .rw[J b z]at e;cases e;cases d
  have a6:K.In (aY2 G.heap H):=λ b o e=>aj0 (KX b o e) (by
   cases q:H b with
   | none=>rfl
   | some u =>
    rcases hO b u q with⟨z,_⟩|⟨z,_⟩
    .subst z
     rw[hK (by rw[q];simp)]at e;cases e
    .have e2:=KX b o e
     rw[J b z]at e2
     have h2:=aB.mp e4 (b,o) (PySem.W.mem_of_lookupK e)
     have e3:o=gy #[]:=(ay e2).symm
     subst e3
     exact absurd (show false=true from h2) aC)
  have hM:Mod K mg (aY2 G.heap H):=⟨a6,Z c1,⟨mb,Z hb,d4⟩,let⟨mc,h1,h2⟩:=b0;⟨mc,Z h1,h2⟩⟩
  have c3:BM mg (aY2 G.heap H):=by
   obtain⟨bm,ob,b1,b2,b3,b4,b5,b6⟩:=d2
   exact⟨bm,ob,b1,b2,aj0 b3 (un bm ob b3 (by rw[b4];nofun) (by rw[b6];nofun)),b4,b5,b6⟩
  have c2:∀ q∈tabs,bU (aY2 G.heap H) q.1 q.2:=λ q hq=>by
   obtain⟨o,d3,b7,tf,a5,tg,e5,text,tt,e1,r1,r2⟩:=(hT q hq).1
   refine⟨o,d3,b7,tf,a5,tg,e5,text,tt,aj0 e1 ?_,r1,r2⟩
   cases q2:H q.1 with
   | none=>rfl
   | some u =>
    rcases hO _ u q2 with⟨z,_⟩|⟨z,_⟩
    .rw[z,ha]at e1;cases e1;exact absurd r1 (by simp)
    .rw[J _ z]at e1;cases e1;exact absurd r1 (by simp)
  have e0:Env0 P w K mg (aY2 G.heap H) gC [] G H:=⟨rfl,hM,λ b o e=>bp7 e,Nat.le_of_eq (aT0 _ _),trivial,λ b hb=>absurd (show b∈([]:List Addr)from hb) (by simp),hok,.of_eq hg⟩
  refine fN ((F _ a6 (Z c1) c3 c2).run gC [] G H ⟨[.ref a],[]⟩ [.ref a] [.ref a] _ _ hr e0 (a3 G (.ref a)) (.cons rfl .nil) (d1 H c4 hS (λ u e=>(hO a u e).elim (λ z=>.inl z.2) (λ z=>.inr ⟨_,z.2⟩)))) λ r s' h=>?_
  cases r with
  | error e=>exact a8 h
  | ok fl =>
   cases fl with
   | next=>exact a8 h
   | brk=>exact a8 h
   | cont=>exact a8 h
   | ret u =>
    obtain⟨v,H',os,bare,a4,a1,r',q⟩:=h
    have q':v=.bl true:=q
    subst q'
    obtain rfl:u=Value.bool true:=r'
    have key:∀ b o,G.heap.get? b=some o->asItWas G.heap s'.heap b o/\∃ o',s'.heap.get? b=some o':=λ b o e=>by
     cases q:H b with
     | none =>
      have z:=a4.keep b o e q (by intro z;exact absurd (show b∈([]:List Addr)from z) (by simp)) (by simp)
      exact⟨.inl z,o,z⟩
     | some u =>
      rcases hO b u q with⟨_,ob,xs,z⟩|⟨z,z2⟩
      .subst z
       have z2:=a4.frzs b ob _ q
       obtain⟨e1,_⟩:=hok b _ q
       obtain⟨e2,_⟩:=a1 b _ z2
       rw[e]at e1;cases e1
       exact⟨.inl e2,_,e2⟩
      .subst z2
       obtain⟨a2,z3⟩:=a4.tbls b _ q
       have g:s'.heap.get? b=some { cls:=.none,data:=.fields (#[]++a2) }:=a1 b _ z3
       have e1:=J b z
       rw[e]at e1;cases e1
       obtain⟨p,hp,ep⟩:=bC.mp z
       refine⟨.inr (.inl ⟨?_,rfl,#[],a2,rfl,g⟩),_,g⟩
       have t:=((hT p hp).1.tab (hT p hp).2).isCodeTable
       rw[ep]at t
       exact t
    exact⟨rfl,⟨λ b o e=>(key b o e).1,λ b o e=>(key b o e).2⟩,os,bare⟩
 have tbl:∀ b,b∈tabs.map (·.2)->b≠a:=λ b h z=>by
  have e:=J b h
  rw[z,ha]at e;cases e
 cases hk:K.lookup a with
 | some o =>
  have e:=KX a o hk
  rw[ha]at e
  cases e
  refine a0 (λ b=>if b∈tabs.map (·.2)then some (.tbl #[])else none) (λ b u z=>?_) (λ q hq=>if_pos (eO hq)) (.inr ⟨_,vs.toArray,_,hk,rfl,rfl,rfl,by rw[aq,c0];exact hl,by simpa using rv⟩) (λ b u z=>?_) λ z=>?_
  .by_cases hb:b∈tabs.map (·.2)
   .have Y:=(if_pos hb).symm.trans z
    cases Y
    exact .inr ⟨hb,rfl⟩
   .have Y:=(if_neg hb).symm.trans z
    cases Y
  .by_cases hb:b∈tabs.map (·.2)
   .have Y:=(if_pos hb).symm.trans z
    cases Y
    exact J b hb
   .have Y:=(if_neg hb).symm.trans z
    cases Y
  .exact absurd (if_neg λ y=>tbl a y rfl) z
 | none =>
  refine a0 (λ b=>if b=a then some (.frz { cls:=.type "list",data:=.seq vs.toArray } (.lst (ns.map V.int)))else if b∈tabs.map (·.2)then some (.tbl #[])else none) (λ b u z=>?_) (λ q hq=>?_) (.inl (.inr ⟨{ cls:=.type "list",data:=.seq vs.toArray },if_pos rfl⟩)) (λ b u z=>?_) λ _=>hk
  .by_cases hb:b=a
   .have Y:=(if_pos hb).symm.trans z
    cases Y
    exact .inl ⟨hb,_,_,rfl⟩
   .have Y:=(if_neg hb).symm.trans z
    by_cases hc:b∈tabs.map (·.2)
    .rw[if_pos hc]at Y;cases Y;exact .inr ⟨hc,rfl⟩
    .rw[if_neg hc]at Y;cases Y
  .have hm:q.2∈tabs.map (·.2):=eO hq
   show(if _ then _ else if _ then _ else _)=_
   rw[if_neg (tbl _ hm),if_pos hm]
  .by_cases hb:b=a
   .have Y:=(if_pos hb).symm.trans z
    cases Y
    subst hb
    exact⟨ha,by rw[aI];exact hl,vs,_,rv,ha⟩
   .have Y:=(if_neg hb).symm.trans z
    by_cases hc:b∈tabs.map (·.2)
    .rw[if_pos hc]at Y;cases Y;exact J b hc
    .rw[if_neg hc]at Y;cases Y
theorem aX6 {ts:List Addr}{l:cX}{n k:Nat}{q:aD}{loose:yH}{XP:(Str->Option Value)->Heap->Prop}{YP:World->Heap->Prop}{d:DefRec}{K:Params->ac}{sp:ac->Sp}{x:Str}(names:yH)
  (hn:l.most=some n) (a6:n<=aM) (a3:d.params.defaults=[]) (hr:Room k gC)
  (hY:∀(w:World) (h:Heap),YP w h->(K w.params).In h/\∀ P∈ts,h.get? P=some (gy #[])) (a0:∀ w:World,bz1 (K w.params) names ts=true) (a4:∀ w:World,jE (K w.params)=true)
  (F:∀(w:World) (mg:yC) (fa:Addr) (h:Heap),(K w.params).In h->h.Ns aV mg->mg d.name=some (.ref fa) ->
   ∃ fd:bN,(∀(s:ae) (u:Value),jf s fd ⟨[u],[]⟩ [(x,u)]) /\
    ∀ base:Heap,(K w.params).In base->base.Ns aV mg->BM mg base->bw5 (K w.params) names base->FnOk l.prog w (K w.params) mg base CX0 k fa fd [x] (sp (K w.params)))
  (a2:∀(K:ac) (H:Hp) (a:Addr) (ns:List Int),ns.length<=n->bp4 K names H->SqL K H a (ns.map V.int)->(∀ u,H a=some u->(∃ o xs,u=.frz o (.lst xs))\/∃ ps,u=.tbl ps)->sp K [.ref a] H (λ v _=>v=.bl true) E0) :
  jL q loose XP YP l.row.toRowW d [] (λ f vs=>jj f vs):=by
 refine Att.attach_call hn a3 λ w s₀ s₁ mg mb fa o pm cd b1 a vs ns G Y ho hd hcd b0 a1 Z J hg=>?_
 obtain⟨KX,a5⟩:=hY w _ Y
 obtain⟨fd,hb,hF⟩:=F w mg fa _ KX G.T.g b0
 have hT:jD ((ay6 (K w.params) names).map (·.2)) s₁.heap:=λ p hp=>by
  obtain⟨y,hy,rfl⟩:=bC.mp hp
  obtain⟨h1,h2⟩:=ap8.mp hy
  have z:=aB.mp (a0 w) y.1 h1
  rw[h2]at z
  have z':(iR (K w.params) y.2.1 y.2.2&&ts.contains y.2.2)=true:=z
  rw[am]at z'
  exact⟨PySem.W.codeHd_of_K KX z'.1,a5 _ (by simpa using z'.2)⟩
 have hm:∀ x∈names,∀ c P,bo (K w.params) x=some (c,P)->(c,P)∈(ay6 (K w.params) names).map (·.2):=λ x hx c P e=>bC.mpr ⟨(x,c,P),ap8.mpr ⟨hx,e⟩,rfl⟩
 refine aL1 (tabs:=(ay6 (K w.params) names).map (·.2)) KX G.T.g G.T.b G.T.builtins G.T.nolimit hg ?_ hT (a4 w) a1 Z (al J a6) hr (λ base k1 k2 k3 k4=>hF base k1 k2 k3 λ x hx c P e=>k4 _ (hm x hx c P e)) hb λ H hO hS hF=>a2 (K w.params) H a ns J (λ x hx c P e=>hO _ (hm x hx c P e)) hS hF
 obtain⟨bm,ob,h1,h2,h3,h4,h5,h6⟩:=G.T.bmain
 exact⟨bm,ob,h1,h2,h3,h4,h5,h6⟩
def spB (names:yH)(K:ac):Sp:=λ vs H Q _=>∃(a:Addr) (ns:List Int),vs=[.ref a]/\SqF K H a (ns.map V.int)/\ns.length<=63/\bp4 K names H/\∀ H',Q (.bl true) H'
theorem bM7 {names:yH}{K:ac}{H:Hp}{a:Addr}{ns:List Int}(hl:ns.length<=63)(Y:bp4 K names H)(F:SqL K H a (ns.map V.int))(G:∀ u,H a=some u->(∃ o J,u=.frz o (.lst J))\/∃ ps,u=.tbl ps):spB names K [.ref a] H (λ v _=>v=.bl true) E0:=by
 refine⟨a,ns,rfl,⟨F,λ H' k=>?_⟩,hl,Y,λ _=>rfl⟩
 rcases F with(h|⟨o,h⟩)|h
 .rcases G _ h with⟨_,_,z⟩|⟨_,z⟩<;>cases z
 .exact .inl (.inr ⟨o,k _ _ h rfl⟩)
 .exact .inr h
def cb9 (P:kH):String->LamI->Prop:=λ _ _=>False
noncomputable def sfx (x:Str):Str:=if x = "letter_table" then "least_fee" else "<lambda>"
noncomputable def bn5 (names:yH)(K:ac):List (Addr×Str):=names.map λ x=>(((bo K x).getD (0,0)).2,x ++ ".<locals>."++sfx x)
noncomputable def bL8 (names:yH)(K:ac):List (Addr×Addr):=names.map λ x=>(bo K x).getD (0,0)
noncomputable def bV9 (K:ac)(f:String):Option Addr:=match bR K aV (f:Str)with
 | some (some (.ref a))=>(match K.lookup a with
  | some ⟨_,_,.func _,_⟩=>some a
  | _=>none)
 | _=>none
theorem aE6 {K:ac}{f:String}{a:Addr}(h:bV9 K f=some a):bR K aV (f:Str)=some (some (.ref a))/\∃ oc od z sl,K.lookup a=some ⟨oc,od,.func z,sl⟩:=by
 unfold bV9 at h
 split at h
 .rename_i F e
  split at h
  .rename_i oc od z sl e2
   cases h
   exact⟨e,_,_,_,_,e2⟩
  .cases h
 .cases h
noncomputable abbrev bw2 (names:yH)(P:kH)(K:ac):Gm:=⟨K,bV9 K,cb9 P,bn5 names K⟩
theorem bR3 {names:yH}{P:kH}{K:ac}{h:Heap}{z:yC}(X:K.In h)(G:h.Ns aV z):∀(f:String) (a:Addr),(bw2 names P K).fa f=some a->z (f:Str)=some (.ref a)/\∃ oc od F sl,(bw2 names P K).K.lookup a=some ⟨oc,od,.func F,sl⟩:=λ f a e=>⟨bQ X G (aE6 e).1,(aE6 e).2⟩
theorem ba8 {names:yH}{P:kH}{K:ac}(z:∀ x∈names,(bo K x).isSome=true){vs:List V}{H:Hp}{Q:VK}{E:XK}(q:spB names K vs H Q E):spT (bw2 names P K) vs H Q E:=by
 obtain⟨a,ns,e,F,hl,J,G⟩:=q
 refine⟨a,ns,e,F,hl,TabsH.init λ p hp=>?_,G⟩
 simp only[bn5,fX]at hp
 obtain⟨x,hx,rfl⟩:=bC.mp hp
 exact J x hx _ _ (aG2 (z x hx))
theorem bh9 {names:yH}{K:ac}{z:yC}{base:Heap}(F:∀ x∈names,(bo K x).isSome=true)(G:BM z base)(hc:bw5 K names base):∀ y∈bL8 names K,bU base y.1 y.2/\BM z base:=λ y hy=>by
 obtain⟨x,hx,rfl⟩:=bC.mp hy
 exact⟨hc x hx _ _ (aG2 (F x hx)),G⟩
theorem aW8 {names:yH}{P:kH}{K:ac}{f:Str}{sc:Scope}{N:yH}{z:bN}:by3 (bw2 names P K) (bL8 names K) f sc N z (λ _ _ _=>false):=λ _ _ _ h=>by cases h
def bO3 (K:ac)(n:Str)(st:Stmt):Prop:=∃(f:Addr) (od an:yI) (sl:yE) (oc kV dc pm cd ct:Value),bR K aV n=some (some (.ref f)) /\
 K.lookup f=some ⟨oc,od,.func (cV n n (defArgs st) (zw st) (defScope st) .none kV dc pm an cd ct),sl⟩/\eZ K cd n=true/\bZ K (.ref f)=true
def bZ0 (n:Str)(st:Stmt)(ps:yH):Prop:=∀(kV doc pm:Value) (an:yI) (cdv ct:Value) (us:yG),us.length=ps.length->bindArgs (cV n n (defArgs st) (zw st) (defScope st) .none kV doc pm an cdv ct) ⟨us,[]⟩=pure (ps.zip us)
theorem bd0 {Q:List Value->Prop}(h:Q [])(us:yG)(hl:us.length=0):Q us:=by
 cases us with
 | nil=>exact h
 | cons _ _=>cases hl
theorem bdS {k:Nat}{Q:List Value->Prop}(h:∀ a us,us.length=k->Q (a::us))(us:yG)(hl:us.length=k+1):Q us:=by
 cases us with
 | nil=>cases hl
 | cons a us=>exact h a us (Nat.succ.inj hl)
theorem bd1 {Q:List Value->Prop}(h:∀ a,Q [a]):∀ us:List Value,us.length=1->Q us:=bdS λ a=>bd0 (h a)
theorem bd2 {Q:List Value->Prop}(h:∀ a b,Q [a,b]):∀ us:List Value,us.length=2->Q us:=bdS λ a=>bd1 (h a)
theorem bd3 {Q:List Value->Prop}(h:∀ a b c,Q [a,b,c]):∀ us:List Value,us.length=3->Q us:=bdS λ a=>bd2 (h a)
theorem bd4 {Q:List Value->Prop}(h:∀ a b c d,Q [a,b,c,d]):∀ us:List Value,us.length=4->Q us:=bdS λ a=>bd3 (h a)
def DTB (names:yH)(P:kH)(n:String)(pc vc:Nat)(m:Ck->List Stmt->Bool)(st:Stmt):Prop:=∃ N ps,FnScope N ps (defScope st)/\ps.length=pc/\N.length=pc+vc/\bZ0 n st ps/\(m ⟨N,defScope st,λ _ _ _=>false⟩ (zw st)=true \/
 False)
def DT (names:yH)(P:kH)(n:String)(d:lE)(st:Stmt):Prop:=DTB names P n d.ps d.vs (λ ck S=>mSs ck d.body S) st
theorem ag7 {names:yH}{P:kH}{K:ac}{h:Heap}{z:yC}{n:String}{Y J:Nat}{m:Ck->List Stmt->Bool}{st:Stmt}(X:K.In h)(G:h.Ns aV z)(hT:∀ x∈names,(bo K x).isSome=true)(hD:bO3 K n st)(hd:DTB names P n Y J m st):GoodB (bw2 names P K) (bL8 names K) z n Y J m:=by
 obtain⟨f,od,an,sl,oc,kV,dc,pm,cd,ct,a,l,c,k⟩:=hD
 obtain⟨N,ps,h1,h2,Z,h4,h5⟩:=hd
 have F:=bj1 (st:=st) l c k
 have D:DefAt K z n st ps f _:=⟨F,bQ X G a,F.binds h4⟩
 rcases h5 with h5|h5
 .exact⟨_,_,_,_,_,_,D,h1,h2,Z,h5,aW8⟩
 .exact h5.elim
theorem good_of {names:yH}{P:kH}{K:ac}{h:Heap}{z:yC}{n:String}{d:lE}{st:Stmt}(X:K.In h)(G:h.Ns aV z)(hT:∀ x∈names,(bo K x).isSome=true)(hD:bO3 K n st)(hd:DT names P n d st):Good (bw2 names P K) (bL8 names K) z n d:=ag7 X G hT hD hd
theorem as3 {α:Type}{Q:String->α->Prop}:∀ {tbl:List (String×α)},(∀ p∈tbl,Q p.1 p.2)->∀ f d,tbl.lookup f=some d->Q f d
 | [],_,f,d,h=>by cases h
 | (g,e)::tbl,H,f,d,h=>by
  rw[aP]at h
  cases q:f==g with
  | true =>
   rw[q]at h
   cases h
   rw[eq_of_beq q]
   exact H (g,_) (aw ..)
  | false =>
   rw[q]at h
   exact as3 (λ p hp=>H p (ak _ hp)) f d h
noncomputable def ca8 (K:ac)(c:String):Bool:=match bR K aV (c:Str)with|some (some (.ref Cc))=>bU3 K Cc&&(excI K Cc&&(bD K (.ref Cc) (.ref Cc)==some true&&(aW K (.ref Cc) (.type "ValueError")==some true&&bR K aV ("ValueError":Str)==some none)))|_=>false
noncomputable def bZ9 (K:ac)(c:String):Bool:=match bR K aV (c:Str)with|some (some (.ref _))=>true|_=>false
noncomputable def ca5 (K:ac)(c d:String):Bool:=match bR K aV (c:Str),bR K aV (d:Str)with|some (some (.ref Cc)),some (some (.ref D))=>aW K (.ref Cc) (.ref D)==some (kB c d)&&bD K (.ref Cc) (.ref D)==some (kB c d)|_,_=>false
noncomputable def bo8 (K:ac)(cs ts:List String):Bool:=cs.all (ca8 K)&&(ts.all (bZ9 K)&&cs.all λ c=>ts.all λ d=>ca5 K c d)
theorem al4 {K:ac}{h:Heap}{z:yC}{F ts:List String}(X:K.In h)(G:h.Ns aV z)(hx:bo8 K F ts=true) :
  (∀ c:String,F.contains c=true->∃ Cc,z (c:Str)=some (.ref Cc)/\ExcCls K Cc/\excI K Cc=true)/\(∀ c:String,ts.contains c=true->∃ Cc,z (c:Str)=some (.ref Cc)) /\
  (∀(c d:String) (Cc D:Addr),F.contains c=true->ts.contains d=true->z (c:Str)=some (.ref Cc)->z (d:Str)=some (.ref D)->aW K (.ref Cc) (.ref D)=some (kB c d)) /\
  (∀(c d:String) (Cc D:Addr),F.contains c=true->ts.contains d=true->z (c:Str)=some (.ref Cc)->z (d:Str)=some (.ref D)->bD K (.ref Cc) (.ref D)=some (kB c d)) /\
  (∀(c:String) (Cc:Addr),F.contains c=true->z (c:Str)=some (.ref Cc)->bD K (.ref Cc) (.ref Cc)=some true)/\(∀ c:String,F.contains c=true->z ("ValueError":Str)=none) /\
  ∀(c:String) (Cc:Addr),F.contains c=true->z (c:Str)=some (.ref Cc)->aW K (.ref Cc) (.type "ValueError")=some true:=by
 unfold bo8 at hx
 simp only[am]at hx
 obtain⟨h1,h2,h3⟩:=hx
 have one:∀ c:String,F.contains c=true->∃ Cc,z (c:Str)=some (.ref Cc)/\ExcCls K Cc/\excI K Cc=true/\bD K (.ref Cc) (.ref Cc)=some true/\aW K (.ref Cc) (.type "ValueError")=some true/\z ("ValueError":Str)=none:=λ c hc=>by
  have q:=aB.mp h1 c (c9.mp hc)
  unfold ca8 at q
  split at q
  .rename_i Cc e
   rw[am,am,am,am]at q
   exact⟨Cc,bQ X G e,bs5 q.1,q.2.1,eq_of_beq q.2.2.1,eq_of_beq q.2.2.2.1,ip X G (eq_of_beq q.2.2.2.2)⟩
  .cases q
 have two:∀(c d:String) (Cc D:Addr),F.contains c=true->ts.contains d=true->z (c:Str)=some (.ref Cc)->z (d:Str)=some (.ref D)->aW K (.ref Cc) (.ref D)=some (kB c d)/\bD K (.ref Cc) (.ref D)=some (kB c d):=λ c d Cc D hc hd mc md=>by
  have q:=aB.mp (aB.mp h3 c (c9.mp hc)) d (c9.mp hd)
  unfold ca5 at q
  split at q
  .rename_i J D' e1 e2
   have Y:=bQ X G e1
   have Z:=bQ X G e2
   rw[mc]at Y;cases Y
   rw[md]at Z;cases Z
   rw[am]at q
   exact⟨eq_of_beq q.1,eq_of_beq q.2⟩
  .cases q
 refine⟨λ c hc=>?_,λ c hc=>?_,λ c d Cc D a b e f=>(two c d Cc D a b e f).1,λ c d Cc D a b e f=>(two c d Cc D a b e f).2,λ c Cc hc hm=>?_,λ c hc=>?_,λ c Cc hc hm=>?_⟩
 .obtain⟨Cc,a,b,e,_⟩:=one c hc;exact⟨Cc,a,b,e⟩
 .have q:=aB.mp h2 c (c9.mp hc)
  unfold bZ9 at q
  split at q
  .rename_i Cc e
   exact⟨Cc,bQ X G e⟩
  .cases q
 .obtain⟨J,a,_,_,b,_⟩:=one c hc;rw[hm]at a;cases a;exact b
 .obtain⟨J,_,_,_,_,_,b⟩:=one c hc;exact b
 .obtain⟨J,a,_,_,_,b,_⟩:=one c hc;rw[hm]at a;cases a;exact b
noncomputable def bQ1 (kvs:List (List Nat×List Nat)):List (Str×j7):=kvs.map λ p=>(⟨p.1.toArray⟩,.str ⟨p.2.toArray⟩)
def bB7 (K:ac)(w:World)(c:String)(kvs:List (List Nat×List Nat)):Prop:=∃ a,bR K aV (c:Str)=some (some (.ref a))/\KTD.tabLook KTD.flatLooks (λ b=>K.lookup b) a (bQ1 kvs)=true /\
 ((bQ1 kvs).map (·.1)).Nodup/\KTD.hashesOf (λ b=>K.lookup b) a=(bQ1 kvs).map λ p=>hashStr w p.1
theorem bH2 {K:ac}{w:World}{h0:Heap}{z:yC}{c:String}{kvs:List (List Nat×List Nat)}(X:K.In h0)(G:h0.Ns aV z)(hc:bB7 K w c kvs):∃ a,z (c:Str)=some (.ref a)/\∀(prog:aD) (h:Heap),K.In h->jC prog w h a (strD kvs):=by
 obtain⟨a,Y,h2,J,F⟩:=hc
 refine⟨a,bQ X G Y,λ prog h Z=>?_⟩
 have:=PySem.W.kt_tab_in prog w Z h2 J F
 unfold bQ1 at this
 rw[fX]at this
 exact this
end L2
end
noncomputable section
namespace DV
noncomputable def aa5:Df:=⟨"is_tuple_of",2,0,(.cons (.ret (.and (.bi .isTup (.cons (.var 0) .nil)) (.cmp .eq (.bi .len (.cons (.var 0) .nil)) (.var 1)))) .nil)⟩
noncomputable def ab0:Df:=⟨"is_letter",2,0,(.cons (.ret (.cmp .isin (.var 0) (.slU (.glob "LETTERS") (.var 1)))) .nil)⟩
noncomputable def au6:Df:=⟨"_law_bag",2,3,(.cons (.asg (.one 2) (.cst (.int 0))) (.cons (.ite (.cmp .lt (.var 1) (.bi .len (.cons (.var 0) .nil))) (.cons (.asg (.one 2) (.bi .abs (.cons (.ix (.var 0) (.var 1)) .nil))) .nil) .nil) (.cons (.asg (.one 3) (.bin .add (.bin .mul (.cst (.int 7919)) (.var 1)) (.cst (.int 17)))) (.cons (.for_ (.one 4) (.rng1 (.bi .min2 (.cons (.bi .len (.cons (.var 0) .nil)) (.cons (.cst (.int 60)) .nil)))) (.cons (.asg (.one 3) (.bin .mod (.bin .add (.bin .add (.bin .mul (.var 3) (.cst (.int 48271))) (.bin .mod (.ix (.var 0) (.var 4)) (.cst (.int 2147483647)))) (.var 4)) (.cst (.int 2147483629)))) .nil)) (.cons (.ite (.cmp .lt (.var 2) (.bin .pow (.cst (.int 10)) (.cst (.int 18)))) (.cons (.asg (.one 2) (.cst (.int 0))) .nil) .nil) (.cons (.ret (.lst (.cons (.var 2) (.cons (.var 3) .nil)))) .nil))))))⟩
noncomputable def ac7:Df:=⟨"_law_take",2,3,(.cons (.ite (.cmp .gt (.ix (.var 0) (.cst (.int 0))) (.cst (.int 0))) (.cons (.asg (.one 2) (.bin .mod (.ix (.var 0) (.cst (.int 0))) (.var 1))) (.cons (.setIx (.var 0) (.cst (.int 0)) (.bin .fdiv (.ix (.var 0) (.cst (.int 0))) (.var 1))) (.cons (.ret (.var 2)) .nil))) .nil) (.cons (.asg (.one 3) (.cst (.int 0))) (.cons (.asg (.one 4) (.cst (.int 1))) (.cons (.whl (.cmp .lt (.var 4) (.var 1)) (.cons (.setIx (.var 0) (.cst (.int 1)) (.bin .mod (.bin .add (.bin .mul (.ix (.var 0) (.cst (.int 1))) (.cst (.int 48271))) (.cst (.int 7919))) (.cst (.int 2147483647)))) (.cons (.asg (.one 3) (.bin .add (.bin .mul (.var 3) (.cst (.int 1073741789))) (.bin .mod (.bin .mul (.bin .fdiv (.ix (.var 0) (.cst (.int 1))) (.cst (.int 8))) (.cst (.int 69621))) (.cst (.int 1073741789))))) (.cons (.asg (.one 4) (.bin .mul (.var 4) (.cst (.int 1073741789)))) .nil)))) (.cons (.ret (.bin .mod (.var 3) (.var 1))) .nil)))))⟩
noncomputable def bD2:Df:=⟨"grid",2,2,.nil⟩
noncomputable def ao4:Df:=⟨"sign_product",2,1,.nil⟩
noncomputable def ah6:Lm:=⟨"sign_product.0",2,3,(.mk .min (.comp (.one 0) (.rng1 (.var 2)) (.bi .max2 (.cons (.ix (.ix (.var 1) (.var 2)) (.var 0)) (.cons (.ix (.ix (.var 3) (.var 0)) (.var 4)) .nil))) [none,some 3,some 0,some 4,some 1]))⟩
noncomputable def cc1:Df:=⟨"_law_on",3,5,.nil⟩
noncomputable def ac9:Df:=⟨"is_set",1,0,(.cons (.ret (.and (.call "is_built" (.ex (.var 0) (.ex (.glob "MOST_DEEP") .nil))) (.cmp .le (.call "pieces_in" (.ex (.var 0) .nil)) (.glob "MOST_PIECES")))) .nil)⟩
noncomputable def ab3:Df:=⟨"is_built",2,0,(.cons (.ite (.call "is_tuple_of" (.ex (.var 0) (.ex (.cst (.int 1)) .nil))) (.cons (.ret (.cmp .eq (.ix (.var 0) (.cst (.int 0))) (.cst (.str [110,111,116,104,105,110,103])))) .nil) .nil) (.cons (.ite (.and (.call "is_tuple_of" (.ex (.var 0) (.ex (.cst (.int 2)) .nil))) (.cmp .eq (.ix (.var 0) (.cst (.int 0))) (.cst (.str [108,101,116,116,101,114])))) (.cons (.ret (.call "is_letter" (.ex (.ix (.var 0) (.cst (.int 1))) (.ex (.bi .len (.cons (.glob "LETTERS") .nil)) .nil)))) .nil) .nil) (.cons (.ret (.and (.cmp .gt (.var 1) (.cst (.int 1))) (.and (.call "is_joined" (.ex (.var 0) .nil)) (.mk .all (.comp (.one 0) (.seq (.slL (.var 0) (.cst (.int 1)))) (.call "is_built" (.ex (.var 0) (.ex (.bin .sub (.var 1) (.cst (.int 1))) .nil))) [none,some 1]))))) .nil)))⟩
noncomputable def aa9:Df:=⟨"is_joined",1,0,(.cons (.ite (.call "is_tuple_of" (.ex (.var 0) (.ex (.cst (.int 2)) .nil))) (.cons (.ret (.cmp .eq (.ix (.var 0) (.cst (.int 0))) (.cst (.str [114,101,112,101,97,116])))) .nil) .nil) (.cons (.ret (.and (.call "is_tuple_of" (.ex (.var 0) (.ex (.cst (.int 3)) .nil))) (.cmp .isin (.ix (.var 0) (.cst (.int 0))) (.tup (.cons (.cst (.str [101,105,116,104,101,114])) (.cons (.cst (.str [98,101,104,105,110,100])) .nil)))))) .nil))⟩
noncomputable def aa6:Df:=⟨"pieces_in",1,0,(.cons (.ite (.cmp .isin (.ix (.var 0) (.cst (.int 0))) (.tup (.cons (.cst (.str [108,101,116,116,101,114])) (.cons (.cst (.str [110,111,116,104,105,110,103])) .nil)))) (.cons (.ret (.cst (.int 1))) .nil) .nil) (.cons (.ret (.bin .add (.cst (.int 1)) (.mk .sum (.comp (.one 0) (.seq (.slL (.var 0) (.cst (.int 1)))) (.call "pieces_in" (.ex (.var 0) .nil)) [none])))) .nil))⟩
noncomputable def ai2:Df:=⟨"_law_set",4,4,(.cons (.asg (.one 4) (.call "_law_take" (.ex (.var 0) (.ex (.cst (.int 8)) .nil)))) (.cons (.ite (.or (.cmp .eq (.var 1) (.cst (.int 1))) (.or (.cmp .lt (.var 2) (.cst (.int 3))) (.cmp .eq (.var 4) (.cst (.int 0))))) (.cons (.asg (.one 5) (.call "_law_take" (.ex (.var 0) (.ex (.cst (.int 4)) .nil)))) (.cons (.ite (.or (.cmp .eq (.var 5) (.cst (.int 3))) (.cmp .eq (.ix (.var 3) (.cst (.int 0))) (.cst (.int 0)))) (.cons (.ret (.tup (.cons (.cst (.str [110,111,116,104,105,110,103])) .nil))) .nil) .nil) (.cons (.setIx (.var 3) (.cst (.int 0)) (.bin .sub (.ix (.var 3) (.cst (.int 0))) (.cst (.int 1)))) (.cons (.ret (.tup (.cons (.cst (.str [108,101,116,116,101,114])) (.cons (.ix (.cst (.str [97,98,99])) (.var 5)) .nil)))) .nil)))) .nil) (.cons (.ite (.cmp .lt (.var 4) (.cst (.int 3))) (.cons (.ret (.tup (.cons (.cst (.str [114,101,112,101,97,116])) (.cons (.call "_law_set" (.ex (.var 0) (.ex (.bin .sub (.var 1) (.cst (.int 1))) (.ex (.bin .sub (.var 2) (.cst (.int 1))) (.ex (.var 3) .nil))))) .nil)))) .nil) .nil) (.cons (.asg (.one 6) (.bin .add (.cst (.int 1)) (.call "_law_take" (.ex (.var 0) (.ex (.bin .sub (.var 2) (.cst (.int 2))) .nil))))) (.cons (.asg (.one 7) (.call "_law_set" (.ex (.var 0) (.ex (.bin .sub (.var 1) (.cst (.int 1))) (.ex (.var 6) (.ex (.var 3) .nil)))))) (.cons (.ret (.tup (.cons (.ix (.lst (.cons (.cst (.str [101,105,116,104,101,114])) (.cons (.cst (.str [98,101,104,105,110,100])) .nil))) (.bin .mod (.var 4) (.cst (.int 2)))) (.cons (.var 7) (.cons (.call "_law_set" (.ex (.var 0) (.ex (.bin .sub (.var 1) (.cst (.int 1))) (.ex (.bin .sub (.bin .sub (.var 2) (.cst (.int 1))) (.var 6)) (.ex (.var 3) .nil))))) .nil))))) .nil))))))⟩
noncomputable def aq5:Df:=⟨"set_text",1,3,.nil⟩
noncomputable def ac1:Df:=⟨"read_set",1,2,(.cons (.asg (.one 1) (.lst .nil)) (.cons (.for_ (.one 2) (.seq (.var 0)) (.cons (.ex (.call "lay_sign" (.ex (.var 1) (.ex (.var 2) .nil)))) .nil)) (.cons (.ite (.or (.cmp .ne (.bi .len (.cons (.var 1) .nil)) (.cst (.int 1))) (.not (.call "is_set" (.ex (.ix (.var 1) (.cst (.int 0))) .nil)))) (.cons .raise .nil) .nil) (.cons (.ret (.ix (.var 1) (.cst (.int 0)))) .nil))))⟩
noncomputable def aa2:Df:=⟨"lay_sign",2,0,(.cons (.ite (.and (.cmp .eq (.var 1) (.cst (.str [42]))) (.call "ends_with_set" (.ex (.var 0) .nil))) (.cons (.ex (.meth .append (.var 0) (.cons (.tup (.cons (.cst (.str [114,101,112,101,97,116])) (.cons (.meth .pop (.var 0) .nil) .nil))) .nil))) .nil) (.cons (.ite (.and (.cmp .eq (.var 1) (.cst (.str [41]))) (.and (.call "ends_with_set" (.ex (.var 0) .nil)) (.inC (.call "ahead_of_last" (.ex (.var 0) .nil)) "JOINTS"))) (.cons (.ex (.call "join_last" (.ex (.var 0) .nil))) .nil) (.cons (.ite (.and (.inC (.var 1) "JOINTS") (.and (.call "ends_with_set" (.ex (.var 0) .nil)) (.cmp .eq (.call "ahead_of_last" (.ex (.var 0) .nil)) (.cst (.str [40]))))) (.cons (.ex (.meth .append (.var 0) (.cons (.var 1) .nil))) .nil) (.cons (.ite (.and (.cmp .eq (.var 1) (.cst (.str [40]))) (.not (.call "ends_with_set" (.ex (.var 0) .nil)))) (.cons (.ex (.meth .append (.var 0) (.cons (.var 1) .nil))) .nil) (.cons (.ite (.and (.cmp .eq (.var 1) (.cst (.str [45]))) (.not (.call "ends_with_set" (.ex (.var 0) .nil)))) (.cons (.ex (.meth .append (.var 0) (.cons (.tup (.cons (.cst (.str [110,111,116,104,105,110,103])) .nil)) .nil))) .nil) (.cons (.ite (.and (.cmp .isin (.var 1) (.glob "LETTERS")) (.not (.call "ends_with_set" (.ex (.var 0) .nil)))) (.cons (.ex (.meth .append (.var 0) (.cons (.tup (.cons (.cst (.str [108,101,116,116,101,114])) (.cons (.var 1) .nil))) .nil))) .nil) (.cons .raise .nil)) .nil)) .nil)) .nil)) .nil)) .nil)) .nil)⟩
noncomputable def aa3:Df:=⟨"ends_with_set",1,0,(.cons (.ret (.and (.cmp .ne (.var 0) (.lst .nil)) (.bi .isTup (.cons (.ix (.var 0) (.neg (.cst (.int 1)))) .nil)))) .nil)⟩
noncomputable def aa4:Df:=⟨"ahead_of_last",1,0,(.cons (.ret (.ite (.cmp .gt (.bi .len (.cons (.var 0) .nil)) (.cst (.int 1))) (.ix (.var 0) (.neg (.cst (.int 2)))) (.cst .non))) .nil)⟩
noncomputable def aa8:Df:=⟨"join_last",1,3,(.cons (.asg (.one 1) (.meth .pop (.var 0) .nil)) (.cons (.asg (.one 2) (.meth .pop (.var 0) .nil)) (.cons (.asg (.one 3) (.meth .pop (.var 0) .nil)) (.cons (.ex (.meth .pop (.var 0) .nil)) (.cons (.ex (.meth .append (.var 0) (.cons (.tup (.cons (.getC "JOINTS" (.var 2)) (.cons (.var 3) (.cons (.var 1) .nil)))) .nil))) .nil)))))⟩
noncomputable def aa7:Df:=⟨"_law_written",1,0,(.cons (.ite (.cmp .eq (.ix (.var 0) (.cst (.int 0))) (.cst (.str [108,101,116,116,101,114]))) (.cons (.ret (.ix (.var 0) (.cst (.int 1)))) .nil) .nil) (.cons (.ite (.cmp .eq (.ix (.var 0) (.cst (.int 0))) (.cst (.str [110,111,116,104,105,110,103]))) (.cons (.ret (.cst (.str [45]))) .nil) .nil) (.cons (.ite (.cmp .eq (.ix (.var 0) (.cst (.int 0))) (.cst (.str [114,101,112,101,97,116]))) (.cons (.ret (.bin .add (.call "_law_written" (.ex (.ix (.var 0) (.cst (.int 1))) .nil)) (.cst (.str [42])))) .nil) .nil) (.cons (.ret (.bin .add (.bin .add (.bin .add (.bin .add (.cst (.str [40])) (.call "_law_written" (.ex (.ix (.var 0) (.cst (.int 1))) .nil))) (.ix (.lst (.cons (.cst (.str [124])) (.cons (.cst (.str [46])) .nil))) (.bi .int (.cons (.cmp .eq (.ix (.var 0) (.cst (.int 0))) (.cst (.str [98,101,104,105,110,100]))) .nil)))) (.call "_law_written" (.ex (.ix (.var 0) (.cst (.int 2))) .nil))) (.cst (.str [41])))) .nil))))⟩
noncomputable def aN8:Df:=⟨"law",1,6,(.cons (.asg (.one 1) (.lst .nil)) (.cons (.for_ (.one 2) (.rng1 (.bi .max2 (.cons (.cst (.int 3)) (.cons (.bi .min2 (.cons (.bi .len (.cons (.var 0) .nil)) (.cons (.cst (.int 12)) .nil))) .nil)))) (.cons (.asg (.one 3) (.call "_law_bag" (.ex (.var 0) (.ex (.var 2) .nil)))) (.cons (.ex (.meth .append (.var 1) (.cons (.call "_law_set" (.ex (.var 3) (.ex (.bin .add (.cst (.int 1)) (.call "_law_take" (.ex (.var 3) (.ex (.cst (.int 12)) .nil)))) (.ex (.bin .add (.cst (.int 1)) (.call "_law_take" (.ex (.var 3) (.ex (.cst (.int 40)) .nil)))) (.ex (.lst (.cons (.cst (.int 40)) .nil)) .nil))))) .nil))) .nil))) (.cons (.for_ (.one 4) (.seq (.bin .add (.var 1) (.slU (.var 1) (.cst (.int 2))))) (.cons (.asg (.one 5) (.call "set_text" (.ex (.var 4) .nil))) (.cons (.ite (.or (.not (.bi .isStr (.cons (.var 5) .nil))) (.cmp .ne (.var 5) (.call "_law_written" (.ex (.var 4) .nil)))) (.cons (.ret (.cst (.bl false))) .nil) .nil) (.cons (.asg (.one 6) (.call "read_set" (.ex (.var 5) .nil))) (.cons (.ite (.or (.not (.bi .isTup (.cons (.var 6) .nil))) (.or (.cmp .ne (.var 6) (.var 4)) (.cmp .ne (.call "set_text" (.ex (.var 6) .nil)) (.var 5)))) (.cons (.ret (.cst (.bl false))) .nil) .nil) .nil))))) (.cons (.ret (.cst (.bl true))) .nil))))⟩
noncomputable def am2:Df:=⟨"_law_set",4,4,(.cons (.asg (.one 4) (.call "_law_take" (.ex (.var 0) (.ex (.cst (.int 8)) .nil)))) (.cons (.ite (.or (.cmp .eq (.var 1) (.cst (.int 1))) (.or (.cmp .lt (.var 2) (.cst (.int 3))) (.cmp .eq (.var 4) (.cst (.int 0))))) (.cons (.asg (.one 5) (.call "_law_take" (.ex (.var 0) (.ex (.cst (.int 4)) .nil)))) (.cons (.ite (.or (.cmp .eq (.var 5) (.cst (.int 3))) (.cmp .eq (.ix (.var 3) (.cst (.int 0))) (.cst (.int 0)))) (.cons (.ret (.tup (.cons (.cst (.str [110,111,116,104,105,110,103])) .nil))) .nil) .nil) (.cons (.setIx (.var 3) (.cst (.int 0)) (.bin .sub (.ix (.var 3) (.cst (.int 0))) (.cst (.int 1)))) (.cons (.ret (.tup (.cons (.cst (.str [108,101,116,116,101,114])) (.cons (.ix (.cst (.str [97,98,99])) (.var 5)) .nil)))) .nil)))) .nil) (.cons (.ite (.cmp .lt (.var 4) (.cst (.int 3))) (.cons (.ret (.tup (.cons (.cst (.str [114,101,112,101,97,116])) (.cons (.call "_law_set" (.ex (.var 0) (.ex (.bin .sub (.var 1) (.cst (.int 1))) (.ex (.bin .sub (.var 2) (.cst (.int 1))) (.ex (.var 3) .nil))))) .nil)))) .nil) .nil) (.cons (.asg (.one 6) (.bin .add (.cst (.int 1)) (.call "_law_take" (.ex (.var 0) (.ex (.bin .sub (.var 2) (.cst (.int 2))) .nil))))) (.cons (.asg (.one 7) (.call "_law_set" (.ex (.var 0) (.ex (.bin .sub (.var 1) (.cst (.int 1))) (.ex (.var 6) (.ex (.var 3) .nil)))))) (.cons (.ret (.tup (.cons (.ix (.lst (.cons (.cst (.str [101,105,116,104,101,114])) (.cons (.cst (.str [98,101,104,105,110,100])) .nil))) (.bin .mod (.var 4) (.cst (.int 2)))) (.cons (.var 7) (.cons (.call "_law_set" (.ex (.var 0) (.ex (.bin .sub (.var 1) (.cst (.int 1))) (.ex (.bin .sub (.bin .sub (.var 2) (.cst (.int 1))) (.var 6)) (.ex (.var 3) .nil))))) .nil))))) .nil))))))⟩
noncomputable def ac2:Df:=⟨"_law_closed",1,7,(.cons (.ite (.or (.cmp .lt (.bi .len (.cons (.var 0) .nil)) (.cst (.int 4))) (.or (.cmp .ne (.ix (.var 0) (.neg (.cst (.int 4)))) (.cst (.str [40]))) (.cmp .notin (.ix (.var 0) (.neg (.cst (.int 2)))) (.lst (.cons (.cst (.str [124])) (.cons (.cst (.str [46])) .nil)))))) (.cons (.ret (.cst .non)) .nil) .nil) (.cons (.ite (.or (.not (.bi .isTup (.cons (.ix (.var 0) (.neg (.cst (.int 3)))) .nil))) (.not (.bi .isTup (.cons (.ix (.var 0) (.neg (.cst (.int 1)))) .nil)))) (.cons (.ret (.cst .non)) .nil) .nil) (.cons (.asg (.tup [1,2,3]) (.ix (.var 0) (.neg (.cst (.int 3))))) (.cons (.asg (.tup [4,5,6]) (.ix (.var 0) (.neg (.cst (.int 1))))) (.cons (.asg (.one 7) (.ix (.lst (.cons (.cst (.str [101,105,116,104,101,114])) (.cons (.cst (.str [98,101,104,105,110,100])) .nil))) (.bi .int (.cons (.cmp .eq (.ix (.var 0) (.neg (.cst (.int 2)))) (.cst (.str [46]))) .nil)))) (.cons (.ret (.bin .add (.slU (.var 0) (.neg (.cst (.int 4)))) (.lst (.cons (.tup (.cons (.tup (.cons (.var 7) (.cons (.var 1) (.cons (.var 4) .nil)))) (.cons (.bin .add (.bin .add (.cst (.int 1)) (.var 2)) (.var 5)) (.cons (.bin .add (.cst (.int 1)) (.bi .max2 (.cons (.var 3) (.cons (.var 6) .nil)))) .nil)))) .nil)))) .nil))))))⟩
noncomputable def ad5:Df:=⟨"_law_read",1,6,(.cons (.asg (.one 1) (.lst .nil)) (.cons (.for_ (.one 2) (.seq (.var 0)) (.cons (.asg (.one 3) (.and (.cmp .gt (.bi .len (.cons (.var 1) .nil)) (.cst (.int 0))) (.bi .isTup (.cons (.ix (.var 1) (.neg (.cst (.int 1)))) .nil)))) (.cons (.ite (.and (.cmp .isin (.var 2) (.cst (.str [97,98,99]))) (.not (.var 3))) (.cons (.asg (.one 1) (.bin .add (.var 1) (.lst (.cons (.tup (.cons (.tup (.cons (.cst (.str [108,101,116,116,101,114])) (.cons (.var 2) .nil))) (.cons (.cst (.int 1)) (.cons (.cst (.int 1)) .nil)))) .nil)))) .nil) (.cons (.ite (.and (.cmp .eq (.var 2) (.cst (.str [45]))) (.not (.var 3))) (.cons (.asg (.one 1) (.bin .add (.var 1) (.lst (.cons (.tup (.cons (.tup (.cons (.cst (.str [110,111,116,104,105,110,103])) .nil)) (.cons (.cst (.int 1)) (.cons (.cst (.int 1)) .nil)))) .nil)))) .nil) (.cons (.ite (.and (.cmp .eq (.var 2) (.cst (.str [40]))) (.not (.var 3))) (.cons (.asg (.one 1) (.bin .add (.var 1) (.lst (.cons (.cst (.str [40])) .nil)))) .nil) (.cons (.ite (.and (.cmp .isin (.var 2) (.cst (.str [124,46]))) (.var 3)) (.cons (.asg (.one 1) (.bin .add (.var 1) (.lst (.cons (.var 2) .nil)))) .nil) (.cons (.ite (.and (.cmp .eq (.var 2) (.cst (.str [42]))) (.var 3)) (.cons (.asg (.tup [4,5,6]) (.ix (.var 1) (.neg (.cst (.int 1))))) (.cons (.asg (.one 1) (.bin .add (.slU (.var 1) (.neg (.cst (.int 1)))) (.lst (.cons (.tup (.cons (.tup (.cons (.cst (.str [114,101,112,101,97,116])) (.cons (.var 4) .nil))) (.cons (.bin .add (.cst (.int 1)) (.var 5)) (.cons (.bin .add (.cst (.int 1)) (.var 6)) .nil)))) .nil)))) .nil)) (.cons (.ite (.and (.cmp .eq (.var 2) (.cst (.str [41]))) (.var 3)) (.cons (.asg (.one 1) (.call "_law_closed" (.ex (.var 1) .nil))) (.cons (.ite (.isN (.var 1)) (.cons (.ret (.cst .non)) .nil) .nil) .nil)) (.cons (.ret (.cst .non)) .nil)) .nil)) .nil)) .nil)) .nil)) .nil)) .nil))) (.cons (.ite (.or (.cmp .ne (.bi .len (.cons (.var 1) .nil)) (.cst (.int 1))) (.or (.not (.bi .isTup (.cons (.ix (.var 1) (.cst (.int 0))) .nil))) (.or (.cmp .gt (.ix (.ix (.var 1) (.cst (.int 0))) (.cst (.int 1))) (.cst (.int 40))) (.cmp .gt (.ix (.ix (.var 1) (.cst (.int 0))) (.cst (.int 2))) (.cst (.int 12)))))) (.cons (.ret (.cst .non)) .nil) .nil) (.cons (.ret (.ix (.ix (.var 1) (.cst (.int 0))) (.cst (.int 0)))) .nil))))⟩
noncomputable def ad7:Df:=⟨"_law_due",1,1,(.cons (.asg (.one 1) (.call "_law_read" (.ex (.var 0) .nil))) (.cons (.ite (.isN (.var 1)) (.cons (.ret (.lst (.cons (.cst (.str [116,101,120,116])) .nil))) .nil) .nil) (.cons (.ret (.var 1)) .nil)))⟩
noncomputable def ad8:Df:=⟨"_law_turned",2,4,(.cons (.for_ (.one 2) (.rng1 (.bin .add (.cst (.int 1)) (.call "_law_take" (.ex (.var 0) (.ex (.cst (.int 3)) .nil))))) (.cons (.asg (.one 3) (.call "_law_take" (.ex (.var 0) (.ex (.bin .add (.bi .len (.cons (.var 1) .nil)) (.cst (.int 1))) .nil)))) (.cons (.asg (.one 4) (.call "_law_take" (.ex (.var 0) (.ex (.cst (.int 3)) .nil)))) (.cons (.asg (.one 5) (.ix (.cst (.str [97,98,99,40,41,124,46,42,45,32,100,44,65,49,43,59])) (.call "_law_take" (.ex (.var 0) (.ex (.cst (.int 16)) .nil))))) (.cons (.asg (.one 1) (.bin .add (.bin .add (.slU (.var 1) (.var 3)) (.ix (.lst (.cons (.var 5) (.cons (.var 5) (.cons (.cst (.str [])) .nil)))) (.var 4))) (.slL (.var 1) (.bin .add (.var 3) (.bi .int (.cons (.cmp .gt (.var 4) (.cst (.int 0))) .nil)))))) .nil))))) (.cons (.ret (.var 1)) .nil))⟩
noncomputable def ad6:Df:=⟨"_law_wide",1,2,(.cons (.asg (.one 1) (.mk .list (.comp (.one 0) (.rng1 (.cst (.int 20))) (.ix (.cst (.str [97,98,99])) (.call "_law_take" (.ex (.var 1) (.ex (.cst (.int 3)) .nil)))) [none,some 0]))) (.cons (.whl (.cmp .gt (.bi .len (.cons (.var 1) .nil)) (.cst (.int 1))) (.cons (.asg (.one 2) (.mk .list (.comp (.one 0) (.rng3 (.cst (.int 0)) (.bin .sub (.bi .len (.cons (.var 1) .nil)) (.cst (.int 1))) (2)) (.bin .add (.bin .add (.bin .add (.bin .add (.cst (.str [40])) (.ix (.var 1) (.var 0))) (.cst (.str [46]))) (.ix (.var 1) (.bin .add (.var 0) (.cst (.int 1))))) (.cst (.str [41]))) [none,some 1]))) (.cons (.asg (.one 1) (.bin .add (.var 2) (.slL (.var 1) (.bin .mul (.cst (.int 2)) (.bi .len (.cons (.var 2) .nil)))))) .nil))) (.cons (.ret (.bin .add (.ix (.var 1) (.cst (.int 0))) (.slU (.cst (.str [42,42,42])) (.call "_law_take" (.ex (.var 0) (.ex (.cst (.int 4)) .nil)))))) .nil)))⟩
noncomputable def ae9:Df:=⟨"_law_texts",1,5,(.cons (.asg (.one 1) (.bin .add (.cst (.int 9)) (.call "_law_take" (.ex (.var 0) (.ex (.cst (.int 5)) .nil))))) (.cons (.asg (.one 2) (.lst (.cons (.cst (.str [])) (.cons (.cst (.str [97,98])) (.cons (.cst (.str [97,124,98])) (.cons (.cst (.str [40,97,41])) (.cons (.cst (.str [40,41])) (.cons (.cst (.str [42])) (.cons (.cst (.str [40,97,124,98,41,41])) (.cons (.cst (.str [40,40,97,124,98,41])) (.cons (.cst (.str [40,97,124,98,41,99])) (.cons (.cst (.str [45,45])) (.cons (.cst (.str [40,97,46,98,124,99,41])) (.cons (.cst (.str [97,10])) (.cons (.cst (.str [40,97,124,98,41,10])) .nil))))))))))))))) (.cons (.asg (.one 3) (.cst (.str []))) (.cons (.for_ (.one 4) (.rng1 (.var 1)) (.cons (.asg (.one 3) (.bin .add (.var 3) (.cst (.str [40,97,124])))) .nil)) (.cons (.asg (.one 5) (.slU (.cst (.str [42,42,42,42,42,42,42,42,42,42,42,42,42])) (.var 1))) (.cons (.ret (.bin .add (.var 2) (.lst (.cons (.bin .add (.cst (.str [97])) (.var 5)) (.cons (.bin .add (.bin .add (.cst (.str [40,97])) (.var 5)) (.cst (.str [124,98,41]))) (.cons (.bin .add (.bin .add (.var 3) (.cst (.str [98]))) (.slU (.cst (.str [41,41,41,41,41,41,41,41,41,41,41,41,41,41])) (.var 1))) (.cons (.call "_law_wide" (.ex (.var 0) .nil)) (.cons (.var 3) .nil)))))))) .nil))))))⟩
noncomputable def ac3:Df:=⟨"law",1,6,(.cons (.for_ (.one 1) (.rng1 (.bi .max2 (.cons (.cst (.int 3)) (.cons (.bi .min2 (.cons (.bi .len (.cons (.var 0) .nil)) (.cons (.cst (.int 9)) .nil))) .nil)))) (.cons (.asg (.one 2) (.call "_law_bag" (.ex (.var 0) (.ex (.var 1) .nil)))) (.cons (.asg (.one 3) (.call "_law_written" (.ex (.call "_law_set" (.ex (.var 2) (.ex (.bin .add (.cst (.int 1)) (.call "_law_take" (.ex (.var 2) (.ex (.cst (.int 12)) .nil)))) (.ex (.bin .add (.cst (.int 1)) (.call "_law_take" (.ex (.var 2) (.ex (.cst (.int 40)) .nil)))) (.ex (.lst (.cons (.cst (.int 40)) .nil)) .nil))))) .nil))) (.cons (.asg (.one 4) (.call "_law_texts" (.ex (.var 2) .nil))) (.cons (.asg (.one 5) (.lst (.cons (.call "_law_turned" (.ex (.var 2) (.ex (.var 3) .nil))) (.cons (.call "_law_turned" (.ex (.var 2) (.ex (.cst (.str [40,97,124,98,42,41])) .nil))) .nil)))) (.cons (.for_ (.one 6) (.seq (.bin .add (.bin .add (.lst (.cons (.var 3) .nil)) (.var 5)) (.lst (.cons (.ix (.var 4) (.call "_law_take" (.ex (.var 2) (.ex (.cst (.int 18)) .nil)))) (.cons (.ix (.var 4) (.bin .add (.cst (.int 15)) (.bin .mod (.var 1) (.cst (.int 3))))) .nil))))) (.cons (.ite (.or (.cmp .ne (.call "_law_outcome" (.ex (.var 6) .nil)) (.call "_law_due" (.ex (.var 6) .nil))) (.cmp .ne (.call "_law_outcome" (.ex (.var 6) .nil)) (.call "_law_due" (.ex (.var 6) .nil)))) (.cons (.ret (.cst (.bl false))) .nil) .nil) .nil)) .nil)))))) (.cons (.ret (.cst (.bl true))) .nil))⟩
class Has (P:Pr)(d:Df):Prop where
 eq:P.df d.name=some d
class HasL (P:Pr)(d:Lm):Prop where
 eq:P.lm d.id=some d
class HasC (P:Pr)(x:String)(v:D):Prop where
 eq:P.con x=some v
noncomputable def fin (s:Sto)(c:Ct)(s':Sto):R D:=match c with
 | .ret v=>zr s v s'
 | .next _=>zr s .non s'
 | _=>.bad
@[simp] theorem fin_ret (s:Sto) (v:D) (s':Sto):fin s (.ret v) s'=zr s v s':=rfl
@[simp] theorem fin_next (s:Sto) (U:Env) (s':Sto):fin s (.next U) s'=zr s .non s':=rfl
theorem za {P:Pr}(d:Df)[h:Has P d]{n:Nat}{l:List D}{s:Sto}(hl:l.length=d.ps) :
  (aa0 P (n+1)).call d.name l s=(exs (aa0 P n) d.body (l.map some++aj d.vs none) s).bind (fin s):=by
 simp only[aa0,h.eq,hl,if_true]
 rfl
theorem aR4 {P:Pr}{x:String}{v:D}[h:HasC P x v]{n:Nat}:(aa0 P n).con x=some v:=by
 cases n<;>exact h.eq
theorem az6 (s t:Sto):an6 s (s++t)=true:=by
 unfold an6
 rw[aB]
 intro i z
 rw[cr]at z
 rw[aS z]
 simp
theorem ax7 (s t:Sto)(r:Nat)(o:O)(h:o.bnd s.length=true):an6 s (s.set r o++t)=true:=by
 unfold an6
 rw[aB]
 intro i z
 rw[cr]at z
 rw[aS (by rw[br];exact z)]
 by_cases e:r=i
 .subst e;rw[aR z];simp[h]
 .rw[aU e];simp
theorem zz {s t:Sto}{d:D}(h:∀ n,d.bnd n=true)(hr:∀ r,d≠.ref r):zr s d (s++t)=.ok d s:=by
 unfold zr
 rw[az6,if_pos rfl]
 cases d with
 | ref r=>exact absurd rfl (hr r)
 | _=>simp[h]
theorem qc {s:Sto}{d:D}(h:∀ n,d.bnd n=true)(hr:∀ r,d≠.ref r):zr s d s=.ok d s:=by
 have:=zz (s:=s) (t:=[]) h hr
 rwa [aF]at this
theorem aw1 {s t:Sto}{d:D}{r:Nat}{o:O}(h:∀ n,d.bnd n=true)(hr:∀ r,d≠.ref r)(ho:o.bnd s.length=true):zr s d (s.set r o++t)=.ok d (s.set r o):=by
 unfold zr
 rw[ax7 s t r o ho,if_pos rfl]
 have e:(s.set r o++t).take s.length=s.set r o:=by rw[cS (by simp),cW (by simp)]
 cases d with
 | ref r=>exact absurd rfl (hr r)
 | _=>simp only[h,if_true,e]
theorem qE {s:Sto}{d:D}{r:Nat}{o:O}(h:∀ n,d.bnd n=true)(hr:∀ r,d≠.ref r)(ho:o.bnd s.length=true):zr s d (s.set r o)=.ok d (s.set r o):=by
 have:=aw1 (s:=s) (t:=[]) (r:=r) h hr ho
 rwa [aF]at this
theorem az5 {s t u:Sto}{o:O}(ho:o.bnd s.length=true):zr s (.ref (s.length+t.length)) (s++(t++o::u))=.ok (.ref s.length) (s++[o]):=by
 unfold zr
 rw[az6,if_pos rfl]
 simp[ho,bT]
@[simp] theorem aT9 {s:Sto} {i:Int}:zr s (.int i) s=.ok (.int i) s:=qc (λ _=>rfl) (by nofun)
@[simp] theorem bc5 {s:Sto} {i:Bool}:zr s (.bl i) s=.ok (.bl i) s:=qc (λ _=>rfl) (by nofun)
@[simp] theorem bM4 {s:Sto}:zr s .non s=.ok .non s:=qc (λ _=>rfl) (by nofun)
@[simp] theorem af6 {s:Sto} {x:List Nat}:zr s (.str x) s=.ok (.str x) s:=qc (λ _=>rfl) (by nofun)
theorem qC {c:Env->Sto->R D}{g:Env->Sto->R Ct}:∀ {n:Nat} {U:Env} {s:Sto},af5 c g n U s≠.bad->af5 c g (n+1) U s=af5 c g n U s
 | 0,_,_,h=>absurd rfl h
 | n+1,U,s,h=>by
  rw[show af5 c g (n+1+1) U s=tru (c U s) (λ b s=>if b then(g U s).bind λ z s=>match z with
   | .next U=>af5 c g (n+1) U s|.cont U=>af5 c g (n+1) U s|.brk U=>.ok (.next U) s|.ret d=>.ok (.ret d) s else .ok (.next U) s)from rfl]
  have e:af5 c g (n+1) U s=tru (c U s) (λ b s=>if b then(g U s).bind λ z s=>match z with
   | .next U=>af5 c g n U s|.cont U=>af5 c g n U s|.brk U=>.ok (.next U) s|.ret d=>.ok (.ret d) s else .ok (.next U) s):=rfl
  rw[e]at h ⊢
  unfold tru at h ⊢
  cases hc:c U s with
  | exc _ _=>rfl
  | bad=>rfl
  | ok d s1 =>
   rw[hc]at h
   cases d with
   | bl b =>
    cases b with
    | false=>rfl
    | true =>
     simp only[R.bind_ok,if_true]at h ⊢
     cases hg:g U s1 with
     | exc _ _=>rfl
     | bad=>rfl
     | ok z s2 =>
      rw[hg]at h
      simp only[R.bind_ok]at h ⊢
      cases z with
      | next U'=>exact qC h
      | cont U'=>exact qC h
      | _=>rfl
   | _=>rfl
theorem zV {c:Env->Sto->R D}{g:Env->Sto->R Ct}{n:Nat}{U:Env}{s:Sto}(h:af5 c g n U s≠.bad):∀ k,af5 c g (n+k) U s=af5 c g n U s
 | 0=>rfl
 | k+1=>by
  have e:=zV h k
  rw[<-Nat.add_assoc,qC (by rw[e];exact h),e]
theorem bH9 {c:Env->Sto->R D}{g:Env->Sto->R Ct}{n:Nat}{U:Env}{s:Sto}{r:Ct}{t:Sto}(h:af5 c g n U s=.ok r t):whl c g U s=.ok r t:=by
 have hb:af5 c g n U s≠.bad:=by rw[h];nofun
 have hx:∃ n,af5 c g n U s≠.bad:=⟨n,hb⟩
 unfold whl
 rw[dif_pos hx]
 have z:=zV hx.choose_spec n
 have F:=zV hb hx.choose
 rw[<-z,fU,F,h]
theorem bg8 {c:Env->Sto->R D}{g:Env->Sto->R Ct}{U U':Env}{s s1 s':Sto}(hc:c U s=.ok (.bl true) s1)(hg:g U s1=.ok (.next U') s'):whl c g U s=whl c g U' s':=by
 have key:∀ n,af5 c g (n+1) U s=af5 c g n U' s':=λ n=>by
  show tru (c U s) _=_
  rw[hc,zq,if_pos rfl,hg];rfl
 unfold whl
 by_cases hx:∃ n,af5 c g n U' s'≠.bad
 .have hy:∃ n,af5 c g n U s≠.bad:=⟨hx.choose+1,by rw[key];exact hx.choose_spec⟩
  rw[dif_pos hx,dif_pos hy]
  have z:=zV hy.choose_spec (hx.choose+1)
  have F:=zV (n:=hx.choose+1) (U:=U) (s:=s) (by rw[key];exact hx.choose_spec) hy.choose
  rw[<-z,fU,F,key]
 .have hy:¬ ∃ n,af5 c g n U s≠.bad:=λ⟨n,hn⟩=>by
   cases n with
   | zero=>exact hn rfl
   | succ n=>exact hx ⟨n,by rw[<-key];exact hn⟩
  rw[dif_neg hx,dif_neg hy]
theorem br4 {c:Env->Sto->R D}{g:Env->Sto->R Ct}{U:Env}{s s1:Sto}(hc:c U s=.ok (.bl false) s1):whl c g U s=.ok (.next U) s1 :=
 bH9 (n:=1) (by show tru (c U s) _=_;rw[hc,zq];rfl)
theorem at0 {ok:Sto->Bool}{g:D->Env->Sto->R Ct}(P:Nat->Env->Sto->Prop):∀(l:List D) (k:Nat) (U:Env) (s:Sto),
  P k U s->(∀(j:Nat) (U:Env) (s:Sto),j<=l.length->P (k+j) U s->ok s=true)->(∀(j:Nat) (d:D) (U:Env) (s:Sto),l[j]?=some d->P (k+j) U s->∃ U' s',(g d U s=.ok (.next U') s'\/g d U s=.ok (.cont U') s')/\P (k+j+1) U' s') ->
  ∃ U' s',av3 ok g l U s=.ok (.next U') s'/\P (k+l.length) U' s'
 | [],k,U,s,h,o,_=>⟨U,s,by show(if ok s then _ else _)=_;rw[if_pos (o 0 U s (ao _) h)],h⟩
 | d::l,k,U,s,h,o,t=>by
  have ho:=o 0 U s (cR _) h
  obtain⟨U1,s1,hg,z⟩:=t 0 d U s rfl h
  obtain⟨U2,s2,e,F⟩:=at0 P l (k+1) U1 s1 z (λ j U' s' hj hp=>o (j+1) U' s' (by simpa using hj) (by rwa [show k+(j+1)=k+1+j by omega])) λ j d' U' s' hj hp=>by
   have:=t (j+1) d' U' s' (by simpa using hj) (by rwa [show k+(j+1)=k+1+j by omega])
   rwa [show k+(j+1)+1=k+1+j+1 by omega]at this
  refine⟨U2,s2,?_,by rwa [aA,show k+(l.length+1)=k+1+l.length by omega]⟩
  show(if ok s then _ else _)=_
  rw[if_pos ho]
  rcases hg with hg|hg<;>(rw[hg];exact e)
noncomputable def Nx (Q:Env->Sto->Prop):R Ct->Prop
 | .ok (.next U) s=>Q U s
 | .ok (.cont U) s=>Q U s
 | _=>False
@[simp] theorem bV7 (Q:Env->Sto->Prop) (U:Env) (s:Sto):Nx Q (.ok (.next U) s)=Q U s:=rfl
@[simp] theorem bS9 (Q:Env->Sto->Prop) (U:Env) (s:Sto):Nx Q (.ok (.cont U) s)=Q U s:=rfl
theorem aT5 {Q:Env->Sto->Prop}{r:R Ct}{U:Env}{s:Sto}(e:r=.ok (.next U) s)(h:Q U s):Nx Q r:=by rw[e];exact h
theorem Nx.out {Q:Env->Sto->Prop}:∀ {r:R Ct},Nx Q r->∃ U s,(r=.ok (.next U) s\/r=.ok (.cont U) s)/\Q U s
 | .ok (.next U) s,h=>⟨U,s,.inl rfl,h⟩
 | .ok (.cont U) s,h=>⟨U,s,.inr rfl,h⟩
 | .ok (.ret _) _,h=>h.elim
 | .ok (.brk _) _,h=>h.elim
 | .exc _ _,h=>h.elim
 | .bad,h=>h.elim
noncomputable def Tst (A B:Sto->Prop):R D->Prop
 | .ok (.bl false) s=>A s
 | .ok (.bl true) s=>B s
 | _=>False
@[simp] theorem aG6 (A B:Sto->Prop) (b:Bool) (s:Sto):Tst A B (.ok (.bl b) s)=if b then B s else A s:=by cases b<;>rfl
theorem Tst.out {A B:Sto->Prop}:∀ {r:R D},Tst A B r->(∃ s,r=.ok (.bl false) s/\A s)\/∃ s,r=.ok (.bl true) s/\B s
 | .ok (.bl false) s,h=>.inl ⟨s,rfl,h⟩
 | .ok (.bl true) s,h=>.inr ⟨s,rfl,h⟩
 | .ok .non _,h=>h.elim
 | .ok (.int _) _,h=>h.elim
 | .ok (.str _) _,h=>h.elim
 | .ok (.tup _) _,h=>h.elim
 | .ok (.ref _) _,h=>h.elim
 | .ok (.fn _) _,h=>h.elim
 | .ok (.clo _ _) _,h=>h.elim
 | .exc _ _,h=>h.elim
 | .bad,h=>h.elim
theorem bf4 {c:Env->Sto->R D}{g:Env->Sto->R Ct}{U U':Env}{s s1 s':Sto}(hc:c U s=.ok (.bl true) s1)(hg:g U s1=.ok (.cont U') s'):whl c g U s=whl c g U' s':=by
 have key:∀ n,af5 c g (n+1) U s=af5 c g n U' s':=λ n=>by
  show tru (c U s) _=_
  rw[hc,zq,if_pos rfl,hg];rfl
 unfold whl
 by_cases hx:∃ n,af5 c g n U' s'≠.bad
 .have hy:∃ n,af5 c g n U s≠.bad:=⟨hx.choose+1,by rw[key];exact hx.choose_spec⟩
  rw[dif_pos hx,dif_pos hy]
  have z:=zV hy.choose_spec (hx.choose+1)
  have F:=zV (n:=hx.choose+1) (U:=U) (s:=s) (by rw[key];exact hx.choose_spec) hy.choose
  rw[<-z,fU,F,key]
 .have hy:¬ ∃ n,af5 c g n U s≠.bad:=λ⟨n,hn⟩=>by
   cases n with
   | zero=>exact hn rfl
   | succ n=>exact hx ⟨n,by rw[<-key];exact hn⟩
  rw[dif_neg hx,dif_neg hy]
theorem bC6 {c:Env->Sto->R D}{g:Env->Sto->R Ct}(P:Nat->Env->Sto->Prop)(Q:Env->Sto->Prop)
  (step:∀ k U s,P k U s->Tst (λ s1=>Q U s1) (λ s1=>Nx (λ U' s'=>∃ z,z<k/\P z U' s') (g U s1)) (c U s)) :
  ∀(k:Nat) (U:Env) (s:Sto),P k U s->∃ U' s',whl c g U s=.ok (.next U') s'/\Q U' s':=by
 intro k
 induction k using Nat.strongRecOn with
 | _ k ih =>
  intro U s h
  rcases(step k U s h).out with⟨s1,hc,hq⟩|⟨s1,hc,hn⟩
  .exact⟨U,s1,br4 hc,hq⟩
  .obtain⟨U',s',hg,z,hk,hp⟩:=hn.out
   rcases hg with hg|hg
   .rw[bg8 hc hg];exact ih z hk U' s' hp
   .rw[bf4 hc hg];exact ih z hk U' s' hp
theorem aH6 {c:Env->Sto->R D}{g:Env->Sto->R Ct}{U:Env}{s:Sto}{α:Type}{f:Ct->Sto->R α}{Ww:R α->Prop}(P:Nat->Env->Sto->Prop)(Q:Env->Sto->Prop)(k:Nat)(h:P k U s)
  (step:∀ k U s,P k U s->Tst (λ s1=>Q U s1) (λ s1=>Nx (λ U' s'=>∃ z,z<k/\P z U' s') (g U s1)) (c U s))
  (hf:∀ U' s',Q U' s'->Ww (f (.next U') s')):Ww ((whl c g U s).bind f):=by
 obtain⟨U',s',e,q⟩:=bC6 P Q step k U s h
 rw[e]
 exact hf U' s' q
theorem bf3 {c:Env->Sto->R D}{g:Env->Sto->R Ct}{U:Env}{s:Sto}{α:Type}{f:Ct->Sto->R α}{x:R α}(P:Nat->Env->Sto->Prop)(Q:Env->Sto->Prop)(k:Nat)(h:P k U s)
  (step:∀ k U s,P k U s->Tst (λ s1=>Q U s1) (λ s1=>Nx (λ U' s'=>∃ z,z<k/\P z U' s') (g U s1)) (c U s))
  (hf:∀ U' s',Q U' s'->f (.next U') s'=x):(whl c g U s).bind f=x:=aH6 (Ww:=(·=x)) P Q k h step hf
theorem ar8 {ok:Sto->Bool}{g:D->Env->Sto->R Ct}{l:List D}{U:Env}{s:Sto}{α:Type}{f:Ct->Sto->R α}{Ww:R α->Prop}(P:Nat->Env->Sto->Prop)(h:P 0 U s)
  (o:∀(j:Nat) (U:Env) (s:Sto),j<=l.length->P j U s->ok s=true) (step:∀(j:Nat) (d:D) (U:Env) (s:Sto),l[j]?=some d->P j U s->Nx (P (j+1)) (g d U s))
  (hf:∀ U' s',P l.length U' s'->Ww (f (.next U') s')):Ww ((av3 ok g l U s).bind f):=by
 obtain⟨U',s',e,q⟩:=at0 P l 0 U s h (λ j U s hj hp=>o j U s hj (by rwa [dP]at hp)) (λ j d U s hj hp=>by
  rw[dP]at hp ⊢
  exact(step j d U s hj hp).out)
 rw[e]
 rw[dP]at q
 exact hf U' s' q
theorem aZ8 {ok:Sto->Bool}{g:D->Env->Sto->R Ct}{l:List D}{U:Env}{s:Sto}{α:Type}{f:Ct->Sto->R α}{x:R α}(P:Nat->Env->Sto->Prop)(h:P 0 U s)
  (o:∀(j:Nat) (U:Env) (s:Sto),j<=l.length->P j U s->ok s=true) (step:∀(j:Nat) (d:D) (U:Env) (s:Sto),l[j]?=some d->P j U s->Nx (P (j+1)) (g d U s))
  (hf:∀ U' s',P l.length U' s'->f (.next U') s'=x):(av3 ok g l U s).bind f=x:=ar8 (Ww:=(·=x)) P h o step hf
section
variable {F:Fns} {U:Env} {s:Sto}
@[simp] theorem qq (i:Nat):ev F (.var i) U s=bk9 U i s:=rfl
@[simp] theorem qy (c:Cn):ev F (.cst c) U s=.ok c.d s:=rfl
@[simp] theorem ev_bin (op:BOp) (a b:E):ev F (.bin op a b) U s=(ev F a U s).bind λ x s=>(ev F b U s).bind λ y s=>qa op x y s:=rfl
@[simp] theorem ev_not (a:E):ev F (.not a) U s=tru (ev F a U s) λ b s=>.ok (.bl (!b)) s:=rfl
@[simp] theorem ev_cmp (op:COp) (a b:E):ev F (.cmp op a b) U s=(ev F a U s).bind λ x s=>(ev F b U s).bind λ y s=>zL op x y s:=rfl
@[simp] theorem ev_isN (a:E):ev F (.isN a) U s=(ev F a U s).bind λ x s=>.ok (.bl (decide (x=.non))) s:=rfl
@[simp] theorem ev_and (a b:E):ev F (.and a b) U s=tru (ev F a U s) λ c s=>if c then tru (ev F b U s) λ c s=>.ok (.bl c) s else .ok (.bl false) s:=rfl
@[simp] theorem ev_or (a b:E):ev F (.or a b) U s=tru (ev F a U s) λ c s=>if c then .ok (.bl true) s else tru (ev F b U s) λ c s=>.ok (.bl c) s:=rfl
@[simp] theorem ev_ite (c a b:E):ev F (.ite c a b) U s=tru (ev F c U s) λ k s=>if k then ev F a U s else ev F b U s:=rfl
@[simp] theorem ev_tup (es:Es):ev F (.tup es) U s=(evs F es U s).bind λ l s=>.ok (.tup l) s:=rfl
@[simp] theorem ev_lst (es:Es):ev F (.lst es) U s=(evs F es U s).bind λ l s=>af0 (.lst l) s:=rfl
@[simp] theorem ev_ix (a b:E):ev F (.ix a b) U s=(ev F a U s).bind λ x s=>(ev F b U s).bind λ y s=>ixM x y s:=rfl
@[simp] theorem ev_call (f:String) (as:As):ev F (.call f as) U s=(ao1 F as U s).bind λ l s=>F.call f l s:=rfl
@[simp] theorem ev_bi (b:Bi) (es:Es):ev F (.bi b es) U s=(evs F es U s).bind λ l s=>bi b l s:=rfl
@[simp] theorem ev_mk (k:Mk) (it:L):ev F (.mk k it) U s=(evL F it U s).bind λ q s=>mk k q s:=rfl
@[simp] theorem ev_meth (m:Mt) (o:E) (es:Es):ev F (.meth m o es) U s=(ev F o U s).bind λ x s=>(evs F es U s).bind λ l s=>meth m x l s:=rfl
@[simp] theorem evs_nil:evs F .nil U s=.ok [] s:=rfl
@[simp] theorem evs_cons (e:E) (es:Es):evs F (.cons e es) U s=(ev F e U s).bind λ d s=>(evs F es U s).bind λ l s=>.ok (d::l) s:=rfl
@[simp] theorem evas_nil:ao1 F .nil U s=.ok [] s:=rfl
@[simp] theorem evas_ex (e:E) (as:As):ao1 F (.ex e as) U s=(ev F e U s).bind λ d s=>(ao1 F as U s).bind λ l s=>.ok (d::l) s:=rfl
@[simp] theorem bW5 (f:String) (as:As):ao1 F (.fn f as) U s=(ao1 F as U s).bind λ l s=>.ok (.fn f::l) s:=rfl
@[simp] theorem evI_seq (e:E):evI F (.seq e) U s=(ev F e U s).bind λ d s=>aY3 d s:=rfl
@[simp] theorem bP1 (es:Es):evL F (.disp es) U s=evs F es U s:=rfl
@[simp] theorem evL_seq (e:E):evL F (.seq e) U s=(ev F e U s).bind λ d s=>bT3 d s:=rfl
noncomputable def bf0 (x:D):M Sq:=λ s=>match x with|.int i=>if -Ww62<=i/\i<Ww62 then .ok ⟨al0 0 i,[]⟩ s else .bad|_=>.bad
@[simp] theorem evI_rng1 (a:E):evI F (.rng1 a) U s=(ev F a U s).bind λ x s=>bf0 x s:=rfl
theorem am5 {i:Int}(h0:-Ww62<=i)(h:i<Ww62):bf0 (.int i) s=.ok ⟨al0 0 i,[]⟩ s:=by unfold bf0;simp only[h0,h,and_self,if_true]
noncomputable def nxt (F:Fns)(ss:Ss)(c:Ct)(s:Sto):R Ct:=match c with|.next U=>exs F ss U s|c=>.ok c s
@[simp] theorem z0 (z:Ss) (U:Env) (s:Sto):nxt F z (.next U) s=exs F z U s:=rfl
@[simp] theorem nxt_ret (z:Ss) (d:D) (s:Sto):nxt F z (.ret d) s=.ok (.ret d) s:=rfl
@[simp] theorem nxt_cont (z:Ss) (U:Env) (s:Sto):nxt F z (.cont U) s=.ok (.cont U) s:=rfl
@[simp] theorem exs_nil:exs F .nil U s=.ok (.next U) s:=rfl
@[simp] theorem zg (st:S) (z:Ss):exs F (.cons st z) U s=(ex F st U s).bind (nxt F z):=rfl
noncomputable def bZ1 (U:Option Env)(s:Sto):R Ct:=match U with|some U=>.ok (.next U) s|none=>.bad
@[simp] theorem setC_some (U:Env) (s:Sto):bZ1 (some U) s=.ok (.next U) s:=rfl
@[simp] theorem ex_asg (tg:Tg) (e:E):ex F (.asg tg e) U s=(ev F e U s).bind λ d s=>bZ1 (qK U tg d) s:=rfl
@[simp] theorem ex_setIx (o i e:E):ex F (.setIx o i e) U s=(ev F e U s).bind λ d s=>(ev F o U s).bind λ x s=>(ev F i U s).bind λ y s=>(setIx x y d s).bind λ _ s=>.ok (.next U) s:=rfl
@[simp] theorem ex_ex (e:E):ex F (.ex e) U s=(ev F e U s).bind λ _ s=>.ok (.next U) s:=rfl
@[simp] theorem ex_ret (e:E):ex F (.ret e) U s=(ev F e U s).bind λ d s=>.ok (.ret d) s:=rfl
@[simp] theorem zN (c:E) (a b:Ss):ex F (.ite c a b) U s=tru (ev F c U s) λ k s=>if k then exs F a U s else exs F b U s:=rfl
@[simp] theorem ex_whl (c:E) (b:Ss):ex F (.whl c b) U s=whl (ev F c) (exs F b) U s:=rfl
noncomputable def turn (F:Fns)(tg:Tg)(b:Ss)(d:D)(U:Env)(s:Sto):R Ct:=match qK U tg d with
 | some U=>exs F b U s
 | none=>.bad
@[simp] theorem ex_for (tg:Tg) (it:I) (b:Ss):ex F (.for_ tg it b) U s=(evI F it U s).bind λ q s0=>av3 (λ s=>chk s0 s q.src) (turn F tg b) q.its U s0:=rfl
@[simp] theorem qz (i:Nat) (d:D):qK U (.one i) d=aF7 U i d:=rfl
@[simp] theorem bindT_tup (is:List Nat) (l:List D):qK U (.tup is) (.tup l)=am4 U is l:=rfl
@[simp] theorem setVs_nil:am4 U [] []=some U:=rfl
@[simp] theorem setVs_cons (i:Nat) (is:List Nat) (d:D) (l:List D):am4 U (i::is) (d::l)=(aF7 U i d).bind λ U=>am4 U is l:=rfl
@[simp] theorem qp (d:D) (U:Env):bk9 (some d::U) 0 s=.ok d s:=rfl
@[simp] theorem getV_s (x:Option D) (U:Env) (i:Nat):bk9 (x::U) (i+1) s=bk9 U i s:=by unfold bk9;rw[List.getElem?_cons_succ]
@[simp] theorem setV_0 (d:D) (x:Option D) (U:Env):aF7 (x::U) 0 d=some (some d::U):=rfl
@[simp] theorem setV_s (d:D) (x:Option D) (U:Env) (i:Nat):aF7 (x::U) (i+1) d=(aF7 U i d).map (x::·):=by
 unfold aF7
 by_cases h:i < U.length
 .rw[if_pos (by simpa using h),if_pos h];rfl
 .rw[if_neg (by simpa using h),if_neg h];rfl
@[simp] theorem unsetV_0 (x:Option D) (U:Env):aI3 (x::U) 0=some (none::U):=rfl
@[simp] theorem unsetV_s (x:Option D) (U:Env) (i:Nat):aI3 (x::U) (i+1)=(aI3 U i).map (x::·):=by
 unfold aI3
 by_cases h:i < U.length
 .rw[if_pos (by simpa using h),if_pos h];rfl
 .rw[if_neg (by simpa using h),if_neg h];rfl
@[simp] theorem qw (i:Int):(Cn.int i).d=.int i:=rfl
@[simp] theorem Cn_bl (i:Bool):(Cn.bl i).d=.bl i:=rfl
@[simp] theorem Cn_str (i:List Nat):(Cn.str i).d=.str i:=rfl
@[simp] theorem Cn_non:Cn.non.d=.non:=rfl
@[simp] theorem add_int (a b:Int):qa .add (.int a) (.int b) s=.ok (.int (a+b)) s:=rfl
@[simp] theorem sub_int (a b:Int):qa .sub (.int a) (.int b) s=.ok (.int (a - b)) s:=rfl
theorem af4 {a b:Int}(h:mulOk a b=true):qa .mul (.int a) (.int b) s=.ok (.int (a*b)) s:=by show(if mulOk a b then _ else _:M D) s=_;rw[if_pos h];rfl
theorem aQ3 {a b:Int}(h:a.natAbs<2^64):mulOk a b=true:=by unfold mulOk;simp[h]
theorem as7 {a b:Int}(h:b.natAbs<2^64):mulOk a b=true:=by unfold mulOk;simp[h]
theorem al5 {a b:Int}(h:0<b):qa .mod (.int a) (.int b) s=.ok (.int (a % b)) s:=by show(if 0<b then _ else _:M D) s=_;rw[if_pos h];rfl
theorem bu5:(10:Int)^200<=(DIVL:Int):=by unfold DIVL;decide +kernel
theorem aE8 {a b:Int}(h:0<b)(z:b<10^200):qa .fdiv (.int a) (.int b) s=.ok (.int (a / b)) s:=by show(if 0<b/\b<(DIVL:Int)then _ else _:M D) s=_;rw[if_pos ⟨h,Int.lt_of_lt_of_le z bu5⟩];rfl
theorem aV7 {a b:Int}(h:0<=b/\b<=1000000/\a.natAbs<2^64):qa .pow (.int a) (.int b) s=.ok (.int (a^b.toNat)) s:=by show(if _ then _ else _:M D) s=_;rw[if_pos h];rfl
@[simp] theorem lt_int (a b:Int):zL .lt (.int a) (.int b) s=.ok (.bl (decide (a<b))) s:=rfl
@[simp] theorem le_int (a b:Int):zL .le (.int a) (.int b) s=.ok (.bl (decide (a<=b))) s:=rfl
@[simp] theorem gt_int (a b:Int):zL .gt (.int a) (.int b) s=.ok (.bl (decide (b<a))) s:=rfl
@[simp] theorem ge_int (a b:Int):zL .ge (.int a) (.int b) s=.bad:=rfl
@[simp] theorem eq_int (a b:Int):zL .eq (.int a) (.int b) s=.ok (.bl (decide (a=b))) s:=rfl
@[simp] theorem ne_int (a b:Int):zL .ne (.int a) (.int b) s=.ok (.bl (!decide (a=b))) s:=rfl
@[simp] theorem alloc_eq (o:O):af0 o s=.ok (.ref s.length) (s++[o]):=rfl
@[simp] theorem bW3 (l:List D):bi .len [.tup l] s=.ok (.int l.length) s:=rfl
@[simp] theorem bn7 (l:List Nat):bi .len [.str l] s=.ok (.int l.length) s:=rfl
theorem qD {r:Nat}{l:List D}(h:s[r]?=some (.lst l)):bi .len [.ref r] s=.ok (.int l.length) s:=by simp only[bi,bi1,bL2,h]
theorem bi7 {r:Nat}{l:List D}(h:s[r]?=some (.ro l)):bi .len [.ref r] s=.ok (.int l.length) s:=by simp only[bi,bi1,bL2,h]
@[simp] theorem bX1 (i:Int):bi .abs [.int i] s=.ok (.int (if i<0 then -i else i)) s:=rfl
@[simp] theorem bb0 (a b:Int):bi .min2 [.int a,.int b] s=.ok (.int (if b<a then b else a)) s:=rfl
@[simp] theorem aH8 (a b:Int):bi .max2 [.int a,.int b] s=.ok (.int (if b > a then b else a)) s:=rfl
@[simp] theorem bL3 (a:Int):bi .isInt [.int a] s=.ok (.bl true) s:=rfl
@[simp] theorem bx5 (a:Int):bi .isBool [.int a] s=.ok (.bl false) s:=rfl
@[simp] theorem bJ4 (l:List D):bi .isTup [.tup l] s=.ok (.bl true) s:=rfl
theorem bC1 {r:Nat}{l:List D}{j:Nat}{d:D}(h:s[r]?=some (.ro l))(hj:l[j]?=some d):ixM (.ref r) (.int (j:Int)) s=.ok d s:=by
 have hl:j<l.length:=(af.mp hj).1
 have e:l[j]=d:=(af.mp hj).2
 simp[ixM,h,ixn,hl,e]
theorem zE {r:Nat}{l:List D}{j:Nat}{d:D}(h:s[r]?=some (.lst l))(hj:l[j]?=some d):ixM (.ref r) (.int (j:Int)) s=.ok d s:=by
 have hl:j<l.length:=(af.mp hj).1
 have e:l[j]=d:=(af.mp hj).2
 simp[ixM,h,ixn,hl,e]
theorem ix_tup {l:List D}{j:Nat}{d:D}(hj:l[j]?=some d):ixM (.tup l) (.int (j:Int)) s=.ok d s:=by
 have hl:j<l.length:=(af.mp hj).1
 have e:l[j]=d:=(af.mp hj).2
 simp[ixM,ixn,hl,e]
theorem bp3 {r:Nat}{l:List D}{j:Nat}{v:D}(h:s[r]?=some (.lst l))(hl:j<l.length):setIx (.ref r) (.int (j:Int)) v s=.ok () (s.set r (.lst (l.set j v))):=by
 simp[setIx,h,ixn,hl]
theorem zS {r:Nat}{l:List D}{v:D}(h:s[r]?=some (.lst l))(hl:l.length<LIM):meth .append (.ref r) [v] s=.ok .non (s.set r (.lst (l++[v]))):=by
 show(match s[r]? with|some (.lst l)=>(if l.length<LIM then R.ok D.non (s.set r (.lst (l++[v])))else .bad)|_=>.bad:R D)=_
 rw[h]
 exact if_pos hl
end
theorem aC7 (s t:Sto)(b:Bool):∃ s',zr s (.bl b) t=.ok (.bl b) s':=by
 unfold zr
 by_cases h:an6 s t=true
 .rw[if_pos h];exact⟨_,rfl⟩
 .rw[if_neg h];exact⟨_,rfl⟩
def Yes (r:R D):Prop:=∃ s',r=.ok (.bl true) s'
theorem aU2 (s t:Sto):Yes (zr s (.bl true) t):=aC7 s t true
theorem at1 {a b:Int}{j:Nat}{d:D}(h:(al0 a b)[j]?=some d):(j:Int)<b - a/\d=.int (a+j):=by
 have hj:=(af.mp h).1
 simp only[al0,aI,iG]at hj
 unfold al0 at h
 rw[a9,eQ hj]at h
 exact⟨by omega,(ay h).symm⟩
def bR7 (P:Pr)(k:Nat):Prop:=∀ ns:List Int,ns.length<=63->Yes ((aa0 P k).call "law" [.ref 0] [.ro (ns.map D.int)])
noncomputable def by5:Option Int->D
 | none=>.non
 | some i=>.int i
@[simp] theorem bK1:by5 none=.non:=rfl
@[simp] theorem bB3 (i:Int):by5 (some i)=.int i:=rfl
@[simp] theorem aY6 (p:Option Int) (n:Nat):(by5 p).bnd n=true:=by cases p<;>rfl
theorem bb3 (p:Option Int)(r:Nat):by5 p≠.ref r:=by cases p<;>nofun
@[simp] theorem by0 {s:Sto} {p:Option Int}:zr s (by5 p) s=.ok (by5 p) s:=qc (aY6 p) (bb3 p)
noncomputable def ze (b:Nat×Nat):O:=.lst [.int b.1,.int b.2]
@[simp] theorem bP7 (b:Nat×Nat) (n:Nat):(ze b).bnd n=true:=rfl
noncomputable def tkW (many:Nat):Nat->Nat->Nat->Nat->Nat×Nat
 | 0,mix,num,_=>(num,mix)
 | n+1,mix,num,room=>if room<many then tkW many n ((mix*48271+7919) % 2147483647) (num*1073741789+(mix*48271+7919) % 2147483647 / 8*69621 % 1073741789) (room*1073741789)else(num,mix)
noncomputable def tk (b:Nat×Nat)(many:Nat):Nat×(Nat×Nat) :=
 if 0<b.1 then(b.1 % many,(b.1 / many,b.2))else let r:=tkW many 12 b.2 0 1;(r.1 % many,(b.1,r.2))
theorem bQ2 (b:Nat×Nat){many:Nat}(h:0<many):(tk b many).1<many:=by
 unfold tk
 split
 .exact Nat.mod_lt _ h
 .exact Nat.mod_lt _ h
theorem aP5 {many:Nat}{k z F room:Nat}(h:many<=room):tkW many k z F room=(F,z):=by
 cases k with
 | zero=>rfl
 | succ k=>unfold tkW;rw[if_neg (by omega)]
theorem bc3 {many:Nat}{k z F room:Nat}(h:room<many):tkW many (k+1) z F room=tkW many k ((z*48271+7919) % 2147483647) (F*1073741789+(z*48271+7919) % 2147483647 / 8*69621 % 1073741789) (room*1073741789):=by
 conv=>lhs;unfold tkW
 rw[if_pos h]
theorem br0 {P:Pr}[Has P ac7](n:Nat)(b:Nat×Nat)(many:Nat)(h0:0<many)(h:many<=10^90)(s:Sto)(r:Nat)(hs:s[r]?=some (ze b)) :
  (aa0 P (n+1)).call "_law_take" [.ref r,.int many] s=.ok (.int (tk b many).1) (s.set r (ze (tk b many).2)):=by
 refine(za ac7 rfl).trans ?_
 obtain⟨c,m⟩:=b
 have hr:r<s.length:=(af.mp hs).1
 have Y:(0:Int)<(many:Int):=by omega
 have Z:(many:Int)<10^200:=by
  have:(10:Int)^90<10^200:=by decide +kernel
  have:((many:Nat):Int)<=((10^90:Nat):Int):=by exact_mod_cast h
  omega
 by_cases hc:0<c
 .have J:s[r]?=some (.lst [.int c,.int m]):=hs
  simp[ac7,ixM,J,ixn,hc,al5 Y,aE8 Y Z,setIx,tk]
  exact qE (λ _=>rfl) (by nofun) rfl
 .have a0:c=0:=by omega
  subst a0
  have J:s[r]?=some (.lst [.int 0,.int m]):=hs
  simp[ac7,ixM,J,ixn]
  refine bf3 (λ k U t=>∃ z F room:Nat,U=[some (.ref r),some (.int many),none,some (.int F),some (.int room)]/\t=s.set r (ze (0,z))/\many<=room*1073741789^k/\tkW many k z F room=tkW many 12 m 0 1)
   (λ U t=>∃ room:Nat,U=[some (.ref r),some (.int many),none,some (.int (tkW many 12 m 0 1).1),some (.int room)]/\t=s.set r (ze (0,(tkW many 12 m 0 1).2))) 12 ⟨m,0,1,by simp,?_,?_,rfl⟩ ?_ ?_
  .have e:s[r]=ze (0,m):=(af.mp hs).2
   rw[<-e,da]
  .refine al h ?_
   decide +kernel
  .rintro k U t ⟨z,F,room,rfl,rfl,G,he⟩
   by_cases hlt:room<many
   .simp only[ev_cmp,qq,qp,getV_s,R.bind_ok,lt_int,aG6,iC,hlt,decide_true,if_true]
    cases k with
    | zero=>simp at G;omega
    | succ k =>
     have h1:(s.set r (ze (0,z)))[r]?=some (.lst [.int 0,.int z]):=by rw[aR hr];rfl
     have m1:∀ a:Int,mulOk a 48271=true:=λ a=>as7 (by decide)
     have m2:∀ a:Int,mulOk a 1073741789=true:=λ a=>as7 (by decide)
     have m3:∀ a:Int,mulOk a 69621=true:=λ a=>as7 (by decide)
     refine aT5 ?_ ⟨k,cN k,(z*48271+7919) % 2147483647,F*1073741789+(z*48271+7919) % 2147483647 / 8*69621 % 1073741789,room*1073741789,rfl,rfl,?_,?_⟩
     .simp[ixM,h1,ixn,af4 (m1 _),al5,setIx,hr,af4 (m2 _),af4 (m3 _),aE8,ze]
     .rw[j9]at G
      rw[Nat.mul_assoc,jZ 1073741789];exact G
     .rw[<-he,bc3 hlt]
   .simp only[ev_cmp,qq,qp,getV_s,R.bind_ok,lt_int,aG6,iC,hlt,decide_false,if_false,bu]
    refine⟨room,?_,?_⟩
    .rw[<-he,aP5 (by omega)]
    .rw[<-he,aP5 (by omega)]
  .rintro U t ⟨room,rfl,rfl⟩
   simp[al5 Y,tk]
   exact qE (λ _=>rfl) (by nofun) rfl
noncomputable def bm3 (at_:Int)(ns:List Int):Nat->Int
 | 0=>7919*at_+17
 | k+1=>(bm3 at_ ns k*48271+(ns.getD k 0) % 2147483647+k) % 2147483629
theorem bu1 (at_:Int)(h:0<=at_)(ns:List Int):∀ k,0<=bm3 at_ ns k
 | 0=>by unfold bm3;omega
 | k+1=>by unfold bm3;exact Int.emod_nonneg _ (by decide)
noncomputable def cellF (ns:List Int)(at_:Nat):Nat:=if 10^18<=(ns.getD at_ 0).natAbs then(ns.getD at_ 0).natAbs else 0
noncomputable def bx8 (ns:List Int)(at_:Nat):Nat×Nat:=(cellF ns at_,(bm3 at_ ns (min ns.length 60)).toNat)
theorem bL4 {P:Pr}[Has P au6](n:Nat)(ns:List Int)(at_:Nat)(s:Sto)(r:Nat)(hs:s[r]?=some (.ro (ns.map D.int)))(hl:ns.length<=63) :
  (aa0 P (n+1)).call "_law_bag" [.ref r,.int at_] s=.ok (.ref s.length) (s++[ze (bx8 ns at_)]):=by
 refine(za au6 rfl).trans ?_
 have m1:∀ a:Int,mulOk 7919 a=true:=λ a=>aQ3 (by decide)
 have m2:∀ a:Int,mulOk a 48271=true:=λ a=>as7 (by decide)
 have z:bi .len [.ref r] s=.ok (.int ns.length) s:=by rw[bi7 hs,aI]
 have G:∀(c:Int),(c<10^18->cellF ns at_=0)->(10^18<=c->(cellF ns at_:Int)=c) ->
   (exs (aa0 P n) (.cons (.asg (.one 3) (.bin .add (.bin .mul (.cst (.int 7919)) (.var 1)) (.cst (.int 17)))) (.cons (.for_ (.one 4) (.rng1 (.bi .min2 (.cons (.bi .len (.cons (.var 0) .nil)) (.cons (.cst (.int 60)) .nil)))) (.cons (.asg (.one 3) (.bin .mod (.bin .add (.bin .add (.bin .mul (.var 3) (.cst (.int 48271))) (.bin .mod (.ix (.var 0) (.var 4)) (.cst (.int 2147483647)))) (.var 4)) (.cst (.int 2147483629)))) .nil)) (.cons (.ite (.cmp .lt (.var 2) (.bin .pow (.cst (.int 10)) (.cst (.int 18)))) (.cons (.asg (.one 2) (.cst (.int 0))) .nil) .nil) (.cons (.ret (.lst (.cons (.var 2) (.cons (.var 3) .nil)))) .nil)))) [some (.ref r),some (.int at_),some (.int c),none,none] s).bind (fin s)=.ok (.ref s.length) (s++[ze (bx8 ns at_)]):=by
  intro c h1 h2
  simp[af4 (m1 _),z]
  have hk:(if(60:Int)<(ns.length:Int)then 60 else(ns.length:Int))=((min ns.length 60:Nat):Int):=by omega
  rw[hk,am5 (by unfold Ww62;omega) (by unfold Ww62;omega)]
  simp only[R.bind_ok]
  refine aZ8 (λ j U t=>t=s/\∃ x,U=[some (.ref r),some (.int at_),some (.int c),some (.int (bm3 at_ ns j)),x]) ⟨rfl,none,rfl⟩ (λ _ _ _ _ _=>rfl) ?_ ?_
  .rintro j d U t hj ⟨rfl,x,rfl⟩
   have Y:j<min ns.length 60:=by have:=(af.mp hj).1;simpa [al0]using this
   have hd:d=.int (j:Int):=by simpa [al0,Y]using hj.symm
   subst hd
   refine aT5 ?_ ⟨rfl,some (.int (j:Int)),rfl⟩
   have hx:ixM (.ref r) (.int (j:Int)) t=.ok (.int (ns.getD j 0)) t:=bC1 hs (by simp[show j<ns.length by omega])
   simp[turn,af4 (m2 _),hx,al5,bm3]
  .rintro U t ⟨rfl,x,rfl⟩
   have J:(al0 0 ((min ns.length 60:Nat):Int)).length=min ns.length 60:=by simp[al0]
   rw[J]
   have Z:=bu1 at_ (by omega) ns (min ns.length 60)
   have F:∀ c',(c':Int)=cellF ns at_->zr t (.ref t.length) (t++[.lst [.int c',.int (bm3 at_ ns (min ns.length 60))]])=.ok (.ref t.length) (t++[ze (bx8 ns at_)]):=by
    intro c' a0
    have:=az5 (s:=t) (t:=[]) (u:=[]) (o:=ze (bx8 ns at_)) rfl
    simp only[cC,j8,cA]at this
    rw[<-this]
    simp[ze,bx8,a0,eP Z]
   by_cases h:c<10^18
   .have h':c<1000000000000000000:=h
    simp[aV7,h']
    exact F 0 (by rw[h1 h];rfl)
   .have h':¬ c<1000000000000000000:=h
    simp[aV7,h']
    exact F c (h2 (by omega)).symm
 by_cases hat:at_<ns.length
 .have hx:ixM (.ref r) (.int at_) s=.ok (.int (ns.getD at_ 0)) s:=bC1 hs (by simp[hat])
  have e:=G (if ns.getD at_ 0<0 then -ns.getD at_ 0 else ns.getD at_ 0) (by unfold cellF;intro h;rw[if_neg (by omega)]) (by unfold cellF;intro h;rw[if_pos (by omega)];omega)
  rw[<-e]
  simp[au6,z,hat,hx]
 .have e:=G 0 (by unfold cellF;intro h;rw[if_neg];rw[aQ,c8 (by omega)];decide) (by intro h;exact absurd h (by decide))
  rw[<-e]
  simp[au6,z,hat]
theorem at5 {s t:Sto}{r:Nat}{o:O}(h:r<s.length):(s++t).set r o=s.set r o++t:=by rw[List.set_append,if_pos h]
theorem zm {s t:Sto}{r:Nat}{o:O}(h:s[r]?=some o):(s++t)[r]?=some o:=by
 rw[aS (af.mp h).1];exact h
theorem qk {s:Sto}{r:Nat}{o:O}(h:r<s.length):(s.set r o)[r]?=some o:=aR h
theorem aZ7 {P:Pr}[Has P ac7](n:Nat)(b:Nat×Nat)(many:Int)(h0:0<many)(h:many<=10^90)(s:Sto)(r:Nat)(hs:s[r]?=some (ze b)) :
  (aa0 P (n+1)).call "_law_take" [.ref r,.int many] s=.ok (.int (tk b many.toNat).1) (s.set r (ze (tk b many.toNat).2)):=by
 have:=br0 n b many.toNat (P:=P) (by omega) (by have:many<=((10^90:Nat):Int):=(by simpa using h);omega) s r hs
 rwa [show((many.toNat:Nat):Int)=many by omega]at this
noncomputable def bd (b:Nat×Nat):Nat×(Nat×Nat) :=
 let x0:=tk b 3
 let x1:=tk x0.2 13
 let x2:=tk x1.2 1000000000
 let x3:=tk x2.2 1000000000000000000000000000000
 let i:=tk x3.2 4
 ([x0.1,x1.1,x2.1,x3.1].getD i.1 0,i.2)
section
variable {F:Fns} {U:Env} {s:Sto}
noncomputable def at8 (F:Fns)(tg:Tg)(e:E)(d:D)(U:Env)(s:Sto):R (Option D×Env):=match qK U tg d with
 | some U=>(ev F e U s).bind λ v s=>.ok (some v,U) s
 | none=>.bad
noncomputable def bX2 (F:Fns)(tg:Tg)(c e:E)(d:D)(U:Env)(s:Sto):R (Option D×Env):=match qK U tg d with
 | some U=>tru (ev F c U s) λ k s=>if k then(ev F e U s).bind λ v s=>.ok (some v,U) s else .ok (none,U) s
 | none=>.bad
@[simp] theorem aj3 (tg:Tg) (it:I) (e:E) (z:yD):evL F (.comp tg it e z) U s=(evI F it U s).bind λ q s0=>if q.its.length<=LIM then ae1 (λ s=>chk s0 s q.src) (at8 F tg e) q.its (ad0 U z) s0 else .bad:=rfl
@[simp] theorem by6 (tg:Tg) (it:I) (c e:E) (z:yD):evL F (.compIf tg it c e z) U s=(evI F it U s).bind λ q s0=>if q.its.length<=LIM then ae1 (λ s=>chk s0 s q.src) (bX2 F tg c e) q.its (ad0 U z) s0 else .bad:=rfl
@[simp] theorem bY1 (a z:E):ev F (.slU a z) U s=(ev F a U s).bind λ x s=>(ev F z U s).bind λ y s=>match y with|.int i=>slM x none (some i) s|_=>.bad:=rfl
@[simp] theorem aI9 (a z:E):ev F (.slL a z) U s=(ev F a U s).bind λ x s=>(ev F z U s).bind λ y s=>match y with|.int i=>slM x (some i) none s|_=>.bad:=rfl
end
theorem aG3 {ok:Sto->Bool}{g:D->Env->Sto->R (Option D×Env)}(P:Env->Sto->Prop)(f:D->Option D):∀(l:List D) (U:Env) (s:Sto),P U s ->
  (∀ U s,P U s->ok s=true)->(∀ d∈l,∀ U s,P U s->∃ U' s',g d U s=.ok (f d,U') s'/\P U' s')->∃ U' s',ae1 ok g l U s=.ok (l.filterMap f) s'/\P U' s'
 | [],U,s,h,o,_=>⟨U,s,by unfold ae1;rw[if_pos (o U s h)];rfl,h⟩
 | d::l,U,s,h,o,st=>by
  obtain⟨U1,s1,e1,z⟩:=st d (aw ..) U s h
  obtain⟨U2,s2,e2,F⟩:=aG3 P f l U1 s1 z o λ x hx=>st x (ak _ hx)
  refine⟨U2,s2,?_,F⟩
  unfold ae1
  rw[if_pos (o U s h),e1]
  simp only[R.bind_ok]
  rw[e2,bF]
  cases f d<;>rfl
theorem qv {P:Pr}[Has P ac7](n:Nat){s:Sto}{r:Nat}(hs:∃ b,s[r]?=some (ze b))(many:Int)(h0:0<many)(h:many<=10^90) :
  ∃(k:Nat) (b:Nat×Nat),(k:Int)<many/\(aa0 P (n+1)).call "_law_take" [.ref r,.int many] s=.ok (.int k) (s.set r (ze b)):=by
 obtain⟨b,hb⟩:=hs
 have:=bQ2 b (many:=many.toNat) (by omega)
 exact⟨(tk b many.toNat).1,(tk b many.toNat).2,by omega,aZ7 n b many h0 h s r hb⟩
theorem as1 {k:Int}(h:k<=1000):k<=10^90:=ka h (by decide)
theorem qN {s:Sto}{r:Nat}{b:Nat×Nat}(h:r<s.length):∃ z,(s.set r (ze b))[r]?=some (ze z):=⟨b,qk h⟩
theorem ai3 {s t:Sto}{r:Nat}(h:∃ b,s[r]?=some (ze b)):∃ b,(s++t)[r]?=some (ze b):=by obtain⟨b,hb⟩:=h;exact⟨b,zm hb⟩
theorem ak3 {s:Sto}{r:Nat}(h:∃ b,s[r]?=some (ze b)):r<s.length:=by obtain⟨b,hb⟩:=h;exact(af.mp hb).1
theorem aj4 {l:List D}(h:∀ d∈l,∀ n,d.bnd n=true)(n:Nat):D.bndL n l=true:=by
 induction l with
 | nil=>rfl
 | cons d l ih=>unfold D.bndL;rw[h d (aw ..),ih λ x hx=>h x (ak _ hx)];rfl
theorem bm1 {k:Nat}(h:k<3)(s:Sto):ixM (.str [97,98,99]) (.int (k:Int)) s=.ok (.str [97+k]) s:=by
 match k,h with
 | 0,_=>rfl
 | 1,_=>rfl
 | 2,_=>rfl
theorem at3 {P:Pr}[Has P ac7](n:Nat){s t:Sto}{r:Nat}(hr:r<s.length)(b:Nat×Nat)(many:Int)(h0:0<many)(h:many<=10^90) :
  ∃(k:Nat) (z:Nat×Nat),(k:Int)<many/\(aa0 P (n+1)).call "_law_take" [.ref r,.int many] (s.set r (ze b)++t)=.ok (.int k) (s.set r (ze z)++t):=by
 obtain⟨k,z,F,G⟩:=qv (P:=P) n (s:=s.set r (ze b)++t) (r:=r) ⟨b,zm (qk hr)⟩ many h0 h
 refine⟨k,z,F,?_⟩
 rw[G,at5 (by rw[br];exact hr),cj]
theorem ah8 {a b:List Nat}{s:Sto}(h:a.length+b.length<=LIM):qa .add (.str a) (.str b) s=.ok (.str (a++b)) s:=by
 show(if a.length+b.length<=LIM then _ else _:M D) s=_;rw[if_pos h];rfl
def Lts (L:Nat)(w:List Nat):Prop:=∀ c∈w,97<=c/\c<97+L
theorem rep_len (l:List Nat):∀ n,(rep n l).length=l.length*n
 | 0=>by simp[rep]
 | n+1=>by simp[rep,rep_len l n,i8];omega
noncomputable def bL1 (L:Nat)(d:D):Bool:=match d with
 | .str w=>decide (w.length<=200)&&w.all λ c=>decide (97<=c/\c<97+L)
 | _=>false
noncomputable def ab8 (s:Sto):D->Prop
 | .fn _=>False
 | .clo _ _=>False
 | .ref k=>∃ l,s[k]?=some (.lst l)
 | _=>True
theorem at2 {P:Pr}{x:String}{v:D}[HasC P x v]{n:Nat}{U:Env}{s:Sto}:ev (aa0 P n) (.glob x) U s=.ok v s:=by
 show(match(aa0 P n).con x with|some d=>R.ok d s|none=>.bad)=_
 rw[aR4 (v:=v)]
noncomputable abbrev al8:List D:=[.str [97],.str [98],.str [99]]
theorem bv4 {L:Nat}(h:L<=3)(s:Sto):slM (.tup al8) none (some (L:Int)) s=.ok (.tup (al8.take L)) s:=by
 match L,h with
 | 0,_=>rfl
 | 1,_=>rfl
 | 2,_=>rfl
 | 3,_=>rfl
theorem qP {a b:D}{s:Sto}:zL .isin a b s=(inM a b s).bind λ r s=>.ok (.bl r) s:=rfl
@[simp] theorem ca7 {F:Fns} {U:Env} {s:Sto} (a:E):ev F (.neg a) U s=(ev F a U s).bind λ x s=>match x with|.int i=>.ok (.int (-i)) s|_=>.bad:=rfl
structure Dr where
 a:Nat
 l:Nat
 b:Nat
 t:Nat
noncomputable def Dr.d (x:Dr):D:=.tup [.int x.a,.str [x.l],.int x.b,.int x.t]
structure Mc where
 L:Nat
 R:Nat
 bg:List Nat
 en:List Nat
 ds:List Dr
noncomputable def bX8 (l:List Nat):List D:=l.map λ(k:Nat)=>D.int (k:Int)
noncomputable def sg (w:List Nat):List D:=w.map λ c=>.str [c]
noncomputable def Mc.ps (m:Mc):List D:=[.int m.L,.int m.R,.tup (bX8 m.bg),.tup (bX8 m.en),.tup (m.ds.map Dr.d)]
noncomputable def Mc.d (m:Mc):D:=.tup m.ps
structure Dr.Ok (m:Mc)(x:Dr):Prop where
 a:x.a<m.R
 l:97<=x.l/\x.l<97+m.L
 b:x.b<m.R
 t:x.t<4
structure Mc.Ok (m:Mc):Prop where
 L1:1<=m.L
 L3:m.L<=3
 R1:1<=m.R
 R5:m.R<=5
 bg:(∀ k∈m.bg,k<m.R)/\m.bg.Pairwise (· < ·)
 en:(∀ k∈m.en,k<m.R)/\m.en.Pairwise (· < ·)
 ds:(∀ x∈m.ds,x.Ok m)/\m.ds.length<=75
section
variable {P:Pr}
theorem qt {l:List D}{s:Sto}(j:Nat){d:D}(h:l[j]?=some d):ixM (.tup l) (.int (j:Int)) s=.ok d s:=ix_tup h
@[simp] theorem bS0 (a b:Nat) (s:Sto):zL .ne (.str [a]) (.str [b]) s=.ok (.bl (!decide (a=b))) s:=by
 show(match eqv s DEEP (.str [a]) (.str [b])with|some r=>R.ok (D.bl (!r)) s|none=>.bad)=_
 have:eqv s DEEP (.str [a]) (.str [b])=some ([a]==[b]):=rfl
 rw[this]
 have e:([a]==[b])=decide (a=b):=by rw[bL];simp
 rw[e]
@[simp] theorem bW7 (a b:Nat) (s:Sto):zL .eq (.str [a]) (.str [b]) s=.ok (.bl (decide (a=b))) s:=by
 show(match eqv s DEEP (.str [a]) (.str [b])with|some r=>R.ok (D.bl r) s|none=>.bad)=_
 have:eqv s DEEP (.str [a]) (.str [b])=some ([a]==[b]):=rfl
 rw[this]
 have e:([a]==[b])=decide (a=b):=by rw[bL];simp
 rw[e]
end
theorem bs7 {s:Sto}{a b:Nat}{l m:List D}(z:s[a]?=some (.lst l))(F:s[b]?=some (.lst m))(h:l.length+m.length<=LIM):qa .add (.ref a) (.ref b) s=.ok (.ref s.length) (s++[.lst (l++m)]):=by
 show(match s[a]?,s[b]? with
  | some (.lst l),some (.lst m)=>if l.length+m.length<=LIM then af0 (.lst (l++m)) s else .bad
  | _,_=>.bad)=_
 rw[z,F]
 simp only
 rw[if_pos h];rfl
theorem good_of {L:Nat}{w:List Nat}(h:w.length<=200)(hw:Lts L w):bL1 L (.str w)=true:=by
 unfold bL1
 simp only[h,decide_true,d7,aB,decide_eq_true_eq]
 exact hw
def ao9 (x:R D)(s:Sto)(p:Prop):Prop:=∃ b:Bool,x=.ok (.bl b) s/\(b=true↔p)
noncomputable def fit (s:Sto)(B:Nat):Nat->D->Prop
 | 0,d=>(match d with|.tup _=>False|d=>ab8 s d)
 | n+1,d=>(match d with|.tup l=>l.length<=B/\∀ x∈l,fit s B n x|d=>ab8 s d)
theorem fit.thing {s:Sto}{B:Nat}:∀ {n:Nat} {d:D},fit s B n d->ab8 s d
 | 0,d,h=>by cases d<;>first|exact h|exact h.elim|trivial
 | n+1,d,h=>by cases d<;>first|exact h|trivial
theorem fit.tup {s:Sto}{B n:Nat}{l:List D}(h:fit s B n (.tup l)):l.length<=B/\∀ x∈l,∃ m,m<n/\fit s B m x:=by
 cases n with
 | zero=>exact h.elim
 | succ n=>exact⟨h.1,λ x hx=>⟨n,cN n,h.2 x hx⟩⟩
theorem ah2 {s:Sto}{B n:Nat}{d:D}(h:ab8 s d)(z:∀ l,d≠.tup l):fit s B n d:=by
 cases n<;>(cases d<;>first|exact absurd rfl (z _)|exact h)
theorem an1 {s:Sto}{d:D}(h:ab8 s d):bi .isTup [d] s=.ok (.bl (match d with|.tup _=>true|_=>false)) s:=by
 cases d with
 | ref k=>obtain⟨l,e⟩:=h;simp only[bi,bi1,isK,e];rfl
 | fn _=>exact h.elim
 | clo _ _=>exact h.elim
 | _=>rfl
theorem tup_or (d:D):(∃ l,d=.tup l)\/∀ l,d≠.tup l:=by
 cases d<;>first|exact .inl ⟨_,rfl⟩|exact .inr (by nofun)
theorem ba5 {s:Sto}{d:D}(h:ab8 s d)(hn:∀ l,d≠.tup l):bi .isTup [d] s=.ok (.bl false) s:=by
 rw[an1 h];cases d<;>first|rfl|exact absurd rfl (hn _)
theorem ao9.no {s:Sto}{p:Prop}{x:R D}(e:x=.ok (.bl false) s)(h:¬ p):ao9 x s p:=⟨false,e,⟨by nofun,λ q=>absurd q h⟩⟩
theorem qj {P:Pr}[Has P aa5](n:Nat){s:Sto}{d:D}(h:ab8 s d)(k:Nat):ao9 ((aa0 P (n+1)).call "is_tuple_of" [d,.int k] s) s (∃ l,d=.tup l/\l.length=k):=by
 have z:(aa0 P (n+1)).call "is_tuple_of" [d,.int k] s=_:=za aa5 (n:=n) rfl
 rw[z]
 have F:=an1 h
 rcases tup_or d with⟨l,rfl⟩|hn
 ·
  refine⟨decide ((l.length:Int)=(k:Int)),by simp -implicitDefEqProofs [aa5],?_⟩
  rw[decide_eq_true_iff]
  constructor
  .intro e;exact⟨l,rfl,by omega⟩
  .rintro⟨m,e,e2⟩;cases e;omega
 .exact .no (by simp -implicitDefEqProofs [aa5,ba5 h hn]) (by rintro⟨i,e,_⟩;exact hn _ e)
def bO7 (L:Nat)(d:D):Prop:=∃ c,d=.str [c]/\97<=c/\c<97+L
theorem aO3 {s:Sto}{d:D}(h:ab8 s d){L:Nat}(h1:1<=L)(Z:L<=3):∃ b:Bool,inM d (.tup (al8.take L)) s=.ok b s/\(b=true↔bO7 L d):=by
 have e:∀ a:Nat,∃ b:Bool,eqv s DEEP (.str [a]) d=some b/\(b=true↔d=.str [a]):=λ a=>by
  cases d with
  | str w=>exact⟨[a]==w,rfl,by
   rw[beq_iff_eq]
   constructor
   .intro h;rw[h]
   .intro h;cases h;rfl⟩
  | ref k =>
   obtain⟨l,e⟩:=h
   refine⟨false,?_,by constructor<;>intro h<;>cases h⟩
   show ac6 s (.str [a]) (.ref k)=_
   unfold ac6 aC6
   simp only[kd,e];rfl
  | fn _=>exact h.elim
  | clo _ _=>exact h.elim
  | _=>exact⟨false,rfl,by constructor<;>intro h<;>cases h⟩
 obtain⟨b1,e1,z⟩:=e 97
 obtain⟨b2,e2,G⟩:=e 98
 obtain⟨b3,J,Y⟩:=e 99
 match L,h1,Z with
 | 1,_,_ =>
  refine⟨b1||false,by simp only[jW,inM,inL,e1],?_⟩
  rw[dZ,z]
  constructor
  .intro h;exact⟨97,h,by omega,by omega⟩
  .rintro⟨c,rfl,F,h5⟩;rw[show c=97 by omega]
 | 2,_,_ =>
  refine⟨b1||(b2||false),by simp only[jW,inM,inL,e1,e2],?_⟩
  rw[dZ,aY,z,G]
  constructor
  .rintro(h|h)
   .exact⟨97,h,by omega,by omega⟩
   .exact⟨98,h,by omega,by omega⟩
  .rintro⟨c,rfl,F,h5⟩
   rcases(show c=97\/c=98 by omega)with rfl|rfl
   .exact .inl rfl
   .exact .inr rfl
 | 3,_,_ =>
  refine⟨b1||(b2||(b3||false)),by simp only[jW,inM,inL,e1,e2,J],?_⟩
  rw[dZ,aY,aY,z,G,Y]
  constructor
  .rintro(h|h|h)
   .exact⟨97,h,by omega,by omega⟩
   .exact⟨98,h,by omega,by omega⟩
   .exact⟨99,h,by omega,by omega⟩
  .rintro⟨c,rfl,F,h5⟩
   rcases(show c=97\/c=98\/c=99 by omega)with rfl|rfl|rfl
   .exact .inl rfl
   .exact .inr (.inl rfl)
   .exact .inr (.inr rfl)
theorem ax4 {P:Pr}[Has P ab0][HasC P "LETTERS" (.tup al8)](n:Nat){s:Sto}{d:D}(h:ab8 s d){L:Nat}(G:1<=L)(z:L<=3):ao9 ((aa0 P (n+1)).call "is_letter" [d,.int L] s) s (bO7 L d):=by
 have F:(aa0 P (n+1)).call "is_letter" [d,.int L] s=_:=za ab0 (n:=n) rfl
 obtain⟨b,e,hb⟩:=aO3 h G z
 exact⟨b,by rw[F];simp -implicitDefEqProofs [ab0,at2 (v:=.tup al8),bv4 z,qP,e],hb⟩
theorem aq3 {ok:Sto->Bool}{g:D->Env->Sto->R (Option D×Env)}{s:Sto}(ho:ok s=true)(E:Env->Prop)(p:D->Prop):∀(l:List D) (U:Env),E U ->
  (∀ d∈l,∀ U,E U->∃(b:Bool) (U':Env),g d U s=.ok (some (.bl b),U') s/\E U'/\(b=true↔p d))->∃ bs:List Bool,ae1 ok g l U s=.ok (bs.map D.bl) s/\(bs.all id=true↔∀ d∈l,p d)
 | [],U,_,_=>⟨[],by unfold ae1;rw[if_pos ho];rfl,by simp⟩
 | d::l,U,hE,h=>by
  obtain⟨b,U1,e1,z,hb⟩:=h d (aw ..) U hE
  obtain⟨bs,e2,F⟩:=aq3 ho E p l U1 z λ x hx=>h x (ak _ hx)
  refine⟨b::bs,?_,?_⟩
  .unfold ae1
   rw[if_pos ho,e1]
   simp only[R.bind_ok]
   rw[e2];rfl
  .rw[d6,am,F]
   simp only[id,hb,ax,forall_eq_or_imp]
theorem bk6:∀ bs:List Bool,ai7 (bs.map D.bl)=some bs
 | []=>rfl
 | b::bs=>by simp[ai7,bk6 bs]
theorem bZ4 (l:List D):ac8 l (some 1) none=l.drop 1:=by
 unfold ac8
 simp only[loB,hiB,sbd]
 cases l with
 | nil=>rfl
 | cons a l=>simp
theorem bs2 {l:List D}{F z:Option Int}{x:D}(h:x∈ac8 l F z):x∈l:=by
 unfold ac8 at h
 exact dm (cG h)
theorem an8 {s:Sto}{d:D}(h:ab8 s d)(w:List Nat):∃ b:Bool,zL .eq d (.str w) s=.ok (.bl b) s/\(b=true↔d=.str w):=by
 cases d with
 | str v=>exact⟨v==w,rfl,by
   rw[beq_iff_eq]
   constructor
   .intro h;rw[h]
   .intro h;cases h;rfl⟩
 | ref k =>
  obtain⟨l,e⟩:=h
  refine⟨false,?_,by constructor<;>intro h<;>cases h⟩
  have:eqv s DEEP (.ref k) (.str w)=some false:=by
   have z:kd s (.ref k)=4:=by
    show(match s[k]? with|some (.lst _)=>4|_=>9)=4
    rw[e]
   show(if ay8 (kd s (.ref k)) (kd s (.str w))then none else some false)=_
   rw[z];rfl
  show(match eqv s DEEP (.ref k) (.str w)with|some r=>R.ok (D.bl r) s|none=>R.bad)=_
  rw[this]
 | fn _=>exact h.elim
 | clo _ _=>exact h.elim
 | _=>exact⟨false,rfl,by constructor<;>intro h<;>cases h⟩
noncomputable abbrev zh:List Nat:=[108,101,116,116,101,114]
theorem two {l:List D}(h:l.length=2):∃ a b,l=[a,b]:=by
 match l,h with
 | [a,b],_=>exact⟨a,b,rfl⟩
theorem bV8 {l:List D}(h:l.length=3):∃ a b c,l=[a,b,c]:=by
 match l,h with
 | [a,b,c],_=>exact⟨a,b,c,rfl⟩
theorem ai0 {u:Sto}{o:O}:(u++[o])[u.length]?=some o:=by simp
noncomputable abbrev zd:List Nat:=[110,111,116,104,105,110,103]
noncomputable abbrev zA:List Nat:=[114,101,112,101,97,116]
noncomputable abbrev ab2:List Nat:=[101,105,116,104,101,114]
noncomputable abbrev ab1:List Nat:=[98,101,104,105,110,100]
noncomputable def bO8:D->Bool
 | .str [c]=>decide (97<=c/\c<100)
 | _=>false
theorem aj6 {d:D}:bO8 d=true↔bO7 3 d:=by
 constructor
 .intro h
  unfold bO8 at h
  split at h
  .rename_i c
   exact⟨c,rfl,of_decide_eq_true h⟩
  .cases h
 .rintro⟨c,rfl,h⟩;exact decide_eq_true h
noncomputable def aI5:List D->Option (List D)
 | [.str x]=>if x=zd then some []else none
 | [.str x,y]=>if x=zh then(if bO8 y then some []else none)else if x=zA then some [y]else none
 | [.str x,y,z]=>if x=ab2\/x=ab1 then some [y,z]else none
 | _=>none
noncomputable def ae4:D->Option (List D)
 | .tup l=>aI5 l
 | _=>none
theorem av8 {d:D}{l:List D}(h:ae4 d=some l):l.length<=2:=by
 unfold ae4 at h
 split at h
 .unfold aI5 at h
  split at h
  .split at h<;>cases h;decide
  .split at h
   .split at h<;>cases h;decide
   .split at h<;>cases h;simp
  .split at h<;>cases h;simp
  .cases h
 .cases h
noncomputable def ag9:Nat->D->Prop
 | 0,_=>False
 | k+1,d=>∃ l,ae4 d=some l/\∀ x∈l,ag9 k x
noncomputable def psz:Nat->D->Nat
 | 0,_=>0
 | k+1,d=>match ae4 d with|some l=>1+(l.map (psz k)).sum|none=>0
theorem bm2:∀(k:Nat) (d:D),psz k d<2^k
 | 0,_=>by unfold psz;decide
 | k+1,d=>by
  unfold psz
  have G:1<=2^k:=Nat.one_le_two_pow
  rw[j9]
  cases e:ae4 d with
  | none=>show 0<_;omega
  | some l =>
   have hl:=av8 e
   have:=λ x=>bm2 k x
   match l,hl with
   | [],_=>show 1+0<_;omega
   | [a],_=>show 1+(psz k a+0)<_;have z:=this a;omega
   | [a,b],_=>show 1+(psz k a+(psz k b+0))<_;have z:=this a;have F:=this b;omega
def bS6 (d:D):Prop:=ag9 12 d/\psz 12 d<=40
theorem ah4 {s:Sto}:∀ {k:Nat} {d:D},ag9 k d->fit s 1000 k d
 | 0,d,h=>h.elim
 | k+1,d,h=>by
  obtain⟨l,e,hl⟩:=h
  unfold ae4 at e
  split at e
  .unfold aI5 at e
   split at e
   .exact⟨by simp,λ x hx=>by rw[bX.mp hx];exact ah2 trivial (by nofun)⟩
   .rename_i x y
    refine⟨by simp,λ z hz=>?_⟩
    simp only[ax,bc,or_false]at hz
    rcases hz with rfl|rfl
    .exact ah2 trivial (by nofun)
    .split at e
     .split at e
      .rename_i F
       obtain⟨c,rfl,_⟩:=aj6.mp F
       exact ah2 trivial (by nofun)
      .cases e
     .split at e<;>cases e
      exact ah4 (hl _ (bX.mpr rfl))
   .split at e<;>cases e
    refine⟨by simp,λ z hz=>?_⟩
    simp only[ax,bc,or_false]at hz
    rcases hz with rfl|rfl|rfl
    .exact ah2 trivial (by nofun)
    .exact ah4 (hl _ (by simp))
    .exact ah4 (hl _ (by simp))
   .cases e
  .cases e
theorem aI1 (x:List Nat)(y:D):ae4 (.tup [.str x,y])=if x=zh then(if bO8 y then some []else none)else if x=zA then some [y]else none:=rfl
theorem bh5 (x:List Nat)(y z:D):ae4 (.tup [.str x,y,z])=if x=ab2\/x=ab1 then some [y,z]else none:=rfl
theorem ap1 {s:Sto}{d:D}(h:ab8 s d)(a:List Nat):∃ b:Bool,eqv s DEEP (.str a) d=some b/\(b=true↔d=.str a):=by
 cases d with
 | str w=>exact⟨a==w,rfl,by
   rw[beq_iff_eq]
   constructor
   .intro h;rw[h]
   .intro h;cases h;rfl⟩
 | ref k =>
  obtain⟨l,e⟩:=h
  refine⟨false,?_,by constructor<;>intro h<;>cases h⟩
  show ac6 s (.str a) (.ref k)=_
  unfold ac6 aC6
  simp only[kd,e];rfl
 | fn _=>exact h.elim
 | clo _ _=>exact h.elim
 | _=>exact⟨false,rfl,by constructor<;>intro h<;>cases h⟩
theorem qh {s:Sto}{d:D}(h:ab8 s d)(a b:List Nat):∃ r:Bool,inM d (.tup [.str a,.str b]) s=.ok r s/\(r=true↔d=.str a\/d=.str b):=by
 obtain⟨b1,e1,z⟩:=ap1 h a
 obtain⟨b2,e2,F⟩:=ap1 h b
 refine⟨b1||(b2||false),by simp only[inM,inL,e1,e2],?_⟩
 rw[dZ,aY,z,F]
def bg5 (d:D):Prop:=(∃ y,d=.tup [.str zA,y])\/∃ x y z,d=.tup [.str x,y,z]/\(x=ab2\/x=ab1)
theorem ay5 {P:Pr}[Has P aa5][Has P aa9](n:Nat){s:Sto}{B k:Nat}{d:D}(h:fit s B k d):ao9 ((aa0 P (n+2)).call "is_joined" [d] s) s (bg5 d):=by
 have e0:(aa0 P (n+2)).call "is_joined" [d] s=_:=za aa9 (n:=n+1) rfl
 rw[e0]
 obtain⟨b,e,hb⟩:=qj (P:=P) n h.thing 2
 rw[show((2:Nat):Int)=2 from rfl]at e
 conv=>arg 1;simp -implicitDefEqProofs [aa9,e]
 cases b with
 | true =>
  obtain⟨l,rfl,hl⟩:=hb.mp rfl
  obtain⟨x,y,rfl⟩:=two hl
  have Y:ixM (.tup [x,y]) (.int 0) s=.ok x s:=qt 0 rfl
  have F:ab8 s x:=by obtain⟨m,_,q⟩:=h.tup.2 x (by simp);exact q.thing
  obtain⟨b1,e1,J⟩:=an8 F zA
  refine⟨b1,by simp -implicitDefEqProofs [Y,e1],?_⟩
  rw[J]
  constructor
  .rintro rfl;exact .inl ⟨y,rfl⟩
  .rintro(⟨_,e⟩|⟨_,_,_,e,_⟩)
   .cases e;rfl
   .cases e
 | false =>
  obtain⟨b3,Z,G⟩:=qj (P:=P) n h.thing 3
  rw[show((3:Nat):Int)=3 from rfl]at Z
  conv=>arg 1;simp -implicitDefEqProofs [Z]
  have n2:∀ y,d≠.tup [.str zA,y]:=λ y e=>absurd (hb.mpr ⟨_,e,rfl⟩) (by decide)
  cases b3 with
  | false=>exact .no (by simp -implicitDefEqProofs) (by
    rintro(⟨y,e⟩|⟨_,_,_,e,_⟩)
    .exact n2 y e
    .exact absurd (G.mpr ⟨_,e,rfl⟩) (by decide))
  | true =>
   obtain⟨l,rfl,hl⟩:=G.mp rfl
   obtain⟨x,y,z,rfl⟩:=bV8 hl
   have Y:ixM (.tup [x,y,z]) (.int 0) s=.ok x s:=qt 0 rfl
   have F:ab8 s x:=by obtain⟨m,_,q⟩:=h.tup.2 x (by simp);exact q.thing
   obtain⟨b1,e1,J⟩:=qh F ab2 ab1
   refine⟨b1,by simp -implicitDefEqProofs [Y,qP,e1],?_⟩
   rw[J]
   constructor
   .rintro(rfl|rfl)
    .exact .inr ⟨_,y,z,rfl,.inl rfl⟩
    .exact .inr ⟨_,y,z,rfl,.inr rfl⟩
   .rintro(⟨_,e⟩|⟨_,_,_,e,rfl|rfl⟩)
    .cases e
    .cases e;exact .inl rfl
    .cases e;exact .inr rfl
theorem aK7 {k:Nat}{l:List D}(h:bg5 (.tup l)):ag9 (k+1) (.tup l)↔∀ x∈l.drop 1,ag9 k x:=by
 rcases h with⟨y,e⟩|⟨x,y,z,e,hx⟩
 .cases e
  have hp:ae4 (.tup [.str zA,y])=some [y]:=by rw[aI1,if_neg (by decide),if_pos rfl]
  constructor
  .rintro⟨l,e,hl⟩;rw[hp]at e;cases e;exact hl
  .intro hl;exact⟨_,hp,hl⟩
 .cases e
  have hp:ae4 (.tup [.str x,y,z])=some [y,z]:=by rw[bh5,if_pos hx]
  constructor
  .rintro⟨l,e,hl⟩;rw[hp]at e;cases e;exact hl
  .intro hl;exact⟨_,hp,hl⟩
theorem zH {d:D}{l:List D}(h:ae4 d=some l):(d=.tup [.str zd]/\l=[])\/(∃ y,d=.tup [.str zh,y]/\bO7 3 y/\l=[])\/(bg5 d/\∃ a,d=.tup (a::l)):=by
 unfold ae4 at h
 split at h
 .unfold aI5 at h
  split at h
  .split at h
   .rename_i e;cases h;rw[e];exact .inl ⟨rfl,rfl⟩
   .cases h
  .split at h
   .rename_i e
    split at h
    .rename_i hl;cases h;rw[e];exact .inr (.inl ⟨_,rfl,aj6.mp hl,rfl⟩)
    .cases h
   .split at h
    .rename_i e;cases h;rw[e];exact .inr (.inr ⟨.inl ⟨_,rfl⟩,_,rfl⟩)
    .cases h
  .split at h
   .rename_i e;cases h;exact .inr (.inr ⟨.inr ⟨_,_,_,rfl,e⟩,_,rfl⟩)
   .cases h
  .cases h
 .cases h
theorem ap9 {P:Pr}[Has P aa5][Has P ab0][Has P aa9][Has P ab3][HasC P "LETTERS" (.tup al8)](n:Nat){s:Sto}{B:Nat}(hB:B<=1000){k m:Nat}{d:D}(h:fit s B m d)
  (ih:0<k->∀(m:Nat) (x:D),fit s B m x->ao9 ((aa0 P (n+2)).call "is_built" [x,.int (k:Int)] s) s (ag9 k x)) :
  ao9 ((aa0 P (n+3)).call "is_built" [d,.int ((k:Int)+1)] s) s (ag9 (k+1) d):=by
 have e0:(aa0 P (n+3)).call "is_built" [d,.int ((k:Int)+1)] s=_:=za ab3 (n:=n+2) rfl
 rw[e0]
 obtain⟨b,e,hb⟩:=qj (P:=P) (n+1) h.thing 1
 rw[show((1:Nat):Int)=1 from rfl]at e
 conv=>arg 1;simp -implicitDefEqProofs [ab3,e]
 cases b with
 | true =>
  obtain⟨l,rfl,hl⟩:=hb.mp rfl
  obtain⟨x,rfl⟩:∃ x,l=[x]:=by
   match l,hl with
   | [x],_=>exact⟨x,rfl⟩
  have i0:ixM (.tup [x]) (.int 0) s=.ok x s:=qt 0 rfl
  have G:ab8 s x:=by obtain⟨m,_,q⟩:=h.tup.2 x (by simp);exact q.thing
  obtain⟨b1,e1,q1⟩:=an8 G zd
  refine⟨b1,by simp -implicitDefEqProofs [i0,e1],?_⟩
  rw[q1]
  constructor
  .rintro rfl;exact⟨[],rfl,λ x hx=>by cases hx⟩
  .rintro⟨l,e,_⟩
   rcases zH e with⟨e,_⟩|⟨y,e,_⟩|⟨⟨y,e⟩|⟨_,_,_,e,_⟩,_⟩
   .cases e;rfl
   .cases e
   .cases e
   .cases e
 | false =>
  have n1:∀ x,d≠.tup [x]:=λ x e=>absurd (hb.mpr ⟨_,e,rfl⟩) (by decide)
  obtain⟨b2,e2,Z⟩:=qj (P:=P) (n+1) h.thing 2
  rw[show((2:Nat):Int)=2 from rfl]at e2
  have rest:(∀ y,d≠.tup [.str zh,y])->ao9 ((exs (aa0 P (n+2)) (.cons (.ret (.and (.cmp .gt (.var 1) (.cst (.int 1))) (.and (.call "is_joined" (.ex (.var 0) .nil)) (.mk .all (.comp (.one 0) (.seq (.slL (.var 0) (.cst (.int 1)))) (.call "is_built" (.ex (.var 0) (.ex (.bin .sub (.var 1) (.cst (.int 1))) .nil))) [none,some 1]))))) .nil) [some d,some (.int ((k:Int)+1))] s).bind (fin s)) s (ag9 (k+1) d):=λ n2=>by
   have only:ag9 (k+1) d->bg5 d:=by
    rintro⟨l,e,_⟩
    rcases zH e with⟨e,_⟩|⟨y,e,_⟩|⟨hj,_⟩
    .exact absurd e (n1 _)
    .exact absurd e (n2 _)
    .exact hj
   by_cases hk:0<k
   .have a3:(1:Int)<(k:Int)+1:=by omega
    have F:(k:Int)+1 - 1=(k:Int):=by omega
    obtain⟨b3,e3,Y⟩:=ay5 (P:=P) n h
    conv=>arg 1;simp -implicitDefEqProofs [a3,e3]
    cases b3 with
    | false=>exact .no (by simp -implicitDefEqProofs) λ hh=>absurd (Y.mpr (only hh)) (by decide)
    | true =>
     have hj:=Y.mp rfl
     obtain⟨l,rfl⟩:∃ l,d=.tup l:=by
      rcases hj with⟨y,e⟩|⟨_,_,_,e,_⟩
      .exact⟨_,e⟩
      .exact⟨_,e⟩
     have J:slM (.tup l) (some 1) none s=.ok (.tup (l.drop 1)) s:=by show R.ok (D.tup (ac8 l (some 1) none)) s=_;rw[bZ4]
     have sT:aY3 (.tup (l.drop 1)) s=.ok ⟨l.drop 1,[]⟩ s:=rfl
     obtain⟨hl,hx⟩:=h.tup
     obtain⟨bs,e4,q4⟩:=aq3 (ok:=λ a0=>chk s a0 []) (g:=at8 (aa0 P (n+2)) (.one 0) (.call "is_built" (.ex (.var 0) (.ex (.bin .sub (.var 1) (.cst (.int 1))) .nil)))) (s:=s) rfl (λ U=>∃ x,U=[x,some (.int ((k:Int)+1))]) (ag9 k) (l.drop 1) (ad0 [some (.tup l),some (.int ((k:Int)+1))] [none,some 1]) ⟨none,rfl⟩ (by
      rintro d hd U ⟨x,rfl⟩
      obtain⟨m,_,hm⟩:=hx d (dm hd)
      obtain⟨b,e,hb⟩:=ih hk m d hm
      exact⟨b,[some d,some (.int ((k:Int)+1))],by unfold at8;simp -implicitDefEqProofs [F,e],⟨_,rfl⟩,hb⟩)
     have a2:(l.drop 1).length<=LIM:=by rw[bV];unfold LIM;omega
     refine⟨bs.all id,?_,by rw[q4,aK7 hj]⟩
     simp -implicitDefEqProofs only[if_true,zq,R.bind_ok,ev_mk,aj3,evI_seq,aI9,qq,qp,getV_s,qy,qw,J,sT,a2,e4,mk,bk6,nxt_ret,fin_ret,bc5]
   .have F:k=0:=by omega
    subst F
    refine .no (by simp -implicitDefEqProofs) λ hh=>?_
    have hj:=only hh
    obtain⟨l,e,hl⟩:=hh
    rcases zH e with⟨e,_⟩|⟨y,e,_⟩|⟨_,a,e'⟩
    .exact n1 _ e
    .exact n2 _ e
    .cases l with
     | nil=>exact n1 _ e'
     | cons x l=>exact hl x (aw ..)
  conv=>arg 1;simp -implicitDefEqProofs only[e2,if_false,bu,exs_nil,zg,R.bind_ok,z0,zN,ev_and,ev_call,evas_ex,evas_nil,qq,qp,qy,qw,zq]
  cases b2 with
  | false =>
   have:=rest λ y e=>absurd (Z.mpr ⟨_,e,rfl⟩) (by decide)
   simp -implicitDefEqProofs only[if_false,bu,R.bind_ok,zq,exs_nil,z0]at this ⊢
   exact this
  | true =>
   obtain⟨l,rfl,hl⟩:=Z.mp rfl
   obtain⟨x,y,rfl⟩:=two hl
   have i0:ixM (.tup [x,y]) (.int 0) s=.ok x s:=qt 0 rfl
   have i1:ixM (.tup [x,y]) (.int 1) s=.ok y s:=qt 1 rfl
   have G:ab8 s x:=by obtain⟨m,_,q⟩:=h.tup.2 x (by simp);exact q.thing
   have a1:ab8 s y:=by obtain⟨m,_,q⟩:=h.tup.2 y (by simp);exact q.thing
   obtain⟨b3,e3,q3⟩:=an8 G zh
   conv=>arg 1;simp -implicitDefEqProofs only[if_true,ev_cmp,ev_ix,qq,qp,qy,qw,Cn_str,R.bind_ok,i0,e3,zq]
   cases b3 with
   | false =>
    have:=rest λ z e=>by cases e;exact absurd (q3.mpr rfl) (by decide)
    simp -implicitDefEqProofs only[if_false,bu,R.bind_ok,zq,exs_nil,z0]at this ⊢
    exact this
   | true =>
    have hx:=q3.mp rfl
    subst hx
    obtain⟨b4,e4,q4⟩:=ax4 (P:=P) (n+1) a1 (L:=3) (by decide) (by decide)
    rw[show((3:Nat):Int)=3 from rfl]at e4
    refine⟨b4,by simp -implicitDefEqProofs [i1,e4,at2 (v:=.tup al8)],?_⟩
    rw[q4]
    constructor
    .intro hy;exact⟨[],by rw[aI1,if_pos rfl,if_pos (aj6.mpr hy)],λ x hx=>by cases hx⟩
    .rintro⟨l,e,_⟩
     rcases zH e with⟨e,_⟩|⟨z,e,hz,_⟩|⟨⟨z,e⟩|⟨_,_,_,e,_⟩,_⟩
     .cases e
     .cases e;exact hz
     .cases e
     .cases e
theorem aC8 {P:Pr}[Has P aa5][Has P ab0][Has P aa9][Has P ab3][HasC P "LETTERS" (.tup al8)](n:Nat){s:Sto}{B:Nat}(z:B<=1000):∀(k:Nat) {m:Nat} {d:D},fit s B m d ->
  ao9 ((aa0 P (n+k+3)).call "is_built" [d,.int ((k:Int)+1)] s) s (ag9 (k+1) d):=by
 intro k
 induction k with
 | zero =>
  intro m d h
  exact ap9 n z (k:=0) h (λ hk=>absurd hk (by decide))
 | succ k ih =>
  intro m d h
  have:=ap9 (P:=P) (n+k+1) z (k:=k+1) h (λ _ m x hx=>by
   have:=ih hx
   rw[show((k+1:Nat):Int)=(k:Int)+1 by omega]
   exact this)
  rw[show n+(k+1)+3=n+k+1+3 by omega]
  exact this
theorem ar3:∀ l:List Int,qA (l.map D.int)=some l
 | []=>rfl
 | a::l=>by rw[bz];unfold qA;rw[ar3 l];rfl
theorem be2 (l:List Nat):(l.map λ(k:Nat)=>(k:Int)).sum=((l.sum:Nat):Int):=by
 induction l with
 | nil=>rfl
 | cons a l ih=>rw[bz,gT,gT,ih];omega
theorem bz8 {l:List Nat}(hl:l.length<=1000)(h:∀ k∈l,k<=1000000000)(s:Sto):mk .sum (l.map λ(k:Nat)=>D.int (k:Int)) s=.ok (.int ((l.sum:Nat):Int)) s:=by
 have e:(l.map λ(k:Nat)=>D.int (k:Int))=(l.map λ(k:Nat)=>(k:Int)).map D.int:=by rw[fX];rfl
 have hf:bA0 (l.map λ(k:Nat)=>(k:Int))=true:=by
  unfold bA0
  rw[am,aB]
  refine⟨λ i z=>?_,by rw[aI];exact decide_eq_true (by omega)⟩
  obtain⟨k,hk,rfl⟩:=bC.mp z
  have:=h k hk
  exact decide_eq_true (by omega)
 rw[e]
 unfold mk
 simp only[ar3,hf,if_true,be2]
theorem ag3 {α β:Type}{f:α->β}:∀ {l:List α},l.filterMap (λ x=>some (f x))=l.map f
 | []=>rfl
 | a::l=>by rw[bF,ag3];rfl
theorem aN3 {P:Pr}[Has P aa6](n:Nat){s:Sto}:∀(k:Nat) {d:D},k<=20->ag9 (k+1) d->(aa0 P (n+k+1)).call "pieces_in" [d] s=.ok (.int (psz (k+1) d)) s:=by
 intro k
 induction k with
 | zero =>
  intro d _ h
  obtain⟨l,e,hl⟩:=h
  have e0:(aa0 P (n+0+1)).call "pieces_in" [d] s=_:=za aa6 (n:=n) rfl
  rw[e0]
  rcases zH e with⟨rfl,rfl⟩|⟨y,rfl,_,rfl⟩|⟨hj,a,ha⟩
  .obtain⟨b,z,F⟩:=qh (s:=s) (d:=.str zd) trivial zh zd
   have hb:b=true:=F.mpr (.inr rfl)
   subst hb
   have G:ixM (.tup [.str zd]) (.int 0) s=.ok (.str zd) s:=qt 0 rfl
   simp -implicitDefEqProofs [aa6,G,qP,z,psz,e]
  .obtain⟨b,z,F⟩:=qh (s:=s) (d:=.str zh) trivial zh zd
   have hb:b=true:=F.mpr (.inl rfl)
   subst hb
   have G:ixM (.tup [.str zh,y]) (.int 0) s=.ok (.str zh) s:=qt 0 rfl
   simp -implicitDefEqProofs [aa6,G,qP,z,psz,e]
  .cases l with
   | nil =>
    rcases hj with⟨y,e⟩|⟨_,_,_,e,_⟩
    .rw[ha]at e;cases e
    .rw[ha]at e;cases e
   | cons x l=>exact(hl x (aw ..)).elim
 | succ k ih =>
  intro d hk h
  obtain⟨l,e,hl⟩:=h
  have e0:(aa0 P (n+(k+1)+1)).call "pieces_in" [d] s=_:=za aa6 (n:=n+k+1) rfl
  rw[e0]
  have J:psz (k+1+1) d=1+(l.map (psz (k+1))).sum:=by
   show(match ae4 d with|some l=>1+(l.map (psz (k+1))).sum|none=>0)=_
   rw[e]
  rcases zH e with⟨rfl,rfl⟩|⟨y,rfl,_,rfl⟩|⟨hj,a,rfl⟩
  .obtain⟨b,z,F⟩:=qh (s:=s) (d:=.str zd) trivial zh zd
   have hb:b=true:=F.mpr (.inr rfl)
   subst hb
   have G:ixM (.tup [.str zd]) (.int 0) s=.ok (.str zd) s:=qt 0 rfl
   rw[J]
   simp -implicitDefEqProofs [aa6,G,qP,z]
  .obtain⟨b,z,F⟩:=qh (s:=s) (d:=.str zh) trivial zh zd
   have hb:b=true:=F.mpr (.inl rfl)
   subst hb
   have G:ixM (.tup [.str zh,y]) (.int 0) s=.ok (.str zh) s:=qt 0 rfl
   rw[J]
   simp -implicitDefEqProofs [aa6,G,qP,z]
  .obtain⟨v,rfl,hv⟩:∃ v,a=.str v/\¬(v=zh\/v=zd):=by
    rcases hj with⟨y,e⟩|⟨x,_,_,e,hx⟩
    .cases e;exact⟨_,rfl,by decide⟩
    .cases e
     refine⟨_,rfl,?_⟩
     rcases hx with rfl|rfl<;>decide
   obtain⟨b,z,F⟩:=qh (s:=s) (d:=.str v) trivial zh zd
   have hb:b=false:=by
    cases b with
    | false=>rfl
    | true =>
     rcases F.mp rfl with q|q<;>cases q
     .exact absurd (.inl rfl) hv
     .exact absurd (.inr rfl) hv
   subst hb
   have G:ixM (.tup (.str v::l)) (.int 0) s=.ok (.str v) s:=qt 0 rfl
   have Z:slM (.tup (.str v::l)) (some 1) none s=.ok (.tup l) s:=by show R.ok (D.tup (ac8 (.str v::l) (some 1) none)) s=_;rw[bZ4];rfl
   have sT:aY3 (.tup l) s=.ok ⟨l,[]⟩ s:=rfl
   have h2:=av8 e
   have a1:l.length<=LIM:=by unfold LIM;omega
   obtain⟨U1,s1,e1,a2,_⟩:=aG3 (ok:=λ a0=>chk s a0 []) (g:=at8 (aa0 P (n+k+1)) (.one 0) (.call "pieces_in" (.ex (.var 0) .nil))) (λ U u=>u=s/\∃ x,U=[x]) (λ x=>some (.int (psz (k+1) x))) l (ad0 [some (.tup (.str v::l))] [none]) s ⟨rfl,none,rfl⟩ (λ _ _ _=>rfl) (by
    rintro x hx U u ⟨rfl,y,rfl⟩
    exact⟨[some x],u,by unfold at8;simp -implicitDefEqProofs [ih (by omega) (hl x hx)],rfl,_,rfl⟩)
   subst a2
   rw[ag3]at e1
   have em:l.map (λ x=>D.int (psz (k+1) x:Int))=(l.map (psz (k+1))).map λ(k:Nat)=>D.int (k:Int):=by rw[fX];rfl
   rw[em]at e1
   have Y:=bz8 (l:=l.map (psz (k+1))) (by rw[aI];omega) (λ q hq=>by
    obtain⟨x,_,rfl⟩:=bC.mp hq
    have h1:=bm2 (k+1) x
    have h3:2^(k+1)<=2^21:=Nat.pow_le_pow_right (by decide) (by omega)
    have h4:2^21<=1000000000:=by decide
    omega) s1
   rw[J]
   simp -implicitDefEqProofs only[aa6,zg,exs_nil,bz,eU,cL,cA,aj,zN,ev_cmp,ev_ix,qq,qp,qy,qw,R.bind_ok,G,ev_tup,evs_cons,evs_nil,Cn_str,qP,z,zq,if_false,bu,z0,ex_ret,ev_bin,ev_mk,aj3,evI_seq,aI9,Z,sT,a1,if_true,e1,Y,add_int,nxt_ret,fin_ret,aT9]
   congr 2
theorem az4 {P:Pr}[Has P aa5][Has P ab0][Has P aa9][Has P ab3][Has P aa6][Has P ac9][HasC P "LETTERS" (.tup al8)][HasC P "MOST_DEEP" (.int 12)][HasC P "MOST_PIECES" (.int 40)](n:Nat){s:Sto}{B m:Nat}(J:B<=1000){d:D}(h:fit s B m d) :
  ao9 ((aa0 P (n+15)).call "is_set" [d] s) s (bS6 d):=by
 have G:(aa0 P (n+15)).call "is_set" [d] s=_:=za ac9 (n:=n+14) rfl
 rw[G]
 obtain⟨b,e,hb⟩:=aC8 (P:=P) n J 11 h
 rw[show((11:Nat):Int)+1=12 from rfl]at e
 have e':(aa0 P (n+14)).call "is_built" [d,.int 12] s=.ok (.bl b) s:=e
 conv=>arg 1;simp -implicitDefEqProofs [ac9,at2 (v:=.int 12),e']
 cases b with
 | false=>exact .no (by simp -implicitDefEqProofs) λ hh=>absurd (hb.mpr hh.1) (by decide)
 | true =>
  have z:=hb.mp rfl
  have Y:=aN3 (P:=P) (n+2) (s:=s) 11 (by decide) z
  have F:(aa0 P (n+14)).call "pieces_in" [d] s=.ok (.int (psz 12 d)) s:=Y
  refine⟨decide ((psz 12 d:Int)<=40),by simp -implicitDefEqProofs [F,at2 (v:=.int 40)],?_⟩
  rw[decide_eq_true_iff]
  constructor
  .intro hh;exact⟨z,by omega⟩
  .rintro⟨_,hh⟩;omega
noncomputable def SS (s:Sto)(r q:Nat)(b:Nat×Nat)(y:Int):Sto:=(s.set r (ze b)).set q (.lst [.int y])
theorem ah5 {s:Sto}{r q:Nat}{b:Nat×Nat}{y:Int}:(SS s r q b y).length=s.length:=by unfold SS;simp
theorem bT6 {s:Sto}{r q:Nat}{b:Nat×Nat}{y:Int}(hr:r<s.length)(hq:r≠q):(SS s r q b y)[r]?=some (ze b):=by
 unfold SS;rw[aU (dq hq)];exact qk hr
theorem bU9 {s:Sto}{r q:Nat}{b:Nat×Nat}{y:Int}(hq:q<s.length):(SS s r q b y)[q]?=some (.lst [.int y]):=by
 unfold SS;exact qk (by rw[br];exact hq)
theorem aN9 {s:Sto}{r q:Nat}{b z:Nat×Nat}{y:Int}(hq:r≠q):(SS s r q b y).set r (ze z)=SS s r q z y:=by
 unfold SS;rw[List.set_comm _ _ (dq hq),cj]
theorem aS5 {s:Sto}{r q:Nat}{b:Nat×Nat}{y z:Int}:(SS s r q b y).set q (.lst [.int z])=SS s r q b z:=by
 unfold SS;rw[cj]
theorem bw7 {s:Sto}{r q:Nat}{b:Nat×Nat}{y:Int}(z:s[r]?=some (ze b))(F:s[q]?=some (.lst [.int y])):SS s r q b y=s:=by
 unfold SS
 have e1:s.set r (ze b)=s:=by
  have e:s[r]'(af.mp z).1=ze b:=(af.mp z).2
  rw[<-e,da]
 have e2:s.set q (.lst [.int y])=s:=by
  have e:s[q]'(af.mp F).1=.lst [.int y]:=(af.mp F).2
  rw[<-e,da]
 rw[e1,e2]
theorem bG5 {s T:Sto}{r q:Nat}{b:Nat×Nat}{y:Int}(hr:r<s.length)(hq:q<s.length):SS (s++T) r q b y=SS s r q b y++T:=by
 unfold SS;rw[at5 hr,at5 (by rw[br];exact hq)]
theorem bR0 {s:Sto}{r q:Nat}{b F:Nat×Nat}{y z:Int}(hq:r≠q):SS (SS s r q b y) r q F z=SS s r q F z:=by
 show List.set (List.set (SS s r q b y) r (ze F)) q (.lst [.int z])=_
 rw[aN9 hq,aS5]
theorem ba1 {s T:Sto}{r q:Nat}{b:Nat×Nat}{y:Int}{d:D}(h:∀ n,d.bnd n=true)(hd:∀ r,d≠.ref r):zr s d (SS s r q b y++T)=.ok d (SS s r q b y):=by
 have ho:an6 s (SS s r q b y++T)=true:=by
  unfold an6
  rw[aB]
  intro i z
  rw[cr]at z
  rw[aS (by rw[ah5];exact z)]
  unfold SS
  by_cases e:q=i
  .subst e;rw[aR (by simpa using z),aY];exact .inr rfl
  .rw[aU e]
   by_cases e2:r=i
   .subst e2;rw[aR z,aY];exact .inr rfl
   .rw[aU e2];simp
 have e:(SS s r q b y++T).take s.length=SS s r q b y:=by rw[cS (by rw[ah5];exact ao _),cW (by rw[ah5];exact ao _)]
 unfold zr
 rw[if_pos ho]
 cases d with
 | ref r=>exact absurd rfl (hd r)
 | _=>simp only[h,if_true,e]
inductive Tr where
 | nothing|letter (c:Nat)|rep (t:Tr)|two (b:Bool) (t u:Tr)
noncomputable def aI2 (b:Bool):List Nat:=if b then ab2 else ab1
noncomputable def z7 (b:Bool):Nat:=if b then 124 else 46
noncomputable def Tr.d:Tr->D
 | .nothing=>.tup [.str zd]
 | .letter c=>.tup [.str zh,.str [c]]
 | .rep t=>.tup [.str zA,t.d]
 | .two b t u=>.tup [.str (aI2 b),t.d,u.d]
noncomputable def Tr.wr:Tr->List Nat
 | .nothing=>[45]
 | .letter c=>[c]
 | .rep t=>t.wr++[42]
 | .two b t u=>40::(t.wr++z7 b::(u.wr++[41]))
noncomputable def Tr.ok:Tr->Prop
 | .nothing=>True
 | .letter c=>97<=c/\c<100
 | .rep t=>t.ok
 | .two _ t u=>t.ok/\u.ok
noncomputable def Tr.dep:Tr->Nat
 | .nothing=>1
 | .letter _=>1
 | .rep t=>t.dep+1
 | .two _ t u=>max t.dep u.dep+1
noncomputable def Tr.sz:Tr->Nat
 | .nothing=>1
 | .letter _=>1
 | .rep t=>t.sz+1
 | .two _ t u=>t.sz+u.sz+1
theorem Tr.bnd:∀(t:Tr) (n:Nat),t.d.bnd n=true
 | .nothing,n=>rfl
 | .letter c,n=>rfl
 | .rep t,n=>by unfold Tr.d D.bnd D.bndL D.bndL D.bndL;rw[Tr.bnd t n];rfl
 | .two b t u,n=>by unfold Tr.d D.bnd D.bndL D.bndL D.bndL D.bndL;rw[Tr.bnd t n,Tr.bnd u n];rfl
theorem Tr.noref (t:Tr):∀ r,t.d≠.ref r:=by cases t<;>nofun
theorem Tr.tupE (t:Tr):∃ l,t.d=.tup l:=by cases t<;>exact⟨_,rfl⟩
theorem Tr.wr_len:∀ t:Tr,t.wr.length<=4*t.sz
 | .nothing=>by decide
 | .letter _=>by show 1<=4*1;decide
 | .rep t=>by have:=Tr.wr_len t;show(t.wr++[42]).length<=4*(t.sz+1);rw[au,bn];omega
 | .two b t u=>by
  have:=Tr.wr_len t
  have:=Tr.wr_len u
  show(40::(t.wr++z7 b::(u.wr++[41]))).length<=4*(t.sz+u.sz+1)
  simp only[aA,au,cC]
  omega
theorem Tr.parts:∀ t:Tr,t.ok->∃ l,DV.ae4 t.d=some l/\(match t with|.nothing=>l=[]|.letter _=>l=[]|.rep u=>l=[u.d]|.two _ u v=>l=[u.d,v.d])
 | .nothing,_=>⟨[],rfl,rfl⟩
 | .letter c,h=>⟨[],by show DV.ae4 (.tup [.str zh,.str [c]])=_;rw[aI1,if_pos rfl,if_pos (aj6.mpr ⟨c,rfl,h.1,h.2⟩)],rfl⟩
 | .rep t,h=>⟨[t.d],by show DV.ae4 (.tup [.str zA,t.d])=_;rw[aI1,if_neg (by decide),if_pos rfl],rfl⟩
 | .two b t u,h=>⟨[t.d,u.d],by show DV.ae4 (.tup [.str (aI2 b),t.d,u.d])=_;rw[bh5,if_pos (by cases b;exact .inr rfl;exact .inl rfl)],rfl⟩
theorem Tr.built:∀(t:Tr),t.ok->∀ k,t.dep<=k->ag9 k t.d
 | .nothing,h,0,hk=>absurd hk (by show ¬(1<=0);omega)
 | .letter _,h,0,hk=>absurd hk (by show ¬(1<=0);omega)
 | .rep _,h,0,hk=>absurd hk (by show ¬(_+1<=0);omega)
 | .two _ _ _,h,0,hk=>absurd hk (by show ¬(_+1<=0);omega)
 | .nothing,h,k+1,hk=>⟨[],rfl,λ x hx=>by cases hx⟩
 | .letter c,h,k+1,hk=>by
  obtain⟨l,e1,e2⟩:=Tr.parts (.letter c) h
  have e2:l=[]:=e2
  subst e2
  exact⟨[],e1,λ x hx=>by cases hx⟩
 | .rep t,h,k+1,hk=>by
  obtain⟨l,e1,e2⟩:=Tr.parts (.rep t) h
  have e2:l=[t.d]:=e2
  subst e2
  exact⟨_,e1,λ x hx=>by rw[bX.mp hx];exact Tr.built t h k (by have:t.dep+1<=k+1:=hk;omega)⟩
 | .two b t u,h,k+1,hk=>by
  obtain⟨l,e1,e2⟩:=Tr.parts (.two b t u) h
  have e2:l=[t.d,u.d]:=e2
  subst e2
  have hk:max t.dep u.dep+1<=k+1:=hk
  refine⟨_,e1,λ x hx=>?_⟩
  simp only[ax,bc,or_false]at hx
  rcases hx with rfl|rfl
  .exact Tr.built t h.1 k (by omega)
  .exact Tr.built u h.2 k (by omega)
theorem Tr.psz:∀(t:Tr),t.ok->∀ k,t.dep<=k->psz k t.d=t.sz
 | .nothing,h,0,hk=>absurd hk (by show ¬(1<=0);omega)
 | .letter _,h,0,hk=>absurd hk (by show ¬(1<=0);omega)
 | .rep _,h,0,hk=>absurd hk (by show ¬(_+1<=0);omega)
 | .two _ _ _,h,0,hk=>absurd hk (by show ¬(_+1<=0);omega)
 | .nothing,h,k+1,hk=>rfl
 | .letter c,h,k+1,hk=>by
  obtain⟨l,e1,e2⟩:=Tr.parts (.letter c) h
  have e2:l=[]:=e2
  subst e2
  show(match DV.ae4 (Tr.letter c).d with|some l=>1+(l.map (DV.psz k)).sum|none=>0)=1
  rw[e1];rfl
 | .rep t,h,k+1,hk=>by
  obtain⟨l,e1,e2⟩:=Tr.parts (.rep t) h
  have e2:l=[t.d]:=e2
  subst e2
  show(match DV.ae4 (Tr.rep t).d with|some l=>1+(l.map (DV.psz k)).sum|none=>0)=t.sz+1
  rw[e1]
  show 1+(DV.psz k t.d+0)=_
  rw[Tr.psz t h k (by have:t.dep+1<=k+1:=hk;omega)]
  omega
 | .two b t u,h,k+1,hk=>by
  obtain⟨l,e1,e2⟩:=Tr.parts (.two b t u) h
  have e2:l=[t.d,u.d]:=e2
  subst e2
  have hk:max t.dep u.dep+1<=k+1:=hk
  show(match DV.ae4 (Tr.two b t u).d with|some l=>1+(l.map (DV.psz k)).sum|none=>0)=t.sz+u.sz+1
  rw[e1]
  show 1+(DV.psz k t.d+(DV.psz k u.d+0))=_
  rw[Tr.psz t h.1 k (by omega),Tr.psz u h.2 k (by omega)]
  omega
theorem Tr.setP {t:Tr}(h:t.ok)(hd:t.dep<=12)(hz:t.sz<=40):bS6 t.d:=⟨t.built h 12 hd,by rw[t.psz h 12 hd];exact hz⟩
def bJ2 (s:Sto)(r q k room:Nat)(x:R D):Prop:=∃(t:Tr) (b:Nat×Nat) (y:Int),(t.ok/\t.dep<=k/\t.sz<=room)/\x=.ok t.d (SS s r q b y)
theorem ay2 {P:Pr}[Has P ac7][Has P ai2](n:Nat){r q:Nat}(J:r≠q)(k:Nat)(s:Sto)(room:Nat)(hs:∃ b,s[r]?=some (ze b))(hy:∃ y,s[q]?=some (.lst [.int y]))(a6:1<=room)(c1:room<=40)
  (ih:0<k->∀(s:Sto) (room:Nat),(∃ b,s[r]?=some (ze b))->(∃ y,s[q]?=some (.lst [.int y]))->1<=room->room<=40->bJ2 s r q k room ((aa0 P (n+1)).call "_law_set" [.ref r,.int (k:Int),.int room,.ref q] s)) :
  bJ2 s r q (k+1) room ((aa0 P (n+2)).call "_law_set" [.ref r,.int ((k:Int)+1),.int room,.ref q] s):=by
 have e0:(aa0 P (n+2)).call "_law_set" [.ref r,.int ((k:Int)+1),.int room,.ref q] s=_:=za ai2 (n:=n+1) rfl
 rw[e0]
 have hr:=ak3 hs
 obtain⟨b0,b6⟩:=hs
 obtain⟨y0,a4⟩:=hy
 have hq:q<s.length:=(af.mp a4).1
 have s0:=bw7 b6 a4
 have tk:∀(b:Nat×Nat) (y:Int) (T:Sto) (many:Int),0<many->many<=1000->∃(k:Nat) (Z:Nat×Nat),(k:Int)<many/\(aa0 P (n+1)).call "_law_take" [.ref r,.int many] (SS s r q b y++T)=.ok (.int k) (SS s r q Z y++T):=λ b y T many h0 h1=>by
  obtain⟨k,Z,h2,h3⟩:=qv (P:=P) n (s:=SS s r q b y++T) (r:=r) ⟨b,zm (bT6 hr J)⟩ many h0 (as1 h1)
  exact⟨k,Z,h2,by rw[h3,at5 (by rw[ah5];exact hr),aN9 J]⟩
 have a2:∀(b:Nat×Nat) (y:Int) (many:Int),0<many->many<=1000->∃(k:Nat) (Z:Nat×Nat),(k:Int)<many/\(aa0 P (n+1)).call "_law_take" [.ref r,.int many] (SS s r q b y)=.ok (.int k) (SS s r q Z y):=λ b y many h0 h1=>by
  have:=tk b y [] many h0 h1
  simpa using this
 have rc:0<k->∀(b:Nat×Nat) (y:Int) (T:Sto) (rm:Nat),1<=rm->rm<=40->∃(d:Tr) (Z:Nat×Nat) (y':Int),(d.ok/\d.dep<=k/\d.sz<=rm)/\(aa0 P (n+1)).call "_law_set" [.ref r,.int (k:Int),.int rm,.ref q] (SS s r q b y++T)=.ok d.d (SS s r q Z y'++T):=λ hk b y T rm h1 h2=>by
  obtain⟨d,Z,y',hd,e⟩:=ih hk (SS s r q b y++T) rm ⟨b,zm (bT6 hr J)⟩ ⟨y,zm (bU9 hq)⟩ h1 h2
  exact⟨d,Z,y',hd,by rw[e,bG5 (by rw[ah5];exact hr) (by rw[ah5];exact hq),bR0 J]⟩
 obtain⟨kind,b1,c4,e1⟩:=a2 b0 y0 8 (by decide) (by decide)
 have b7:(aa0 P (n+1)).call "_law_take" [.ref r,.int 8] s=.ok (.int kind) (SS s r q b1 y0):=by rw[s0]at e1;exact e1
 have G:∀(d:Tr) (b:Nat×Nat) (y:Int) (T:Sto),(d.ok/\d.dep<=k+1/\d.sz<=room)->bJ2 s r q (k+1) room (zr s d.d (SS s r q b y++T)):=λ d b y T hd=>⟨d,b,y,hd,ba1 d.bnd d.noref⟩
 have F:∀(d:Tr) (b:Nat×Nat) (y:Int),(d.ok/\d.dep<=k+1/\d.sz<=room)->bJ2 s r q (k+1) room (zr s d.d (SS s r q b y)):=λ d b y hd=>by
  have:=G d b y [] hd
  rwa [aF]at this
 have hc:ev (aa0 P (n+1)) (.or (.cmp .eq (.var 1) (.cst (.int 1))) (.or (.cmp .lt (.var 2) (.cst (.int 3))) (.cmp .eq (.var 4) (.cst (.int 0))))) [some (.ref r),some (.int ((k:Int)+1)),some (.int room),some (.ref q),some (.int kind),none,none,none] (SS s r q b1 y0)=.ok (.bl (decide (k=0\/room<3\/kind=0))) (SS s r q b1 y0):=by
  by_cases h0:k=0
  .simp -implicitDefEqProofs [h0]
  .have Y:¬((k:Int)+1=1):=by omega
   by_cases h1:room<3
   .have a1:(room:Int)<3:=by omega
    simp -implicitDefEqProofs [h0,Y,h1,a1]
   .have a1:¬(room:Int)<3:=by omega
    simp -implicitDefEqProofs [h0,Y,h1,a1]
 conv=>arg 6;simp -implicitDefEqProofs only[ai2,zg,bz,eU,cL,cA,aj,ex_asg,ev_call,evas_ex,evas_nil,qq,qp,getV_s,qy,qw,R.bind_ok,b7,qz,setV_s,setV_0,cZ,setC_some,z0,zN,hc,zq]
 by_cases hleaf:k=0\/room<3\/kind=0
 .rw[decide_eq_true hleaf]
  obtain⟨z,b2,c2,e2⟩:=a2 b1 y0 4 (by decide) (by decide)
  have il:ixM (.ref q) (.int 0) (SS s r q b2 y0)=.ok (.int y0) (SS s r q b2 y0):=zE (j:=0) (bU9 hq) rfl
  have c0:ev (aa0 P (n+1)) (.or (.cmp .eq (.var 5) (.cst (.int 3))) (.cmp .eq (.ix (.var 3) (.cst (.int 0))) (.cst (.int 0)))) [some (.ref r),some (.int ((k:Int)+1)),some (.int room),some (.ref q),some (.int kind),some (.int z),none,none] (SS s r q b2 y0)=.ok (.bl (decide (z=3\/y0=0))) (SS s r q b2 y0):=by
   by_cases h0:z=3
   .simp -implicitDefEqProofs [h0]
   .have Y:¬((z:Int)=3):=by omega
    simp -implicitDefEqProofs [h0,Y,il]
  conv=>arg 6;simp -implicitDefEqProofs only[if_true,zg,ex_asg,ev_call,evas_ex,evas_nil,qq,qp,getV_s,qy,qw,R.bind_ok,e2,qz,setV_s,setV_0,cZ,setC_some,z0,zN,c0,zq]
  by_cases h3:z=3\/y0=0
  .rw[decide_eq_true h3]
   conv=>arg 6;simp -implicitDefEqProofs
   exact F .nothing _ _ ⟨trivial,by show 1<=k+1;omega,a6⟩
  .rw[decide_eq_false h3]
   have b5:setIx (.ref q) (.int 0) (.int (y0 - 1)) (SS s r q b2 y0)=.ok () (SS s r q b2 (y0 - 1)):=by
    have:=bp3 (j:=0) (v:=.int (y0 - 1)) (bU9 (b:=b2) (y:=y0) (r:=r) hq) (by simp)
    rw[show((0:Nat):Int)=0 from rfl]at this
    rw[this]
    congr 1
    exact aS5
   have a3:=bm1 (k:=z) (by omega) (SS s r q b2 (y0 - 1))
   conv=>arg 6;simp -implicitDefEqProofs [il,b5,a3]
   exact F (.letter (97+z)) _ _ ⟨⟨by omega,by omega⟩,by show 1<=k+1;omega,a6⟩
 .rw[decide_eq_false hleaf]
  have a0:0<k:=by omega
  have c3:(k:Int)+1 - 1=(k:Int):=by omega
  by_cases h3:(kind:Int)<3
  .obtain⟨d,b2,y2,hd,e2⟩:=rc a0 b1 y0 [] (room - 1) (by omega) (by omega)
   rw[aF,aF,show((room - 1:Nat):Int)=(room:Int) - 1 by omega]at e2
   conv=>arg 6;simp -implicitDefEqProofs [h3,e2]
   exact F (.rep d) _ _ ⟨hd.1,by show d.dep+1<=k+1;omega,by show d.sz+1<=room;omega⟩
  .obtain⟨a,b2,ha,e2⟩:=a2 b1 y0 ((room:Int) - 2) (by omega) (by omega)
   obtain⟨d,b3,y3,hd,e3⟩:=rc a0 b2 y0 [] (a+1) (by omega) (by omega)
   rw[aF,aF,show((a+1:Nat):Int)=1+(a:Int)by omega]at e3
   obtain⟨d',b4,y4,a5,e4⟩:=rc a0 b3 y3 [.lst [.str ab2,.str ab1]] (room - 1 - (a+1)) (by omega) (by omega)
   rw[show((room - 1 - (a+1):Nat):Int)=(room:Int) - 1 - (1+(a:Int))by omega]at e4
   obtain⟨x,hx,ix⟩:∃ x,(x=ab2\/x=ab1)/\ixM (.ref s.length) (.int ((kind:Int) % 2)) (SS s r q b3 y3++[.lst [.str ab2,.str ab1]])=.ok (.str x) (SS s r q b3 y3++[.lst [.str ab2,.str ab1]]):=by
    have hl:(SS s r q b3 y3++[O.lst [.str ab2,.str ab1]])[s.length]?=some (.lst [.str ab2,.str ab1]):=by rw[bT (by rw[ah5];exact ao _),ah5];simp
    rcases(show(kind:Int) % 2=((0:Nat):Int)\/(kind:Int) % 2=((1:Nat):Int)by omega)with h|h
    .exact⟨ab2,.inl rfl,by rw[h];exact zE hl rfl⟩
    .exact⟨ab1,.inr rfl,by rw[h];exact zE hl rfl⟩
   conv=>arg 6;simp -implicitDefEqProofs [h3,e2,e3,ah5,al5,ix,e4]
   rcases hx with rfl|rfl
   .exact G (.two true d d') _ _ _ ⟨⟨hd.1,a5.1⟩,by show max d.dep d'.dep+1<=k+1;omega,by show d.sz+d'.sz+1<=room;omega⟩
   .exact G (.two false d d') _ _ _ ⟨⟨hd.1,a5.1⟩,by show max d.dep d'.dep+1<=k+1;omega,by show d.sz+d'.sz+1<=room;omega⟩
theorem bt7 {P:Pr}[Has P ac7][Has P ai2](n:Nat){r q:Nat}(z:r≠q):∀(k:Nat) (s:Sto) (room:Nat),(∃ b,s[r]?=some (ze b))->(∃ y,s[q]?=some (.lst [.int y]))->1<=room->room<=40 ->
  bJ2 s r q (k+1) room ((aa0 P (n+k+2)).call "_law_set" [.ref r,.int ((k:Int)+1),.int room,.ref q] s):=by
 intro k
 induction k with
 | zero=>intro s room J Y G F;exact ay2 n z 0 s room J Y G F (λ h=>absurd h (by decide))
 | succ k ih =>
  intro s room J Y G F
  have:=ay2 (P:=P) (n+k+1) z (k+1) s room J Y G F (λ _ s room J Y G F=>by
   rw[show((k+1:Nat):Int)=(k:Int)+1 by omega]
   exact ih s room J Y G F)
  rw[show n+(k+1)+2=n+k+1+2 by omega]
  exact this
end DV
end
local macro_rules | `(tactic| tbr_iter [$xs,*]) => `(tactic| simp -implicitDefEqProofs only [DV.zg, DV.exs_nil, DV.ex_asg, DV.zN, DV.ex_ret, DV.ex_ex, DV.ex_for, DV.ex_whl, DV.ex_setIx, DV.qq, DV.qy, DV.ev_bin, DV.ev_not, DV.ev_cmp, DV.ev_and, DV.ev_or, DV.ev_ite, DV.ev_tup, DV.ev_lst, DV.ev_ix, DV.ev_call, DV.ev_bi, DV.ev_mk, DV.ev_meth, DV.ev_isN, DV.evs_nil, DV.evs_cons, DV.evas_nil, DV.evas_ex, DV.evI_seq, DV.evI_rng1, DV.evL_seq, DV.Cn_bl, DV.qw, DV.Cn_non, DV.Cn_str, DV.R.bind_ok, DV.qz, DV.bindT_tup, DV.setVs_nil, DV.setVs_cons, DV.setV_s, DV.setV_0, DV.unsetV_s, DV.unsetV_0, DV.qp, DV.getV_s, Option.map_some, Option.bind_some, DV.setC_some, DV.z0, DV.nxt_ret, DV.nxt_cont, DV.fin_ret, DV.fin_next, DV.add_int, DV.sub_int, DV.lt_int, DV.le_int, DV.gt_int, DV.ge_int, DV.eq_int, DV.ne_int, DV.alloc_eq, DV.zq, if_true, if_false, Bool.false_eq_true, decide_true, decide_false, Bool.not_true, Bool.not_false, $[$xs:term],*])
noncomputable section
namespace DV
class HasD (P:Pr)(c:String)(kvs:outParam (List (List Nat×List Nat))):Prop where
 cdc:P.cdc c=some kvs
theorem aD4 {P:Pr}{c:String}{kvs:List (List Nat×List Nat)}[h:HasD P c kvs]{n:Nat}:(aa0 P n).cdc c=some kvs:=by
 cases n<;>exact h.cdc
section
variable {F:Fns} {U:Env} {s:Sto}
theorem ak6 (e:E)(c:String):ev F (.inC e c) U s=(ev F e U s).bind λ x s=>aL6 F c x s:=rfl
theorem bw0 (c:String)(e:E):ev F (.getC c e) U s=(ev F e U s).bind λ x s=>aO2 F c x s:=rfl
theorem ql (i:Int):ev F (.neg (.cst (.int i))) U s=.ok (.int (-i)) s:=rfl
end
theorem eqs {a b:List Nat}{v:Bool}(h:(a==b)=v)(s:Sto):zL .eq (.str a) (.str b) s=.ok (.bl v) s:=by rw[<-h];rfl
section
variable {P:Pr} [Has P aq5] [Has P aa7]
end
section
variable {P:Pr} [Has P aa7]
theorem qG:∀(t:Tr),t.sz<=1000->∀(n:Nat) (s:Sto),(aa0 P (n+t.dep)).call "_law_written" [t.d] s=.ok (.str t.wr) s
 | .nothing,hz,n,s=>by
  have z:(aa0 P (n+1)).call "_law_written" [Tr.nothing.d] s=_:=za aa7 (n:=n) rfl
  show(aa0 P (n+1)).call "_law_written" [Tr.nothing.d] s=_
  rw[z,show(bJ some [Tr.nothing.d]++aj aa7.vs none)=[some Tr.nothing.d]from rfl]
  have G:∀ S,ixM Tr.nothing.d (.int 0) S=.ok (.str zd) S:=λ S=>qt 0 rfl
  have F:=λ S=>eqs (a:=zd) (b:=zh) (v:=false) rfl S
  have c2:=λ S=>eqs (a:=zd) (b:=zd) (v:=true) rfl S
  tbr_iter [aa7,G,F,c2]
  exact af6
 | .letter c,hz,n,s=>by
  have z:(aa0 P (n+1)).call "_law_written" [(Tr.letter c).d] s=_:=za aa7 (n:=n) rfl
  show(aa0 P (n+1)).call "_law_written" [(Tr.letter c).d] s=_
  rw[z,show(bJ some [(Tr.letter c).d]++aj aa7.vs none)=[some (Tr.letter c).d]from rfl]
  have G:∀ S,ixM (Tr.letter c).d (.int 0) S=.ok (.str zh) S:=λ S=>qt 0 rfl
  have i1:∀ S,ixM (Tr.letter c).d (.int 1) S=.ok (.str [c]) S:=λ S=>qt 1 rfl
  have F:=λ S=>eqs (a:=zh) (b:=zh) (v:=true) rfl S
  tbr_iter [aa7,G,i1,F]
  exact af6
 | .rep t,hz,n,s=>by
  have hz:t.sz+1<=1000:=hz
  have z:(aa0 P (n+t.dep+1)).call "_law_written" [(Tr.rep t).d] s=_:=za aa7 (n:=n+t.dep) rfl
  show(aa0 P (n+t.dep+1)).call "_law_written" [(Tr.rep t).d] s=_
  rw[z,show(bJ some [(Tr.rep t).d]++aj aa7.vs none)=[some (Tr.rep t).d]from rfl]
  have G:∀ S,ixM (Tr.rep t).d (.int 0) S=.ok (.str zA) S:=λ S=>qt 0 rfl
  have i1:∀ S,ixM (Tr.rep t).d (.int 1) S=.ok t.d S:=λ S=>qt 1 rfl
  have F:=λ S=>eqs (a:=zA) (b:=zh) (v:=false) rfl S
  have c2:=λ S=>eqs (a:=zA) (b:=zd) (v:=false) rfl S
  have c3:=λ S=>eqs (a:=zA) (b:=zA) (v:=true) rfl S
  have ih:=qG t (by omega) n s
  have hl:=t.wr_len
  have ha:=ah8 (a:=t.wr) (b:=[42]) (s:=s) (by rw[bn];unfold LIM;omega)
  tbr_iter [aa7,G,i1,F,c2,c3,ih,ha]
  exact af6
 | .two b t u,hz,n,s=>by
  have hz:t.sz+u.sz+1<=1000:=hz
  have z:(aa0 P (n+max t.dep u.dep+1)).call "_law_written" [(Tr.two b t u).d] s=_:=za aa7 (n:=n+max t.dep u.dep) rfl
  show(aa0 P (n+max t.dep u.dep+1)).call "_law_written" [(Tr.two b t u).d] s=_
  rw[z,show(bJ some [(Tr.two b t u).d]++aj aa7.vs none)=[some (Tr.two b t u).d]from rfl]
  have G:∀ S,ixM (Tr.two b t u).d (.int 0) S=.ok (.str (aI2 b)) S:=λ S=>qt 0 rfl
  have i1:∀ S,ixM (Tr.two b t u).d (.int 1) S=.ok t.d S:=λ S=>qt 1 rfl
  have i2:∀ S,ixM (Tr.two b t u).d (.int 2) S=.ok u.d S:=λ S=>qt 2 rfl
  have F:=λ S=>eqs (a:=aI2 b) (b:=zh) (v:=false) (by cases b<;>rfl) S
  have c2:=λ S=>eqs (a:=aI2 b) (b:=zd) (v:=false) (by cases b<;>rfl) S
  have c3:=λ S=>eqs (a:=aI2 b) (b:=zA) (v:=false) (by cases b<;>rfl) S
  have c4:=λ S=>eqs (a:=aI2 b) (b:=ab1) (v:=!b) (by cases b<;>rfl) S
  have Z:=qG t (by omega) (n+(max t.dep u.dep - t.dep)) s
  rw[show n+(max t.dep u.dep - t.dep)+t.dep=n+max t.dep u.dep by omega]at Z
  have Y:=qG u (by omega) (n+(max t.dep u.dep - u.dep)) (s++[.lst [.str [124],.str [46]]])
  rw[show n+(max t.dep u.dep - u.dep)+u.dep=n+max t.dep u.dep by omega]at Y
  have a0:=t.wr_len
  have a5:=u.wr_len
  have ij:ixM (.ref s.length) (.int (if(!b)=true then 1 else 0)) (s++[.lst [.str [124],.str [46]]])=.ok (.str [z7 b]) (s++[.lst [.str [124],.str [46]]]):=by
   cases b
   .exact zE (j:=1) (l:=[.str [124],.str [46]]) (by simp) rfl
   .exact zE (j:=0) (l:=[.str [124],.str [46]]) (by simp) rfl
  have J:∀ S,bi .int [.bl (!b)] S=.ok (.int (if(!b)=true then 1 else 0)) S:=λ S=>by cases b<;>rfl
  have a1:=ah8 (a:=[40]) (b:=t.wr) (s:=s) (by simp only[au,bn];unfold LIM;omega)
  have a2:=ah8 (a:=[40]++t.wr) (b:=[z7 b]) (s:=s++[.lst [.str [124],.str [46]]]) (by simp only[au,bn];unfold LIM;omega)
  have a3:=ah8 (a:=[40]++t.wr++[z7 b]) (b:=u.wr) (s:=s++[.lst [.str [124],.str [46]]]) (by simp only[au,bn];unfold LIM;omega)
  have a4:=ah8 (a:=[40]++t.wr++[z7 b]++u.wr) (b:=[41]) (s:=s++[.lst [.str [124],.str [46]]]) (by simp only[au,bn];unfold LIM;omega)
  tbr_iter [aa7,G,i1,i2,F,c2,c3,c4,Z,Y,J,ij,a1,a2,a3,a4]
  have hw:[40]++t.wr++[z7 b]++u.wr++[41]=(Tr.two b t u).wr:=by
   show _=40::(t.wr++z7 b::(u.wr++[41]))
   simp
  rw[hw]
  exact zz (d:=.str _) (λ _=>rfl) (by nofun)
end
noncomputable def row (m:Nat)(f:Nat->Int):List D:=(bB m).map λ j=>.int (f j)
@[simp] theorem bV6 {m:Nat} {f:Nat->Int}:(row m f).length=m:=by unfold row;simp
noncomputable def bM0 (m:Nat)(f:Nat->Nat->Int):Sto:=(bB m).map λ i=>.lst (row m (f i))
@[simp] theorem bK4 {m:Nat} {f:Nat->Nat->Int}:(bM0 m f).length=m:=by unfold bM0;simp
noncomputable def cd1 (p m:Nat):List D:=(bB m).map λ i=>.ref (p+i)
theorem ix_str {l:List Nat}{j c:Nat}{s:Sto}(hj:l[j]?=some c):ixM (.str l) (.int (j:Int)) s=.ok (.str [c]) s:=by
 have hl:j<l.length:=(af.mp hj).1
 have e:l[j]=c:=(af.mp hj).2
 simp[ixM,ixn,hl,e]
noncomputable def shN (f:Nat->Nat->Int)(i j:Nat):Nat->Int
 | 0=>3
 | k+1=>let b:=max (max (f i k) (if f k k=1 then 2 else f k k)) (f k j);if b<shN f i j k then b else shN f i j k
noncomputable def sh (m:Nat)(f:Nat->Nat->Int)(i j:Nat):Int:=shN f i j m
inductive Stp where
 | let_ (c:Nat)|pair (i j:Nat)|sharp (i:Nat)
noncomputable def Stp.d:Stp->D
 | .let_ c=>.tup [.str [108,101,116,116,101,114],.str [c]]
 | .pair i j=>.tup [.str [112,97,105,114],.int i,.int j]
 | .sharp i=>.tup [.str [115,104,97,114,112],.int i]
section
variable {s:Sto} {r:Nat} {b:Int} {A B Cc:List D} {T:Sto}
end
section
variable {m:Nat} {f:Nat->Nat->Int} {x:Int}
end
noncomputable def bS7 (a c:Int)(vs:List Int):Stp->Int
 | .let_ _=>a
 | .pair i j=>vs.getD i 0+vs.getD j 0
 | .sharp i=>vs.getD i 0*c
noncomputable def vl (a c:Int)(l:List Stp):List Int:=l.foldl (λ vs x=>vs++[bS7 a c vs x]) []
section
variable {F:Fns} {U:Env} {s:Sto}
end
noncomputable def Stp.t (c:Int):Stp->D
 | .sharp i=>.tup [.str [116,105,109,101,115],.int i,.int c]
 | x=>x.d
section
variable {P:Pr} [Has P bD2] [Has P ao4] [HasL P ah6]
end
theorem bl7 {s:Sto}{r q:Nat}{Cc:List D}(z:s[r]?=some (.lst Cc))(F:s[q]?=some (.lst [])):zL .ne (.ref r) (.ref q) s=.ok (.bl (!decide (Cc=[]))) s:=by
 have:eqv s DEEP (.ref r) (.ref q)=some (decide (Cc=[])):=by
  show(match s[r]?,s[q]? with
   | some (O.lst l),some (O.lst m)=>if l.length=m.length then eqL (eqv s 29) l m else some false
   | _,_=>none)=_
  rw[z,F]
  cases Cc with
  | nil=>rfl
  | cons a l=>simp
 show(match eqv s DEEP (.ref r) (.ref q)with|some r=>R.ok (D.bl (!r)) s|none=>.bad)=_
 rw[this]
theorem am3 {s:Sto}{r:Nat}{l:List D}{d:D}(h:s[r]?=some (.lst (l++[d]))):meth .pop (.ref r) [] s=.ok d (s.set r (.lst l)):=by
 show(match s[r]? with|some (.lst l)=>(match l.getLast? with|some d=>R.ok d (s.set r (.lst l.dropLast))|none=>.bad)|_=>.bad:R D)=_
 rw[h]
 show(match(l++[d]).getLast? with|some e=>R.ok e (s.set r (.lst (l++[d]).dropLast))|none=>.bad:R D)=_
 rw[List.getLast?_concat,List.dropLast_concat]
theorem bM2 {s:Sto}{a b:Nat}{l m:List D}(z:s[a]?=some (.lst l))(F:s[b]?=some (.lst m))(h:l.length+m.length<=LIM):qa .add (.ref a) (.ref b) s=.ok (.ref s.length) (s++[.lst (l++m)]):=by
 show(match s[a]?,s[b]? with|some (.lst l),some (.lst m)=>(if l.length+m.length<=LIM then af0 (.lst (l++m)) s else .bad)|_,_=>.bad:R D)=_
 rw[z,F]
 exact if_pos h
theorem aN4 {s:Sto}{a:Nat}{l p:List D}{x:D}{k:Nat}{i:Int}(h:s[a]?=some (.lst l))(z:i=-((k:Int)+1))(hk:k+1<=l.length)(hx:l[l.length - (k+1)]?=some x):ixM (.ref a) (.int i) s=.ok x s:=by
 subst z
 have e:ixn l.length (-((k:Int)+1))=some (l.length - (k+1)):=by
  unfold ixn
  rw[if_neg (by omega),if_pos (by omega)]
  congr 1
  omega
 show(match s[a]? with
  | some (.lst l)=>(match(D.int (-((k:Int)+1)))with|.int i=>(match(ixn l.length i).bind λ j=>l[j]? with|some d=>R.ok d s|none=>.bad)|_=>.bad)
  | some (.ro l)=>(match(D.int (-((k:Int)+1)))with|.int i=>(match(ixn l.length i).bind λ j=>l[j]? with|some d=>R.ok d s|none=>.bad)|_=>.bad)
  | _=>.bad)=_
 rw[h]
 show(match(ixn l.length (-((k:Int)+1))).bind λ j=>l[j]? with|some d=>R.ok d s|none=>.bad)=_
 rw[e,Option.bind_some,hx]
section
variable {P:Pr} [Has P aa3] [Has P aa4] [Has P aa8] [Has P aa2] [HasC P "LETTERS" (.tup al8)] [HasD P "JOINTS" [([124],ab2),([46],ab1)]]
theorem bf6 (n:Nat){s:Sto}{a:Nat}(h:s[a]?=some (.lst [])):(aa0 P (n+1)).call "ends_with_set" [.ref a] s=.ok (.bl false) s:=by
 have z:(aa0 P (n+1)).call "ends_with_set" [.ref a] s=_:=za aa3 (n:=n) rfl
 rw[z,show(bJ some [D.ref a]++aj aa3.vs none)=[some (.ref a)]from rfl]
 have hn:=bl7 (s:=s++[.lst []]) (r:=a) (q:=s.length) (Cc:=[]) (zm h) (by simp)
 tbr_iter [aa3,hn]
 exact zz (d:=.bl false) (λ _=>rfl) (by nofun)
theorem av7 (n:Nat){s:Sto}{a:Nat}{p:List D}{x:D}{b:Bool}(h:s[a]?=some (.lst (p++[x])))(hx:∀ S,bi .isTup [x] S=.ok (.bl b) S):(aa0 P (n+1)).call "ends_with_set" [.ref a] s=.ok (.bl b) s:=by
 have z:(aa0 P (n+1)).call "ends_with_set" [.ref a] s=_:=za aa3 (n:=n) rfl
 rw[z,show(bJ some [D.ref a]++aj aa3.vs none)=[some (.ref a)]from rfl]
 have hn:=bl7 (s:=s++[.lst []]) (r:=a) (q:=s.length) (zm h) (by simp)
 rw[decide_eq_false (by simp)]at hn
 have F:=aN4 (s:=s++[.lst []]) (p:=p) (k:=0) (i:=-1) (zm h) rfl (by simp) (x:=x) (by simp)
 tbr_iter [aa3,hn,ql,F,hx]
 exact zz (d:=.bl b) (λ _=>rfl) (by nofun)
theorem av2 (n:Nat){s:Sto}{a:Nat}{p:List D}{t:Tr}(h:s[a]?=some (.lst (p++[t.d]))):(aa0 P (n+1)).call "ends_with_set" [.ref a] s=.ok (.bl true) s :=
 av7 n h λ S=>by obtain⟨l,e⟩:=t.tupE;rw[e];rfl
theorem aY8 (n:Nat){s:Sto}{a:Nat}{p:List D}{c:List Nat}(h:s[a]?=some (.lst (p++[.str c]))):(aa0 P (n+1)).call "ends_with_set" [.ref a] s=.ok (.bl false) s :=
 av7 n h λ S=>rfl
theorem aj5 (n:Nat){s:Sto}{a:Nat}{p:List D}{x:D}{c:List Nat}(h:s[a]?=some (.lst (p++[.str c,x]))):(aa0 P (n+1)).call "ahead_of_last" [.ref a] s=.ok (.str c) s:=by
 have z:(aa0 P (n+1)).call "ahead_of_last" [.ref a] s=_:=za aa4 (n:=n) rfl
 rw[z,show(bJ some [D.ref a]++aj aa4.vs none)=[some (.ref a)]from rfl]
 have hl:=qD h
 have hg:decide ((1:Int)<((p++[D.str c,x]).length:Int))=true:=decide_eq_true (by simp;omega)
 have F:=aN4 (p:=p) (k:=1) (i:=-2) h rfl (by simp) (x:=.str c) (by simp)
 tbr_iter [aa4,hl,hg,ql,F]
 exact af6
def bx6 (pl:List D):Prop:=pl=[]\/∃ p c,pl=p++[.str c]
theorem bx6.ends {z:List D}(h:bx6 z)(n:Nat){s:Sto}{a:Nat}(hs:s[a]?=some (.lst z)):(aa0 P (n+1)).call "ends_with_set" [.ref a] s=.ok (.bl false) s:=by
 rcases h with rfl|⟨p,c,rfl⟩
 .exact bf6 n hs
 .exact aY8 n hs
theorem ba3 (n:Nat)(b:Bool)(s:Sto):aO2 (aa0 P n) "JOINTS" (.str [z7 b]) s=.ok (.str (aI2 b)) s:=by
 unfold aO2
 rw[aD4 (kvs:=[([124],ab2),([46],ab1)])]
 cases b<;>rfl
theorem qi (n:Nat)(x:List Nat)(s:Sto):aL6 (aa0 P n) "JOINTS" (.str x) s=.ok (.bl (x==[124]||x==[46])) s:=by
 unfold aL6
 rw[aD4 (kvs:=[([124],ab2),([46],ab1)])]
 show R.ok (D.bl (iZ x [([124],ab2),([46],ab1)]).isSome) s=_
 rw[aP,aP]
 cases h1:x==[124]with
 | true=>rfl
 | false =>
  cases h2:x==[46]with
  | true=>rfl
  | false=>rfl
theorem bs3 (n:Nat){s:Sto}{a:Nat}{p:List D}(hp:∀ d∈p,∀ n,d.bnd n=true)(hl:p.length<=1000){b:Bool}{t u:Tr}(h:s[a]?=some (.lst (p++[.str [40],t.d,.str [z7 b],u.d]))) :
  (aa0 P (n+1)).call "join_last" [.ref a] s=.ok .non (s.set a (.lst (p++[(Tr.two b t u).d]))):=by
 have G:(aa0 P (n+1)).call "join_last" [.ref a] s=_:=za aa8 (n:=n) rfl
 rw[G,show(bJ some [D.ref a]++aj aa8.vs none)=[some (.ref a),none,none,none]from rfl]
 have ha:a<s.length:=(af.mp h).1
 have p1:=am3 (l:=p++[.str [40],t.d,.str [z7 b]]) (d:=u.d) (by rw[ar];exact h)
 have F:=am3 (s:=s.set a (.lst (p++[.str [40],t.d,.str [z7 b]]))) (r:=a) (l:=p++[.str [40],t.d]) (d:=.str [z7 b]) (by rw[qk ha,ar];rfl)
 have p3:=am3 (s:=s.set a (.lst (p++[.str [40],t.d]))) (r:=a) (l:=p++[.str [40]]) (d:=t.d) (by rw[qk ha,ar];rfl)
 have p4:=am3 (s:=s.set a (.lst (p++[.str [40]]))) (r:=a) (l:=p) (d:=.str [40]) (qk ha)
 rw[cj]at F p3 p4
 have z:=zS (s:=s.set a (.lst p)) (r:=a) (l:=p) (v:=.tup [.str (aI2 b),t.d,u.d]) (qk ha) (by unfold LIM;omega)
 rw[cj]at z
 have J:=λ S=>ba3 (P:=P) n b S
 tbr_iter [aa8,p1,F,p3,p4,bw0,J,z]
 exact qE (d:=.non) (λ _=>rfl) (by nofun) (by
  unfold O.bnd
  refine aj4 (λ d hd n=>?_) _
  rcases cf.mp hd with h|h
  .exact hp d h n
  .rw[bX.mp h];exact(Tr.two b t u).bnd n)
end
section
variable {P:Pr} [Has P aa3] [Has P aa4] [Has P aa8] [Has P aa2] [HasC P "LETTERS" (.tup al8)] [HasD P "JOINTS" [([124],ab2),([46],ab1)]]
theorem ai5 (n:Nat)(U:Env)(s:Sto):ev (aa0 P n) (.glob "LETTERS") U s=.ok (.tup al8) s:=by
 show(match(aa0 P n).con "LETTERS" with|some d=>R.ok d s|none=>.bad)=_
 rw[aR4 (v:=.tup al8)]
theorem qF {s:Sto}{a:Nat}{l:List D}(h:∀ d∈l,∀ n,d.bnd n=true):zr s .non (s.set a (.lst l))=.ok .non (s.set a (.lst l)) :=
 qE (d:=.non) (λ _=>rfl) (by nofun) (by unfold O.bnd;exact aj4 h _)
theorem ag1 {p:List D}{x:D}(hp:∀ d∈p,∀ n,d.bnd n=true)(hx:∀ n,x.bnd n=true):∀ d∈p++[x],∀ n,d.bnd n=true:=λ d hd n=>by
 rcases cf.mp hd with h|h
 .exact hp d h n
 .rw[bX.mp h];exact hx n
theorem be1 (n:Nat){s:Sto}{a:Nat}{p:List D}(hp:∀ d∈p,∀ n,d.bnd n=true)(hl:p.length<=1000){t:Tr}(h:s[a]?=some (.lst (p++[t.d]))) :
  (aa0 P (n+2)).call "lay_sign" [.ref a,.str [42]] s=.ok .non (s.set a (.lst (p++[(Tr.rep t).d]))):=by
 have G:(aa0 P (n+2)).call "lay_sign" [.ref a,.str [42]] s=_:=za aa2 (n:=n+1) rfl
 rw[G,show(bJ some [D.ref a,.str [42]]++aj aa2.vs none)=[some (.ref a),some (.str [42])]from rfl]
 have ha:a<s.length:=(af.mp h).1
 have J:=λ S=>eqs (a:=[42]) (b:=[42]) (v:=true) rfl S
 have F:=av2 (P:=P) n h
 have p1:=am3 h
 have z:=zS (s:=s.set a (.lst p)) (r:=a) (l:=p) (v:=.tup [.str zA,t.d]) (qk ha) (by unfold LIM;omega)
 rw[cj]at z
 tbr_iter [aa2,J,F,p1,z]
 exact qF (ag1 hp (Tr.rep t).bnd)
theorem aT4 (n:Nat){s:Sto}{a:Nat}{p:List D}(hp:∀ d∈p,∀ n,d.bnd n=true)(hl:p.length<=1000){b:Bool}{t u:Tr}(h:s[a]?=some (.lst (p++[.str [40],t.d,.str [z7 b],u.d]))) :
  (aa0 P (n+2)).call "lay_sign" [.ref a,.str [41]] s=.ok .non (s.set a (.lst (p++[(Tr.two b t u).d]))):=by
 have G:(aa0 P (n+2)).call "lay_sign" [.ref a,.str [41]] s=_:=za aa2 (n:=n+1) rfl
 rw[G,show(bJ some [D.ref a,.str [41]]++aj aa2.vs none)=[some (.ref a),some (.str [41])]from rfl]
 have Y:=λ S=>eqs (a:=[41]) (b:=[42]) (v:=false) rfl S
 have F:=λ S=>eqs (a:=[41]) (b:=[41]) (v:=true) rfl S
 have J:=av2 (P:=P) n (p:=p++[.str [40],t.d,.str [z7 b]]) (t:=u) (by rw[ar];exact h)
 have ah:=aj5 (P:=P) n (p:=p++[.str [40],t.d]) (c:=[z7 b]) (x:=u.d) (by rw[ar];exact h)
 have z:=qi (P:=P) (n+1) [z7 b] s
 have hj:([z7 b]==[124]||[z7 b]==[46])=true:=by cases b<;>rfl
 rw[hj]at z
 have Z:=bs3 (P:=P) n hp hl h
 tbr_iter [aa2,Y,F,J,ak6,ah,z,Z]
 exact qF (ag1 hp (Tr.two b t u).bnd)
theorem aN2 (n:Nat){s:Sto}{a:Nat}{p:List D}(hp:∀ d∈p,∀ n,d.bnd n=true)(hl:p.length<=1000)(b:Bool){t:Tr}(h:s[a]?=some (.lst (p++[.str [40],t.d]))) :
  (aa0 P (n+2)).call "lay_sign" [.ref a,.str [z7 b]] s=.ok .non (s.set a (.lst (p++[.str [40],t.d,.str [z7 b]]))):=by
 have J:(aa0 P (n+2)).call "lay_sign" [.ref a,.str [z7 b]] s=_:=za aa2 (n:=n+1) rfl
 rw[J,show(bJ some [D.ref a,.str [z7 b]]++aj aa2.vs none)=[some (.ref a),some (.str [z7 b])]from rfl]
 have Z:=λ S=>eqs (a:=[z7 b]) (b:=[42]) (v:=false) (by cases b<;>rfl) S
 have G:=λ S=>eqs (a:=[z7 b]) (b:=[41]) (v:=false) (by cases b<;>rfl) S
 have c3:=λ S=>eqs (a:=[40]) (b:=[40]) (v:=true) rfl S
 have F:=qi (P:=P) (n+1) [z7 b] s
 have hj:([z7 b]==[124]||[z7 b]==[46])=true:=by cases b<;>rfl
 rw[hj]at F
 have Y:=av2 (P:=P) n (p:=p++[.str [40]]) (t:=t) (by rw[ar];exact h)
 have ah:=aj5 (P:=P) n (p:=p) (c:=[40]) (x:=t.d) h
 have z:=zS (s:=s) (r:=a) (v:=.str [z7 b]) h (by rw[au];unfold LIM;simp;omega)
 rw[ar]at z
 tbr_iter [aa2,Z,G,c3,ak6,F,Y,ah,z]
 exact qF (λ d hd n=>by
  rcases cf.mp hd with h|h
  .exact hp d h n
  .have h:d=.str [40]\/d=t.d\/d=.str [z7 b]:=by simpa using h
   rcases h with rfl|rfl|rfl
   .rfl
   .exact t.bnd n
   .rfl)
theorem bc9 (n:Nat){s:Sto}{a:Nat}{p:List D}(hp:∀ d∈p,∀ n,d.bnd n=true)(hl:p.length<=1000)(ho:bx6 p)(h:s[a]?=some (.lst p)) :
  (aa0 P (n+2)).call "lay_sign" [.ref a,.str [40]] s=.ok .non (s.set a (.lst (p++[.str [40]]))):=by
 have J:(aa0 P (n+2)).call "lay_sign" [.ref a,.str [40]] s=_:=za aa2 (n:=n+1) rfl
 rw[J,show(bJ some [D.ref a,.str [40]]++aj aa2.vs none)=[some (.ref a),some (.str [40])]from rfl]
 have Y:=λ S=>eqs (a:=[40]) (b:=[42]) (v:=false) rfl S
 have G:=λ S=>eqs (a:=[40]) (b:=[41]) (v:=false) rfl S
 have c3:=λ S=>eqs (a:=[40]) (b:=[40]) (v:=true) rfl S
 have Z:aL6 (aa0 P (n+1)) "JOINTS" (.str [40]) s=.ok (.bl false) s:=qi (P:=P) (n+1) [40] s
 have F:=ho.ends (P:=P) n h
 have z:=zS (s:=s) (r:=a) (v:=.str [40]) h (by unfold LIM;omega)
 tbr_iter [aa2,Y,G,c3,ak6,Z,F,z]
 exact qF (ag1 hp λ _=>rfl)
theorem bg4 (n:Nat){s:Sto}{a:Nat}{p:List D}(hp:∀ d∈p,∀ n,d.bnd n=true)(hl:p.length<=1000)(ho:bx6 p)(h:s[a]?=some (.lst p)) :
  (aa0 P (n+2)).call "lay_sign" [.ref a,.str [45]] s=.ok .non (s.set a (.lst (p++[Tr.nothing.d]))):=by
 have J:(aa0 P (n+2)).call "lay_sign" [.ref a,.str [45]] s=_:=za aa2 (n:=n+1) rfl
 rw[J,show(bJ some [D.ref a,.str [45]]++aj aa2.vs none)=[some (.ref a),some (.str [45])]from rfl]
 have Y:=λ S=>eqs (a:=[45]) (b:=[42]) (v:=false) rfl S
 have G:=λ S=>eqs (a:=[45]) (b:=[41]) (v:=false) rfl S
 have c3:=λ S=>eqs (a:=[45]) (b:=[40]) (v:=false) rfl S
 have c4:=λ S=>eqs (a:=[45]) (b:=[45]) (v:=true) rfl S
 have Z:aL6 (aa0 P (n+1)) "JOINTS" (.str [45]) s=.ok (.bl false) s:=qi (P:=P) (n+1) [45] s
 have F:=ho.ends (P:=P) n h
 have z:=zS (s:=s) (r:=a) (v:=.tup [.str zd]) h (by unfold LIM;omega)
 tbr_iter [aa2,Y,G,c3,c4,ak6,Z,F,z]
 exact qF (ag1 hp Tr.nothing.bnd)
theorem aJ8 (n:Nat){s:Sto}{a:Nat}{p:List D}(hp:∀ d∈p,∀ n,d.bnd n=true)(hl:p.length<=1000)(ho:bx6 p){c:Nat}(hc:97<=c/\c<100)(h:s[a]?=some (.lst p)) :
  (aa0 P (n+2)).call "lay_sign" [.ref a,.str [c]] s=.ok .non (s.set a (.lst (p++[(Tr.letter c).d]))):=by
 have J:(aa0 P (n+2)).call "lay_sign" [.ref a,.str [c]] s=_:=za aa2 (n:=n+1) rfl
 rw[J,show(bJ some [D.ref a,.str [c]]++aj aa2.vs none)=[some (.ref a),some (.str [c])]from rfl]
 have ne:∀ k:Nat,k<97->([c]==[k])=false:=λ k hk=>by simp;omega
 have F:([c]==[124])=false:=by simp;omega
 have Y:=λ S=>eqs (a:=[c]) (b:=[42]) (v:=false) (ne 42 (by decide)) S
 have Z:=λ S=>eqs (a:=[c]) (b:=[41]) (v:=false) (ne 41 (by decide)) S
 have c3:=λ S=>eqs (a:=[c]) (b:=[40]) (v:=false) (ne 40 (by decide)) S
 have c4:=λ S=>eqs (a:=[c]) (b:=[45]) (v:=false) (ne 45 (by decide)) S
 have z:=qi (P:=P) (n+1) [c] s
 rw[F,ne 46 (by decide)]at z
 have z:aL6 (aa0 P (n+1)) "JOINTS" (.str [c]) s=.ok (.bl false) s:=z
 have ee:=ho.ends (P:=P) n h
 have ea:=zS (s:=s) (r:=a) (v:=.tup [.str zh,.str [c]]) h (by unfold LIM;omega)
 have G:zL .isin (.str [c]) (.tup al8) s=.ok (.bl true) s:=by
  have:c=97\/c=98\/c=99:=by omega
  rcases this with rfl|rfl|rfl<;>rfl
 have gl:=λ U S=>ai5 (P:=P) (n+1) U S
 tbr_iter [aa2,Y,Z,c3,c4,ak6,z,gl,G,ee,ea]
 exact qF (ag1 hp (Tr.letter c).bnd)
end
theorem zK {s:Sto}{o:O}:(s++[o])[s.length]?=some o:=by simp
theorem az0 {ok:Sto->Bool}{g:D->Env->Sto->R Ct}{d:D}{l:List D}{U U':Env}{s s':Sto}(ho:ok s=true)(h:g d U s=.ok (.next U') s'):av3 ok g (d::l) U s=av3 ok g l U' s':=by
 show(if ok s then _ else _)=_
 rw[if_pos ho,h]
 rfl
noncomputable def at9:Ss:=(.cons (.ex (.call "lay_sign" (.ex (.var 1) (.ex (.var 2) .nil)))) .nil)
section
variable {P:Pr} [Has P aa3] [Has P aa4] [Has P aa8] [Has P aa2] [HasC P "LETTERS" (.tup al8)] [HasD P "JOINTS" [([124],ab2),([46],ab1)]]
theorem aG0 (n:Nat){s:Sto}{p p':List D}{c:Nat}{x0 x2:Option D}(h:(aa0 P (n+2)).call "lay_sign" [.ref s.length,.str [c]] (s++[.lst p])=.ok .non ((s++[O.lst p]).set s.length (.lst p'))) :
  turn (aa0 P (n+2)) (.one 2) at9 (.str [c]) [x0,some (.ref s.length),x2] (s++[.lst p])=.ok (.next [x0,some (.ref s.length),some (.str [c])]) (s++[.lst p']):=by
 have e:(s++[O.lst p]).set s.length (.lst p')=s++[.lst p']:=by rw[List.set_append_right _ _ (ao _)];simp
 rw[e]at h
 unfold turn at9
 tbr_iter [h]
end
theorem aG4 (s:Sto):∀(t:Tr) (n:Nat),t.dep<=n->eqv s n t.d t.d=some true
 | .nothing,0,h=>absurd h (by show ¬(1<=0);omega)
 | .letter _,0,h=>absurd h (by show ¬(1<=0);omega)
 | .rep _,0,h=>absurd h (by show ¬(_+1<=0);omega)
 | .two _ _ _,0,h=>absurd h (by show ¬(_+1<=0);omega)
 | .nothing,n+1,h=>by
  show eqL (eqv s n) [.str zd] [.str zd]=_
  show(match eqv s n (.str zd) (.str zd),some true with|some x,some y=>some (x&&y)|_,_=>none)=_
  rw[eqv_strT]
  rfl
 | .letter c,n+1,h=>by
  show(match eqv s n (.str zh) (.str zh),(match eqv s n (.str [c]) (.str [c]),some true with|some x,some y=>some (x&&y)|_,_=>none)with|some x,some y=>some (x&&y)|_,_=>none)=_
  rw[eqv_strT,eqv_strT]
  rfl
 | .rep t,n+1,h=>by
  have h:t.dep+1<=n+1:=h
  show(match eqv s n (.str zA) (.str zA),(match eqv s n t.d t.d,some true with|some x,some y=>some (x&&y)|_,_=>none)with|some x,some y=>some (x&&y)|_,_=>none)=_
  rw[eqv_strT,aG4 s t n (by omega)]
  rfl
 | .two b t u,n+1,h=>by
  have h:max t.dep u.dep+1<=n+1:=h
  show(match eqv s n (.str (aI2 b)) (.str (aI2 b)),(match eqv s n t.d t.d,(match eqv s n u.d u.d,some true with|some x,some y=>some (x&&y)|_,_=>none)with|some x,some y=>some (x&&y)|_,_=>none)with|some x,some y=>some (x&&y)|_,_=>none)=_
  rw[eqv_strT,aG4 s t n (by omega),aG4 s u n (by omega)]
  rfl
where
 eqv_strT {s:Sto} {n:Nat} {a:List Nat}:eqv s n (.str a) (.str a)=some true:=by
  cases n with
  | zero=>show some (a==a)=_;simp
  | succ n=>show some (a==a)=_;simp
theorem bR1 (s:Sto){t:Tr}(h:t.dep<=12):zL .ne t.d t.d s=.ok (.bl false) s:=by
 show(match eqv s DEEP t.d t.d with|some r=>R.ok (D.bl (!r)) s|none=>.bad)=_
 rw[aG4 s t DEEP (by unfold DEEP;omega)]
 rfl
theorem bN3 (s:Sto)(a:List Nat):zL .ne (.str a) (.str a) s=.ok (.bl false) s:=by
 show R.ok (D.bl (!(a==a))) s=_
 simp
class HasX (P:Pr)(f:String)(d:Xf):Prop where
 at_:P.xf f=some d
class HasT (P:Pr)(f:String)(d:Tf):Prop where
 no:P.df f=none
 at_:P.tf f=some d
class HasE (P:Pr)(c:String)(ts:List String):Prop where
 at_:P.xc c=true
 ts:∀ t∈ts,P.xt t=true
theorem az3 {P:Pr}{f:String}(d:Xf)[h:HasX P f d]{n:Nat}{l:List D}{s:Sto}(hl:l.length=d.ps):(aa0 P (n+1)).xcall f l s=xB (aa0 P n) d.body (l.map some++aj d.vs none) s:=by
 show(match P.xf f with|some d=>if l.length=d.ps then xB (aa0 P n) d.body (l.map some++aj d.vs none) s else none|none=>none)=_
 rw[h.at_]
 exact if_pos hl
theorem bm9 {P:Pr}{f:String}(d:Tf)[h:HasT P f d]{n:Nat}{l:List D}{s:Sto}(hl:l.length=d.ps):(aa0 P (n+1)).call f l s=bx3 (aa0 P n) d l s:=by
 have e:(aa0 P (n+1)).call f l s=match P.df f with
   | some d=>if l.length=d.ps then(exs (aa0 P n) d.body (l.map some++aj d.vs none) s).bind λ c s'=>match c with
     | .ret v=>zr s v s'
     | .next _=>zr s .non s'
     | _=>.bad else .bad
   | none=>match P.tf f with
    | some d=>if l.length=d.ps then bx3 (aa0 P n) d l s else .bad
    | none=>.bad:=rfl
 rw[e,h.no]
 show(match P.tf f with|some d=>if l.length=d.ps then bx3 (aa0 P n) d l s else .bad|none=>.bad)=_
 rw[h.at_]
 exact if_pos hl
theorem bg1 {F:Fns}{d:Tf}{l:List D}{s:Sto}(h:d.pre=.nil):bx3 F d l s=be7 F d s (l.map some++aj d.vs none) s:=by
 unfold bx3
 rw[h]
 rfl
theorem bc4 {P:Pr}{n:Nat}:(aa0 P n).xc=P.xc/\(aa0 P n).xt=P.xt:=by cases n<;>exact⟨rfl,rfl⟩
inductive Op where
 | nil|par (p:Op)|jn (b:Bool) (t:Tr) (p:Op)
inductive It where
 | sg (c:Nat)|st (t:Tr)
noncomputable def It.d:It->D
 | .sg c=>.str [c]|.st t=>t.d
noncomputable def It.e:It->D
 | .sg c=>.str [c]|.st t=>.tup [t.d,.int (t.sz:Int),.int (t.dep:Int)]
noncomputable def Op.l:Op->List It
 | .nil=>[]|.par p=>.sg 40::p.l|.jn b t p=>.sg (z7 b)::.st t::.sg 40::p.l
noncomputable def mL:Option Tr->List It
 | none=>[]|some t=>[.st t]
noncomputable abbrev Qs:=Op×Option Tr
noncomputable def Qs.l (q:Qs):List It:=mL q.2++q.1.l
noncomputable def Op.ok:Op->Prop
 | .nil=>True|.par p=>p.ok|.jn _ t p=>t.ok/\p.ok
def Qs.ok (q:Qs):Prop:=q.1.ok/\∀ t,q.2=some t->t.ok
noncomputable def isJ (c:Nat):Bool:=c==124||c==46
noncomputable def isL (c:Nat):Bool:=c==97||(c==98||c==99)
noncomputable def qf:Qs->Nat->Option Qs
 | (o,some t),c =>
  if c=42 then some (o,some (.rep t))
  else if c=41 then(match o with|.jn b u p=>some (p,some (.two b u t))|_=>none)
  else if isJ c then(match o with|.par p=>some (.jn (c==124) t p,none)|_=>none)
  else none
 | (o,none),c =>
  if c=40 then some (.par o,none)
  else if c=45 then some (o,some .nothing)
  else if isL c then some (o,some (.letter c))
  else none
noncomputable def stS (o:Op)(t:Tr)(c:Nat):Option Qs:=if c=42 then some (o,some (.rep t))
  else if c=41 then(match o with|.jn b u p=>some (p,some (.two b u t))|_=>none)
  else if isJ c then(match o with|.par p=>some (.jn (c==124) t p,none)|_=>none)
  else none
noncomputable def stN (o:Op)(c:Nat):Option Qs:=if c=40 then some (.par o,none)
  else if c=45 then some (o,some .nothing)
  else if isL c then some (o,some (.letter c))
  else none
theorem ak8 (o:Op)(t:Tr)(c:Nat):qf (o,some t) c=stS o t c:=rfl
theorem an4 (o:Op)(c:Nat):qf (o,none) c=stN o c:=rfl
noncomputable def ap2:Qs->List Nat->Option Qs
 | q,[]=>some q
 | q,c::w=>match qf q c with|some q'=>ap2 q' w|none=>none
noncomputable def qR:List It->Bool
 | .st _::_=>true|_=>false
noncomputable def zX:List It->Option (List It)
 | .st u::.sg j::.st t::.sg p::R=>if isJ j&&p==40 then some (.st (.two (j==124) t u)::R)else none
 | _=>none
noncomputable def bW4:List It->Option (List It)
 | .st t::R=>some (.st (.rep t)::R)|_=>none
noncomputable def qd (R:List It)(c:Nat):Option (List It) :=
 if isL c&&!qR R then some (.st (.letter c)::R)
 else if c==45&&!qR R then some (.st .nothing::R)
 else if c==40&&!qR R then some (.sg 40::R)
 else if isJ c&&qR R then some (.sg c::R)
 else if c==42&&qR R then bW4 R
 else if c==41&&qR R then zX R
 else none
noncomputable def aB4:List It->List Nat->Option (List It)
 | R,[]=>some R
 | R,c::w=>match qd R c with|some R'=>aB4 R' w|none=>none
theorem aS6 {c:Nat}:isL c=true↔97<=c/\c<100:=by
 unfold isL
 simp only[aY,beq_iff_eq]
 omega
theorem aB3 {c:Nat}:isJ c=true↔c=124\/c=46:=by
 unfold isJ
 simp only[aY,beq_iff_eq]
theorem bj9 {c:Nat}(h:isJ c=true):z7 (c==124)=c:=by
 rcases aB3.mp h with rfl|rfl<;>rfl
theorem bX4 (b:Bool):isJ (z7 b)=true:=by cases b<;>rfl
theorem aD6 (o:Op):qR o.l=false:=by cases o<;>rfl
theorem ba0 {q F:Qs}{c:Nat}(h:q.ok)(e:qf q c=some F):F.ok:=by
 obtain⟨o,m⟩:=q
 cases m with
 | some t =>
  have z:=h.2 t rfl
  rw[ak8]at e
  unfold stS at e
  split at e
  .cases e;exact⟨h.1,λ u hu=>by cases hu;exact z⟩
  .split at e
   .cases o with
    | jn b u p=>cases e;exact⟨h.1.2,λ v hv=>by cases hv;exact⟨h.1.1,z⟩⟩
    | _=>cases e
   .split at e
    .cases o with
     | par p=>cases e;exact⟨⟨z,h.1⟩,λ v hv=>by cases hv⟩
     | _=>cases e
    .cases e
 | none =>
  rw[an4]at e
  unfold stN at e
  split at e
  .cases e;exact⟨h.1,λ u hu=>by cases hu⟩
  .split at e
   .cases e;exact⟨h.1,λ u hu=>by cases hu;trivial⟩
   .split at e
    .rename_i hc
     cases e
     exact⟨h.1,λ u hu=>by cases hu;exact aS6.mp hc⟩
    .cases e
theorem av1 {q F:Qs}{c:Nat}(e:qf q c=some F):qd q.l c=some F.l:=by
 obtain⟨o,m⟩:=q
 cases m with
 | some t =>
  have z:qR (Qs.l (o,some t))=true:=rfl
  rw[ak8]at e
  unfold stS at e
  unfold qd
  rw[z]
  split at e
  .rename_i hc;subst hc;cases e;rfl
  .split at e
   .rename_i hc;subst hc
    cases o with
    | jn b u p =>
     cases e
     show zX (.st t::.sg (z7 b)::.st u::.sg 40::p.l)=_
     cases b<;>rfl
    | _=>cases e
   .split at e
    .rename_i hc
     cases o with
     | par p =>
      cases e
      rcases aB3.mp hc with rfl|rfl<;>rfl
     | _=>cases e
    .cases e
 | none =>
  have z:qR (Qs.l (o,none))=false:=aD6 o
  rw[an4]at e
  unfold stN at e
  unfold qd
  rw[z]
  split at e
  .rename_i hc;subst hc;cases e;rfl
  .split at e
   .rename_i hc;subst hc;cases e;rfl
   .split at e
    .rename_i hc;cases e;rw[hc];rfl
    .cases e
def bk2 (R:List It):Prop:=∃ pre j t rest,R=pre++.sg j::.st t::rest/\isJ j=true/\∀ r,rest≠.sg 40::r
theorem bd8 {R:List It}{c:Nat}(h:bk2 R){F:List It}(e:qd R c=some F):bk2 F:=by
 obtain⟨pre,j,t,rest,rfl,hj,hr⟩:=h
 have z:∀ x,bk2 (x::(pre++.sg j::.st t::rest)):=λ x=>⟨x::pre,j,t,rest,rfl,hj,hr⟩
 unfold qd at e
 split at e
 .cases e;exact z _
 .split at e
  .cases e;exact z _
  .split at e
   .cases e;exact z _
   .split at e
    .cases e;exact z _
    .split at e
     .cases pre with
      | nil=>cases e
      | cons x pre=>cases x with
       | sg _=>cases e
       | st u=>cases e;exact⟨_::pre,j,t,rest,rfl,hj,hr⟩
     .split at e
      .have key:zX (pre++.sg j::.st t::rest)=some F:=e
       match pre,key with
       | [],key=>cases key
       | [.sg _],key=>cases key
       | [.st u],key =>
        cases rest with
        | nil=>cases key
        | cons x rest=>cases x with
         | st _=>cases key
         | sg p =>
          have key:(if isJ j&&p==40 then some (It.st (.two (j==124) t u)::rest)else none)=some F:=key
          split at key
          .rename_i hp
           have:p=40:=by
            rw[am,beq_iff_eq]at hp;exact hp.2
           subst this
           exact absurd rfl (hr rest)
          .cases key
       | [.sg _,_],key=>cases key
       | [.st _,.sg _],key=>cases key
       | [.st _,.st _],key=>cases key
       | [.sg _,_,_],key=>cases key
       | [.st _,.st _,_],key=>cases key
       | [.st _,.sg _,.sg _],key=>cases key
       | [.st u,.sg i,.st v],key =>
        have key:(if isJ i&&j==40 then some (It.st (.two (i==124) v u)::(.st t::rest))else none)=some F:=key
        split at key
        .rename_i hp
         have:j=40:=by rw[am,beq_iff_eq]at hp;exact hp.2
         subst this
         cases hj
        .cases key
       | x1::x2::x3::x4::pre,key =>
        cases x1 with
        | sg _=>cases key
        | st u=>cases x2 with
         | st _=>cases key
         | sg i=>cases x3 with
          | sg _=>cases key
          | st v=>cases x4 with
           | st _=>cases key
           | sg p =>
            have key:(if isJ i&&p==40 then some (It.st (.two (i==124) v u)::(pre++.sg j::.st t::rest))else none)=some F:=key
            split at key
            .cases key;exact⟨_::pre,j,t,rest,rfl,hj,hr⟩
            .cases key
      .cases e
theorem bc1 {q:Qs}{c:Nat}(e:qf q c=none){R:List It}(h:qd q.l c=some R):bk2 R:=by
 obtain⟨o,m⟩:=q
 cases m with
 | some t =>
  have J:qR (Qs.l (o,some t))=true:=rfl
  rw[ak8]at e
  unfold stS at e
  unfold qd at h
  rw[J]at h
  simp only[jQ,jF,jT,bu,if_false]at h
  split at e
  .cases e
  .rename_i z
   have z:(c==42)=false:=by simpa using z
   rw[z]at h
   simp only[bu,if_false]at h
   split at e
   .rename_i h41
    subst h41
    have h:zX (.st t::o.l)=some R:=h
    cases o with
    | nil=>cases h
    | par p=>cases hp:p.l with
     | nil=>rw[show Op.l (.par p)=.sg 40::p.l from rfl,hp]at h;cases h
     | cons x r=>cases x with
      | sg _=>rw[show Op.l (.par p)=.sg 40::p.l from rfl,hp]at h;cases h
      | st _=>have:=aD6 p;rw[hp]at this;cases this
    | jn b u p=>cases e
   .rename_i h41
    have h41:(c==41)=false:=by simpa using h41
    rw[h41]at h
    simp only[bu,if_false]at h
    split at e
    .rename_i hj
     rw[hj]at h
     have h:some (It.sg c::.st t::o.l)=some R:=h
     cases h
     refine⟨[],c,t,o.l,rfl,hj,λ r hr=>?_⟩
     cases o with
     | nil=>cases hr
     | par p=>cases e
     | jn b u p =>
      have hr:It.sg (z7 b)::.st u::.sg 40::p.l=.sg 40::r:=hr
      cases b<;>cases hr
    .rename_i hj
     have hj:isJ c=false:=by simpa using hj
     rw[hj]at h
     cases h
 | none =>
  have J:qR (Qs.l (o,none))=false:=aD6 o
  rw[an4]at e
  unfold stN at e
  unfold qd at h
  rw[J]at h
  split at e
  .cases e
  .rename_i F
   split at e
   .cases e
   .rename_i G
    split at e
    .cases e
    .rename_i hl
     have F:(c==40)=false:=by simpa using F
     have G:(c==45)=false:=by simpa using G
     have hl:isL c=false:=by simpa using hl
     rw[F,G,hl]at h
     simp at h
theorem aQ0:∀ {w:List Nat} {R z:List It},bk2 R->aB4 R w=some z->bk2 z
 | [],R,z,h,e=>by cases e;exact h
 | c::w,R,z,h,e=>by
  have e:(match qd R c with|some z=>aB4 z w|none=>none)=some z:=e
  cases q:qd R c with
  | none=>rw[q]at e;cases e
  | some R1=>rw[q]at e;exact aQ0 (bd8 h q) e
theorem aV2:∀ {w:List Nat} {q z:Qs},ap2 q w=some z->aB4 q.l w=some z.l
 | [],q,z,e=>by cases e;rfl
 | c::w,q,z,e=>by
  have e:(match qf q c with|some z=>ap2 z w|none=>none)=some z:=e
  show(match qd q.l c with|some R'=>aB4 R' w|none=>none)=_
  cases h:qf q c with
  | none=>rw[h]at e;cases e
  | some q1=>rw[h]at e;rw[av1 h];exact aV2 e
theorem aV8:∀ {w:List Nat} {q:Qs},ap2 q w=none->∀ {R:List It},aB4 q.l w=some R->bk2 R
 | [],q,e,R,h=>by cases e
 | c::w,q,e,R,h=>by
  have e:(match qf q c with|some q'=>ap2 q' w|none=>none)=none:=e
  have h:(match qd q.l c with|some R'=>aB4 R' w|none=>none)=some R:=h
  cases hq:qf q c with
  | none =>
   cases hl:qd q.l c with
   | none=>rw[hl]at h;cases h
   | some R1=>rw[hl]at h;exact aQ0 (bc1 hq hl) h
  | some q1=>rw[hq]at e;rw[av1 hq]at h;exact aV8 e h
noncomputable def bm4:Option (List It)->Option Tr
 | some [.st t]=>if t.sz<=40/\t.dep<=12 then some t else none
 | _=>none
noncomputable def aG5:Option Qs->Option Tr
 | some (.nil,some t)=>if t.sz<=40/\t.dep<=12 then some t else none
 | _=>none
theorem bJ0 (w:List Nat):bm4 (aB4 [] w)=aG5 (ap2 (.nil,none) w):=by
 cases e:ap2 (.nil,none) w with
 | none =>
  cases h:aB4 [] w with
  | none=>rfl
  | some R =>
   have hb:bk2 R:=aV8 e (R:=R) h
   obtain⟨pre,j,t,rest,rfl,_,_⟩:=hb
   show bm4 (some (pre++.sg j::.st t::rest))=none
   unfold bm4
   split
   .rename_i t' z
    cases pre with
    | nil=>cases z
    | cons x pre=>cases pre with
     | nil=>cases z
     | cons _ _=>cases z
   .rfl
 | some q =>
  have h:=aV2 e
  rw[show Qs.l (.nil,none)=[]from rfl]at h
  rw[h]
  obtain⟨o,m⟩:=q
  cases m with
  | none=>cases o<;>rfl
  | some t=>cases o<;>rfl
theorem aU8:∀ {w:List Nat} {q z:Qs},q.ok->ap2 q w=some z->z.ok
 | [],q,z,h,e=>by cases e;exact h
 | c::w,q,z,h,e=>by
  have e:(match qf q c with|some z=>ap2 z w|none=>none)=some z:=e
  cases hq:qf q c with
  | none=>rw[hq]at e;cases e
  | some q1=>rw[hq]at e;exact aU8 (ba0 h hq) e
theorem ay4 {R z:List It}{c:Nat}(e:qd R c=some z):z.length<=R.length+1:=by
 unfold qd at e
 split at e
 .cases e;simp
 .split at e
  .cases e;simp
  .split at e
   .cases e;simp
   .split at e
    .cases e;simp
    .split at e
     .cases R with
      | nil=>cases e
      | cons x R=>cases x with
       | sg _=>cases e
       | st t=>cases e;simp
     .split at e
      .unfold zX at e
       split at e
       .split at e
        .cases e;simp
        .cases e
       .cases e
      .cases e
noncomputable abbrev lk1:E:=(.and (.cmp .eq (.var 1) (.cst (.str [42]))) (.call "ends_with_set" (.ex (.var 0) .nil)))
noncomputable abbrev la1:Ss:=(.cons (.ex (.meth .append (.var 0) (.cons (.tup (.cons (.cst (.str [114,101,112,101,97,116])) (.cons (.meth .pop (.var 0) .nil) .nil))) .nil))) .nil)
noncomputable abbrev lk2:E:=(.and (.cmp .eq (.var 1) (.cst (.str [41]))) (.and (.call "ends_with_set" (.ex (.var 0) .nil)) (.inC (.call "ahead_of_last" (.ex (.var 0) .nil)) "JOINTS")))
noncomputable abbrev la2:Ss:=(.cons (.ex (.call "join_last" (.ex (.var 0) .nil))) .nil)
noncomputable abbrev lk3:E:=(.and (.inC (.var 1) "JOINTS") (.and (.call "ends_with_set" (.ex (.var 0) .nil)) (.cmp .eq (.call "ahead_of_last" (.ex (.var 0) .nil)) (.cst (.str [40])))))
noncomputable abbrev la3:Ss:=(.cons (.ex (.meth .append (.var 0) (.cons (.var 1) .nil))) .nil)
noncomputable abbrev lk4:E:=(.and (.cmp .eq (.var 1) (.cst (.str [40]))) (.not (.call "ends_with_set" (.ex (.var 0) .nil))))
noncomputable abbrev la4:Ss:=(.cons (.ex (.meth .append (.var 0) (.cons (.var 1) .nil))) .nil)
noncomputable abbrev lk5:E:=(.and (.cmp .eq (.var 1) (.cst (.str [45]))) (.not (.call "ends_with_set" (.ex (.var 0) .nil))))
noncomputable abbrev la5:Ss:=(.cons (.ex (.meth .append (.var 0) (.cons (.tup (.cons (.cst (.str [110,111,116,104,105,110,103])) .nil)) .nil))) .nil)
noncomputable abbrev lk6:E:=(.and (.cmp .isin (.var 1) (.glob "LETTERS")) (.not (.call "ends_with_set" (.ex (.var 0) .nil))))
noncomputable abbrev la6:Ss:=(.cons (.ex (.meth .append (.var 0) (.cons (.tup (.cons (.cst (.str [108,101,116,116,101,114])) (.cons (.var 1) .nil))) .nil))) .nil)
theorem ba6:aa2.body=(.cons (.ite lk1 la1 (.cons (.ite lk2 la2 (.cons (.ite lk3 la3 (.cons (.ite lk4 la4 (.cons (.ite lk5 la5 (.cons (.ite lk6 la6 (.cons .raise .nil)) .nil)) .nil)) .nil)) .nil)) .nil)) .nil):=rfl
noncomputable def ab4:Xf:=⟨2,0,(.iteE lk1 .no (.iteE lk2 .no (.iteE lk3 .no (.iteE lk4 .no (.iteE lk5 .no (.iteE lk6 .no (.rais "NoText")))))))⟩
theorem ah9 {F:Fns}{c:E}{a r:XB}{U:Env}{s s1:Sto}{b:Bool}(h:ev F c U s=.ok (.bl b) s1):xB F (.iteE c a r) U s=if b=true then xB F a U s1 else xB F r U s1:=by
 show(match ev F c U s with|.ok (.bl b) s1=>if b then xB F a U s1 else xB F r U s1|_=>none)=_
 rw[h]
theorem bt9 {F:Fns}{c:E}{a r:XB}{U:Env}{s s1:Sto}{b:Bool}(h:ev F c U s=.ok (.bl b) s1):xB F (.iteT c a r) U s=if b=true then xB F a U s1 else xB F r U s1:=by
 show(match ev F c U s with|.ok (.bl b) s1=>if b then xB F a U s1 else xB F r U s1|_=>none)=_
 rw[h]
theorem bk1 {F:Fns}{st:S}{b:XB}{U U1:Env}{s s1:Sto}(h:ex F st U s=.ok (.next U1) s1):xB F (.seq st b) U s=xB F b U1 s1:=by
 show(match ex F st U s with|.ok (.next U1) s1=>xB F b U1 s1|_=>none)=_
 rw[h]
theorem aP3 {F:Fns}{c:String}{U:Env}{s:Sto}(h:F.xc c=true):xB F (.rais c) U s=some (c,s):=by
 show(if F.xc c=true then some (c,s)else none)=_
 rw[if_pos h]
theorem aT2 {F:Fns}{f:String}{as:As}{U:Env}{s s1:Sto}{l:List D}(h:ao1 F as U s=.ok l s1):xB F (.call f as) U s=F.xcall f l s1:=by
 show(match ao1 F as U s with|.ok l s1=>F.xcall f l s1|_=>none)=_
 rw[h]
theorem bG4 {F:Fns}{a b:XB}{U:Env}{s:Sto}:xB F (.alt a b) U s=match xB F a U s with|some r=>some r|none=>xB F b U s:=rfl
theorem zy {F:Fns}{a b:E}{U:Env}{s:Sto}{x y:Bool}(ha:ev F a U s=.ok (.bl x) s)(hb:x=true->ev F b U s=.ok (.bl y) s):ev F (.and a b) U s=.ok (.bl (x&&y)) s:=by
 rw[ev_and,ha,zq]
 cases x with
 | false=>rfl
 | true =>
  rw[if_pos rfl,hb rfl,zq]
  rfl
theorem zY {F:Fns}{a:E}{U:Env}{s:Sto}{x:Bool}(ha:ev F a U s=.ok (.bl x) s):ev F (.not a) U s=.ok (.bl (!x)) s:=by
 rw[ev_not,ha,zq]
theorem ao7 {F:Fns}{a b:E}{U:Env}{s:Sto}{x y:Bool}(ha:ev F a U s=.ok (.bl x) s)(hb:x=false->ev F b U s=.ok (.bl y) s):ev F (.or a b) U s=.ok (.bl (x||y)) s:=by
 rw[ev_or,ha,zq]
 cases x with
 | true=>rfl
 | false =>
  rw[if_neg (by decide),hb rfl,zq]
  rfl
theorem eq1 (c k:Nat)(s:Sto):zL .eq (.str [c]) (.str [k]) s=.ok (.bl (c==k)) s:=by
 have:([c]==[k])=(c==k):=by
  by_cases h:c=k
  .subst h;simp
  .rw[beq_false_of_ne h,beq_false_of_ne (by simpa using h)]
 rw[eqs this]
theorem Tr.dep_of:∀(t:Tr),t.ok->∀ k,ag9 k t.d->t.dep<=k
 | t,h,0,hb=>hb.elim
 | t,h,k+1,hb=>by
  obtain⟨l,e,hl⟩:=hb
  obtain⟨z,e',hp⟩:=t.parts h
  rw[e]at e'
  cases e'
  cases t with
  | nothing=>show 1<=k+1;omega
  | letter c=>show 1<=k+1;omega
  | rep u =>
   have hp:l=[u.d]:=hp
   subst hp
   have:=Tr.dep_of u h k (hl _ (bX.mpr rfl))
   show u.dep+1<=k+1
   omega
  | two b u v =>
   have hp:l=[u.d,v.d]:=hp
   subst hp
   have F:=Tr.dep_of u h.1 k (hl _ (by simp))
   have G:=Tr.dep_of v h.2 k (hl _ (by simp))
   show max u.dep v.dep+1<=k+1
   omega
theorem aH2 {t:Tr}(h:t.ok):bS6 t.d↔t.sz<=40/\t.dep<=12:=by
 constructor
 .rintro⟨F,z⟩
  have hd:=t.dep_of h 12 F
  rw[t.psz h 12 hd]at z
  exact⟨z,hd⟩
 .rintro⟨F,z⟩
  exact t.setP h z F
noncomputable def Op.pd (o:Op):List D:=(o.l.reverse).map It.d
noncomputable def Qs.pd (q:Qs):List D:=(q.l.reverse).map It.d
theorem bT4 (o:Op):Qs.pd (o,none)=o.pd:=rfl
theorem bu6 (o:Op)(t:Tr):Qs.pd (o,some t)=o.pd++[t.d]:=by
 show((It.st t::o.l).reverse).map It.d=_
 rw[bI,cB];rfl
theorem ax5 (o:Op):Op.pd (.par o)=o.pd++[.str [40]]:=by
 show((It.sg 40::o.l).reverse).map It.d=_
 rw[bI,cB];rfl
theorem aR9 (b:Bool)(t:Tr)(o:Op):Op.pd (.jn b t o)=o.pd++[.str [40],t.d,.str [z7 b]]:=by
 show((It.sg (z7 b)::.st t::.sg 40::o.l).reverse).map It.d=_
 rw[bI,bI,bI,cB,cB,cB,ar,ar];rfl
theorem It.bnd (x:It)(n:Nat):x.d.bnd n=true:=by
 cases x with
 | sg c=>rfl
 | st t=>exact t.bnd n
theorem Op.bnd (o:Op):∀ d∈o.pd,∀ n,d.bnd n=true:=λ d hd n=>by
 obtain⟨x,_,rfl⟩:=bC.mp hd
 exact x.bnd n
theorem Op.open_ (o:Op):bx6 o.pd:=by
 cases o with
 | nil=>exact .inl rfl
 | par p=>exact .inr ⟨p.pd,[40],ax5 p⟩
 | jn b t p=>exact .inr ⟨p.pd++[.str [40],t.d],[z7 b],by rw[aR9,ar];rfl⟩
noncomputable def Op.isJn:Op->Bool
 | .jn _ _ _=>true|_=>false
noncomputable def Op.isPar:Op->Bool
 | .par _=>true|_=>false
noncomputable def Op.ah:Op->D
 | .nil=>.non|.par _=>.str [40]|.jn b _ _=>.str [z7 b]
section
variable {P:Pr} [Has P aa3] [Has P aa4] [Has P aa8] [Has P aa2] [HasC P "LETTERS" (.tup al8)] [HasD P "JOINTS" [([124],ab2),([46],ab1)]]
theorem bz9 (n:Nat)(q:Qs){s:Sto}{a:Nat}(h:s[a]?=some (.lst q.pd)):(aa0 P (n+1)).call "ends_with_set" [.ref a] s=.ok (.bl q.2.isSome) s:=by
 obtain⟨o,m⟩:=q
 cases m with
 | none=>exact o.open_.ends n h
 | some t=>rw[bu6]at h;exact av2 n h
theorem bo6 (n:Nat)(o:Op)(t:Tr){s:Sto}{a:Nat}(h:s[a]?=some (.lst (Qs.pd (o,some t)))):(aa0 P (n+1)).call "ahead_of_last" [.ref a] s=.ok o.ah s:=by
 rw[bu6]at h
 cases o with
 | nil =>
  have z:(aa0 P (n+1)).call "ahead_of_last" [.ref a] s=_:=za aa4 (n:=n) rfl
  rw[z,show(bJ some [D.ref a]++aj aa4.vs none)=[some (.ref a)]from rfl]
  have h:s[a]?=some (.lst [t.d]):=h
  have hl:=qD h
  have hg:decide ((1:Int)<(([t.d]:List D).length:Int))=false:=decide_eq_false (by simp)
  tbr_iter [aa4,hl,hg]
  have:=zz (d:=.non) (s:=s) (t:=[]) (λ _=>rfl) (by nofun)
  rw[aF]at this
  exact this
 | par p=>rw[ax5,ar]at h;exact aj5 n h
 | jn b u p =>
  rw[aR9,ar]at h
  exact aj5 n (p:=p.pd++[.str [40],u.d]) (c:=[z7 b]) (x:=t.d) (by rw[ar];exact h)
theorem inJ (n:Nat)(c:Nat)(s:Sto):aL6 (aa0 P n) "JOINTS" (.str [c]) s=.ok (.bl (isJ c)) s:=by
 rw[qi]
 have e:∀ k:Nat,([c]==[k])=(c==k):=λ k=>by
  by_cases h:c=k
  .subst h;simp
  .rw[beq_false_of_ne h,beq_false_of_ne (by simpa using h)]
 rw[e,e];rfl
theorem bG2 (n:Nat)(o:Op)(s:Sto):aL6 (aa0 P n) "JOINTS" o.ah s=.ok (.bl o.isJn) s:=by
 cases o with
 | nil =>
  unfold aL6
  rw[aD4 (kvs:=[([124],ab2),([46],ab1)])]
  rfl
 | par p=>exact inJ n 40 s
 | jn b t p =>
  show aL6 (aa0 P n) "JOINTS" (.str [z7 b]) s=_
  rw[inJ,bX4];rfl
theorem bW1 (o:Op)(s:Sto):zL .eq o.ah (.str [40]) s=.ok (.bl o.isPar) s:=by
 cases o with
 | nil=>rfl
 | par p=>exact eq1 40 40 s
 | jn b t p=>show zL .eq (.str [z7 b]) (.str [40]) s=_;rw[eq1];cases b<;>rfl
theorem bD0 (c:Nat)(s:Sto):zL .isin (.str [c]) (.tup al8) s=.ok (.bl (isL c)) s:=by
 have e:∀ k:Nat,eqv s DEEP (.str [k]) (.str [c])=some (c==k):=λ k=>by
  show some ([k]==[c])=_
  by_cases h:c=k
  .subst h;simp
  .rw[beq_false_of_ne h,beq_false_of_ne (by simpa using λ z=>h z.symm)]
 have F:inL s (.str [c]) al8=some (isL c):=by
  unfold al8 inL inL inL inL
  rw[e,e,e]
  unfold isL
  simp
 show(match inL s (.str [c]) al8 with|some r=>R.ok r s|none=>.bad).bind (λ b s=>R.ok (D.bl b) s)=_
 rw[F];rfl
theorem lks (n:Nat)(q:Qs)(c:Nat){s:Sto}{a:Nat}(h:s[a]?=some (.lst q.pd))(e:qf q c=none) :
  ev (aa0 P (n+1)) lk1 [some (.ref a),some (.str [c])] s=.ok (.bl false) s/\ev (aa0 P (n+1)) lk2 [some (.ref a),some (.str [c])] s=.ok (.bl false) s /\
  ev (aa0 P (n+1)) lk3 [some (.ref a),some (.str [c])] s=.ok (.bl false) s/\ev (aa0 P (n+1)) lk4 [some (.ref a),some (.str [c])] s=.ok (.bl false) s /\
  ev (aa0 P (n+1)) lk5 [some (.ref a),some (.str [c])] s=.ok (.bl false) s/\ev (aa0 P (n+1)) lk6 [some (.ref a),some (.str [c])] s=.ok (.bl false) s:=by
 have hq:∀ k:Nat,ev (aa0 P (n+1)) (.cmp .eq (.var 1) (.cst (.str [k]))) [some (.ref a),some (.str [c])] s=.ok (.bl (c==k)) s:=λ k=>by tbr_iter [eq1]
 have F:ev (aa0 P (n+1)) (.call "ends_with_set" (.ex (.var 0) .nil)) [some (.ref a),some (.str [c])] s=.ok (.bl q.2.isSome) s:=by tbr_iter [bz9 (P:=P) n q h]
 have hj:ev (aa0 P (n+1)) (.inC (.var 1) "JOINTS") [some (.ref a),some (.str [c])] s=.ok (.bl (isJ c)) s:=by tbr_iter [ak6,inJ]
 have hl:ev (aa0 P (n+1)) (.cmp .isin (.var 1) (.glob "LETTERS")) [some (.ref a),some (.str [c])] s=.ok (.bl (isL c)) s:=by tbr_iter [ai5,bD0]
 obtain⟨o,m⟩:=q
 cases m with
 | none =>
  rw[an4]at e
  unfold stN at e
  have G:(c==40)=false:=by cases q:c==40 with|false=>rfl|true=>rw[if_pos (eq_of_beq q)]at e;cases e
  have a0:¬ c=40:=λ z=>by rw[z]at G;cases G
  rw[if_neg a0]at e
  have Y:(c==45)=false:=by cases q:c==45 with|false=>rfl|true=>rw[if_pos (eq_of_beq q)]at e;cases e
  have a1:¬ c=45:=λ z=>by rw[z]at Y;cases Y
  rw[if_neg a1]at e
  have hL:isL c=false:=by cases q:isL c with|false=>rfl|true=>rw[if_pos q]at e;cases e
  have F:ev (aa0 P (n+1)) (.call "ends_with_set" (.ex (.var 0) .nil)) [some (.ref a),some (.str [c])] s=.ok (.bl false) s:=F
  have fa:∀ x:Bool,(x&&false)=false:=λ x=>by cases x<;>rfl
  have k2:=zy (b:=.inC (.call "ahead_of_last" (.ex (.var 0) .nil)) "JOINTS") (y:=false) F (by nofun)
  have k3:=zy (b:=.cmp .eq (.call "ahead_of_last" (.ex (.var 0) .nil)) (.cst (.str [40]))) (y:=false) F (by nofun)
  refine⟨?_,?_,?_,?_,?_,?_⟩
  .have:=zy (hq 42) λ _=>F
   rwa [fa]at this
  .have:=zy (hq 41) λ _=>k2
   rwa [show((c==41)&&(false&&false))=false from fa _]at this
  .have:=zy hj λ _=>k3
   rwa [show(isJ c&&(false&&false))=false from fa _]at this
  .have:=zy (hq 40) λ _=>zY F
   rwa [G]at this
  .have:=zy (hq 45) λ _=>zY F
   rwa [Y]at this
  .have:=zy hl λ _=>zY F
   rwa [hL]at this
 | some t =>
  rw[ak8]at e
  unfold stS at e
  have J:(c==42)=false:=by cases q:c==42 with|false=>rfl|true=>rw[if_pos (eq_of_beq q)]at e;cases e
  have Z:¬ c=42:=λ z=>by rw[z]at J;cases J
  rw[if_neg Z]at e
  have F:ev (aa0 P (n+1)) (.call "ends_with_set" (.ex (.var 0) .nil)) [some (.ref a),some (.str [c])] s=.ok (.bl true) s:=F
  have fa:∀ x:Bool,(x&&false)=false:=λ x=>by cases x<;>rfl
  have ha:=bo6 (P:=P) n o t h
  have a2:ev (aa0 P (n+1)) (.inC (.call "ahead_of_last" (.ex (.var 0) .nil)) "JOINTS") [some (.ref a),some (.str [c])] s=.ok (.bl o.isJn) s:=by tbr_iter [ak6,ha];exact bG2 (P:=P) (n+1) o s
  have a3:ev (aa0 P (n+1)) (.cmp .eq (.call "ahead_of_last" (.ex (.var 0) .nil)) (.cst (.str [40]))) [some (.ref a),some (.str [c])] s=.ok (.bl o.isPar) s:=by tbr_iter [ha];exact bW1 o s
  have k2:=zy (hq 41) λ _=>zy F λ _=>a2
  have k3:=zy hj λ _=>zy F λ _=>a3
  refine⟨?_,?_,?_,?_,?_,?_⟩
  .have:=zy (hq 42) λ _=>F
   rwa [J]at this
  .by_cases h41:c=41
   .rw[if_pos h41]at e
    cases o with
    | jn b u p=>cases e
    | nil=>rwa [show((c==41)&&(true&&Op.nil.isJn))=false from fa _]at k2
    | par p=>rwa [show((c==41)&&(true&&(Op.par p).isJn))=false from fa _]at k2
   .rwa [beq_false_of_ne h41]at k2
  .by_cases h41:c=41
   .subst h41
    exact k3
   .rw[if_neg h41]at e
    cases hJ:isJ c with
    | false=>rwa [hJ]at k3
    | true =>
     rw[if_pos hJ]at e
     cases o with
     | par p=>cases e
     | nil=>rwa [show(isJ c&&(true&&Op.nil.isPar))=false from fa _]at k3
     | jn b u p=>rwa [show(isJ c&&(true&&(Op.jn b u p).isPar))=false from fa _]at k3
  .have:=zy (hq 40) λ _=>zY F
   rwa [show((c==40)&&!true)=false from fa _]at this
  .have:=zy (hq 45) λ _=>zY F
   rwa [show((c==45)&&!true)=false from fa _]at this
  .have:=zy hl λ _=>zY F
   rwa [show(isL c&&!true)=false from fa _]at this
theorem aQ5 [HasX P "lay_sign" ab4][h5:HasE P "NoText" []](n:Nat)(q:Qs)(c:Nat){s:Sto}{a:Nat}(h:s[a]?=some (.lst q.pd))(e:qf q c=none) :
  (aa0 P (n+2)).xcall "lay_sign" [.ref a,.str [c]] s=some ("NoText",s)/\(aa0 P (n+2)).call "lay_sign" [.ref a,.str [c]] s=.bad:=by
 obtain⟨k1,k2,k3,F,k5,z⟩:=lks (P:=P) n q c h e
 constructor
 .rw[az3 ab4 (n:=n+1) rfl,show(bJ some [D.ref a,.str [c]]++aj ab4.vs none)=[some (.ref a),some (.str [c])]from rfl]
  unfold ab4
  rw[ah9 k1,if_neg (by decide),ah9 k2,if_neg (by decide),ah9 k3,if_neg (by decide),ah9 F,if_neg (by decide),ah9 k5,if_neg (by decide),ah9 z,if_neg (by decide)]
  exact aP3 (by rw[bc4.1];exact h5.at_)
 .have G:(aa0 P (n+2)).call "lay_sign" [.ref a,.str [c]] s=_:=za aa2 (n:=n+1) rfl
  rw[G,ba6,show(bJ some [D.ref a,.str [c]]++aj aa2.vs none)=[some (.ref a),some (.str [c])]from rfl]
  have it:∀ {k:E} {x y:Ss},ev (aa0 P (n+1)) k [some (.ref a),some (.str [c])] s=.ok (.bl false) s->exs (aa0 P (n+1)) y [some (.ref a),some (.str [c])] s=.bad->exs (aa0 P (n+1)) (.cons (.ite k x y) .nil) [some (.ref a),some (.str [c])] s=.bad:=λ {k x y} h1 h2=>by
   rw[zg,zN,h1,zq,if_neg (by decide),h2];rfl
  rw[it k1 (it k2 (it k3 (it F (it k5 (it z rfl)))))]
  rfl
theorem aF0 (n:Nat)(q z:Qs)(c:Nat){s:Sto}{a:Nat}(hl:q.pd.length<=1000)(h:s[a]?=some (.lst q.pd))(e:qf q c=some z) :
  (aa0 P (n+2)).call "lay_sign" [.ref a,.str [c]] s=.ok .non (s.set a (.lst z.pd)):=by
 obtain⟨o,m⟩:=q
 cases m with
 | none =>
  rw[an4]at e
  unfold stN at e
  rw[bT4]at h hl
  split at e
  .rename_i hc;subst hc;cases e
   rw[bc9 (P:=P) n o.bnd hl o.open_ h,bT4,ax5]
  .split at e
   .rename_i hc;subst hc;cases e
    rw[bg4 (P:=P) n o.bnd hl o.open_ h,bu6]
   .split at e
    .rename_i hc;cases e
     rw[aJ8 (P:=P) n o.bnd hl o.open_ (aS6.mp hc) h,bu6]
    .cases e
 | some t =>
  rw[ak8]at e
  unfold stS at e
  rw[bu6]at h hl
  rw[au]at hl
  split at e
  .rename_i hc;subst hc;cases e
   rw[be1 (P:=P) n o.bnd (by omega) h,bu6]
  .split at e
   .rename_i hc;subst hc
    cases o with
    | jn b u p =>
     cases e
     rw[aR9,ar]at h
     rw[aR9,au]at hl
     rw[aT4 (P:=P) n p.bnd (by omega) (b:=b) (t:=u) (u:=t) h,bu6]
    | _=>cases e
   .split at e
    .rename_i hc
     cases o with
     | par p =>
      cases e
      rw[ax5,ar]at h
      rw[ax5,au]at hl
      have:=aN2 (P:=P) n p.bnd (by omega) (c==124) (t:=t) h
      rw[bj9 hc]at this
      rw[this,bT4,aR9,bj9 hc]
     | _=>cases e
    .cases e
end
noncomputable abbrev rsC:E:=(.or (.cmp .ne (.bi .len (.cons (.var 1) .nil)) (.cst (.int 1))) (.not (.call "is_set" (.ex (.ix (.var 1) (.cst (.int 0))) .nil))))
noncomputable def ab7:Xf:=⟨1,2,(.seq (.asg (.one 1) (.lst .nil)) (.alt (.forX (.one 2) (.seq (.var 0)) at9 (.call "lay_sign" (.ex (.var 1) (.ex (.var 2) .nil)))) (.seq (.for_ (.one 2) (.seq (.var 0)) at9) (.iteT rsC (.rais "NoText") .no))))⟩
theorem aU3 (q:Qs):q.pd.length=q.l.length:=by unfold Qs.pd;rw[aI,gO]
theorem aH5 {q z:Qs}{c:Nat}(e:qf q c=some z):z.pd.length<=q.pd.length+1:=by
 rw[aU3,aU3];exact ay4 (av1 e)
theorem aq0 {ok:Sto->Bool}{g:D->Env->Sto->R Ct}{z:D->Env->Sto->Option (String×Sto)}{d:D}{l:List D}{U U':Env}{s s':Sto}(ho:ok s=true)(h:g d U s=.ok (.next U') s'):af1 ok g z (d::l) U s=af1 ok g z l U' s':=by
 show(if ok s then _ else _)=_
 rw[if_pos ho,h]
theorem bt5 {F:Fns}{tg:Tg}{it:I}{b:Ss}{x:XB}{U:Env}{s s0:Sto}{q:Sq}(h:evI F it U s=.ok q s0):xB F (.forX tg it b x) U s=af1 (λ S=>chk s0 S q.src) (turn F tg b) (λ d U s=>match qK U tg d with
  | some U=>xB F x U s
  | none=>none) q.its U s0:=by
 show(match evI F it U s with
  | .ok q s0=>af1 (λ s=>chk s0 s q.src) (λ d U s=>match qK U tg d with
   | some U=>exs F b U s
   | none=>.bad) (λ d U s=>match qK U tg d with
   | some U=>xB F x U s
   | none=>none) q.its U s0
  | _=>none)=_
 rw[h]
 rfl
theorem aO4 {ok:Sto->Bool}{g:D->Env->Sto->R Ct}{z:D->Env->Sto->Option (String×Sto)}{d:D}{l:List D}{U:Env}{s:Sto}(ho:ok s=true)(h:g d U s=.bad):af1 ok g z (d::l) U s=z d U s:=by
 show(if ok s then _ else _)=_
 rw[if_pos ho,h]
section
variable {P:Pr} [Has P aa3] [Has P aa4] [Has P aa8] [Has P aa2] [HasC P "LETTERS" (.tup al8)] [HasD P "JOINTS" [([124],ab2),([46],ab1)]] [HasX P "lay_sign" ab4] [h5:HasE P "NoText" []]
noncomputable abbrev gxL (F:Fns):D->Env->Sto->Option (String×Sto):=λ d U s=>match qK U (.one 2) d with
  | some U=>xB F (.call "lay_sign" (.ex (.var 1) (.ex (.var 2) .nil))) U s
  | none=>none
theorem aV3 (n:Nat){ok:Sto->Bool}(hok:∀ s,ok s=true)(s:Sto)(x0:Option D):∀(w:List Nat) (q z:Qs) (x2:Option D),q.pd.length+w.length<=1000->ap2 q w=some z ->
  ∃ F,av3 ok (turn (aa0 P (n+2)) (.one 2) at9) (w.map λ c=>D.str [c]) [x0,some (.ref s.length),x2] (s++[.lst q.pd])=.ok (.next [x0,some (.ref s.length),F]) (s++[.lst z.pd]) /\
   af1 ok (turn (aa0 P (n+2)) (.one 2) at9) (gxL (aa0 P (n+2))) (w.map λ c=>D.str [c]) [x0,some (.ref s.length),x2] (s++[.lst q.pd])=none
 | [],q,z,x2,hl,e=>by
  cases e
  refine⟨x2,?_,rfl⟩
  show(if ok _ then _ else _)=_
  rw[if_pos (hok _)]
 | c::w,q,z,x2,hl,e=>by
  have e:(match qf q c with|some z=>ap2 z w|none=>none)=some z:=e
  cases h:qf q c with
  | none=>rw[h]at e;cases e
  | some q1 =>
   rw[h]at e
   rw[aA]at hl
   have hs:=aH5 h
   have G:=aG0 (P:=P) n (s:=s) (p:=q.pd) (p':=q1.pd) (c:=c) (x0:=x0) (x2:=x2) (aF0 (P:=P) n q q1 c (by omega) zK h)
   obtain⟨J,e1,e2⟩:=aV3 n hok s x0 w q1 z (some (.str [c])) (by omega) e
   exact⟨J,(az0 (hok _) G).trans e1,(aq0 (hok _) G).trans e2⟩
theorem bj0 (n:Nat){ok:Sto->Bool}(hok:∀ s,ok s=true)(s:Sto)(x0:Option D):∀(w:List Nat) (q:Qs) (x2:Option D),q.pd.length+w.length<=1000->ap2 q w=none ->
  ∃ p,af1 ok (turn (aa0 P (n+2)) (.one 2) at9) (gxL (aa0 P (n+2))) (w.map λ c=>D.str [c]) [x0,some (.ref s.length),x2] (s++[.lst q.pd])=some ("NoText",s++[.lst p])
 | [],q,x2,hl,e=>by cases e
 | c::w,q,x2,hl,e=>by
  have e:(match qf q c with|some q'=>ap2 q' w|none=>none)=none:=e
  rw[aA]at hl
  cases h:qf q c with
  | none =>
   obtain⟨k1,k2⟩:=aQ5 (P:=P) n q c (s:=s++[.lst q.pd]) (a:=s.length) zK h
   refine⟨q.pd,(aO4 (hok _) ?_).trans ?_⟩
   .unfold turn at9
    tbr_iter [k2]
    rfl
   .show xB (aa0 P (n+2)) (.call "lay_sign" (.ex (.var 1) (.ex (.var 2) .nil))) [x0,some (.ref s.length),some (.str [c])] _=_
    have z:ao1 (aa0 P (n+2)) (.ex (.var 1) (.ex (.var 2) .nil)) [x0,some (.ref s.length),some (.str [c])] (s++[.lst q.pd])=.ok [.ref s.length,.str [c]] (s++[.lst q.pd]):=by tbr_iter []
    rw[aT2 z,k1]
  | some q1 =>
   rw[h]at e
   have hs:=aH5 h
   have F:=aG0 (P:=P) n (s:=s) (p:=q.pd) (p':=q1.pd) (c:=c) (x0:=x0) (x2:=x2) (aF0 (P:=P) n q q1 c (by omega) zK h)
   obtain⟨p,e1⟩:=bj0 n hok s x0 w q1 (some (.str [c])) (by omega) e
   exact⟨p,(aq0 (hok _) F).trans e1⟩
variable [Has P aa5] [Has P ab0] [Has P aa9] [Has P ab3] [Has P aa6] [Has P ac9] [Has P ac1] [HasC P "MOST_DEEP" (.int 12)] [HasC P "MOST_PIECES" (.int 40)] [HasX P "read_set" ab7]
theorem bm7 (n:Nat)(q:Qs)(hq:q.ok)(S:Sto)(a:Nat)(x0 x2:Option D)(h:S[a]?=some (.lst q.pd)) :
  ev (aa0 P (n+15)) rsC [x0,some (.ref a),x2] S=.ok (.bl (aG5 (some q)).isNone) S:=by
 have G:ev (aa0 P (n+15)) (.cmp .ne (.bi .len (.cons (.var 1) .nil)) (.cst (.int 1))) [x0,some (.ref a),x2] S=.ok (.bl (!decide ((q.pd.length:Int)=1))) S:=by
  tbr_iter [qD h]
 have big:(q.pd.length:Int)≠1->aG5 (some q)=none->ev (aa0 P (n+15)) rsC [x0,some (.ref a),x2] S=.ok (.bl (aG5 (some q)).isNone) S:=λ hn hf=>by
  rw[decide_eq_false hn]at G
  have:=ao7 (b:=(.not (.call "is_set" (.ex (.ix (.var 1) (.cst (.int 0))) .nil)))) (y:=true) G (by nofun)
  rw[hf]
  exact this
 have one:∀(d:D) (b:Bool),q.pd=[d]->(aa0 P (n+15)).call "is_set" [d] S=.ok (.bl b) S->ev (aa0 P (n+15)) rsC [x0,some (.ref a),x2] S=.ok (.bl (!b)) S:=λ d b hd hb=>by
  rw[hd]at h G
  have a0:ixM (.ref a) (.int 0) S=.ok d S:=zE (j:=0) h rfl
  rw[decide_eq_true (by simp)]at G
  have h2:ev (aa0 P (n+15)) (.call "is_set" (.ex (.ix (.var 1) (.cst (.int 0))) .nil)) [x0,some (.ref a),x2] S=.ok (.bl b) S:=by
   tbr_iter [a0,hb]
  have:=ao7 G λ _=>zY h2
  exact this
 obtain⟨o,m⟩:=q
 have F:=aU3 (o,m)
 cases m with
 | none =>
  cases o with
  | nil=>exact big (by rw[F];decide) rfl
  | jn b t p=>exact big (by rw[F];show((p.l.length+3:Nat):Int)≠1;omega) rfl
  | par p =>
   cases p with
   | nil =>
    obtain⟨b,J,hb⟩:=az4 (P:=P) n (s:=S) (B:=1000) (m:=1) (d:=.str [40]) (ao _) (ah2 trivial (by nofun))
    have Y:b=false:=by
     cases b with
     | false=>rfl
     | true =>
      obtain⟨⟨l,e,_⟩,_⟩:=hb.mp rfl
      cases e
    subst Y
    exact one (.str [40]) false rfl J
   | par p=>exact big (by rw[F];show((p.l.length+2:Nat):Int)≠1;omega) rfl
   | jn b t p=>exact big (by rw[F];show((p.l.length+4:Nat):Int)≠1;omega) rfl
 | some t =>
  cases o with
  | nil =>
   have Z:=hq.2 t rfl
   obtain⟨b,J,hb⟩:=az4 (P:=P) n (s:=S) (B:=1000) (ao _) (ah4 (t.built Z t.dep (ao _)))
   rw[one t.d b rfl J]
   have:(aG5 (some (.nil,some t))).isNone=!b:=by
    show(if t.sz<=40/\t.dep<=12 then some t else none).isNone=!b
    cases b with
    | true=>rw[if_pos ((aH2 Z).mp (hb.mp rfl))];rfl
    | false =>
     rw[if_neg λ z=>by have:=hb.mpr ((aH2 Z).mpr z);cases this];rfl
   rw[this]
  | par p=>exact big (by rw[F];show((p.l.length+2:Nat):Int)≠1;omega) rfl
  | jn b u p=>exact big (by rw[F];show((p.l.length+4:Nat):Int)≠1;omega) rfl
theorem bH3 (n:Nat)(w:List Nat)(hw:w.length<=1000)(s:Sto):match aG5 (ap2 (.nil,none) w)with
  | some t=>(aa0 P (n+16)).call "read_set" [.str w] s=.ok t.d s/\(aa0 P (n+16)).xcall "read_set" [.str w] s=none
  | none=>∃ T,(aa0 P (n+16)).xcall "read_set" [.str w] s=some ("NoText",s++T):=by
 have z:(aa0 P (n+16)).xcall "read_set" [.str w] s=_:=az3 ab7 (n:=n+15) rfl
 have J:ex (aa0 P (n+15)) (.asg (.one 1) (.lst .nil)) [some (.str w),none,none] s=.ok (.next [some (.str w),some (.ref s.length),none]) (s++[.lst []]):=by tbr_iter []
 have sT:∀ S,aY3 (.str w) S=.ok ⟨w.map λ c=>.str [c],[]⟩ S:=λ _=>rfl
 have eI:evI (aa0 P (n+15)) (.seq (.var 0)) [some (.str w),some (.ref s.length),none] (s++[.lst []])=.ok ⟨w.map λ c=>.str [c],[]⟩ (s++[.lst []]):=by tbr_iter [sT]
 have Z:xB (aa0 P (n+15)) ab7.body [some (.str w),none,none] s=xB (aa0 P (n+15)) (.alt (.forX (.one 2) (.seq (.var 0)) at9 (.call "lay_sign" (.ex (.var 1) (.ex (.var 2) .nil)))) (.seq (.for_ (.one 2) (.seq (.var 0)) at9) (.iteT rsC (.rais "NoText") .no))) [some (.str w),some (.ref s.length),none] (s++[.lst []]):=bk1 J
 rw[show(bJ some [D.str w]++aj ab7.vs none)=[some (.str w),none,none]from rfl,Z,bG4]at z
 have G:xB (aa0 P (n+15)) (.forX (.one 2) (.seq (.var 0)) at9 (.call "lay_sign" (.ex (.var 1) (.ex (.var 2) .nil)))) [some (.str w),some (.ref s.length),none] (s++[.lst []])=af1 (λ S=>chk (s++[.lst []]) S []) (turn (aa0 P (n+15)) (.one 2) at9) (gxL (aa0 P (n+15))) (w.map λ c=>D.str [c]) [some (.str w),some (.ref s.length),none] (s++[.lst []]):=bt5 eI
 cases hr:ap2 (.nil,none) w with
 | none =>
  obtain⟨p,e1⟩:=bj0 (P:=P) (n+13) (ok:=λ S=>chk (s++[.lst []]) S []) (λ _=>rfl) s (some (.str w)) w (.nil,none) none (by show 0+_<=_;omega) hr
  refine⟨[.lst p],?_⟩
  rw[z,G]
  exact(by rw[show af1 (λ S=>chk (s++[.lst []]) S []) (turn (aa0 P (n+15)) (.one 2) at9) (gxL (aa0 P (n+15))) (w.map λ c=>D.str [c]) [some (.str w),some (.ref s.length),none] (s++[.lst []])=_ from e1])
 | some q =>
  have hq:q.ok:=aU8 (q:=(.nil,none)) ⟨trivial,by nofun⟩ hr
  obtain⟨x2,e1,e2⟩:=aV3 (P:=P) (n+13) (ok:=λ S=>chk (s++[.lst []]) S []) (λ _=>rfl) s (some (.str w)) w (.nil,none) q none (by show 0+_<=_;omega) hr
  have e1:av3 (λ S=>chk (s++[.lst []]) S []) (turn (aa0 P (n+15)) (.one 2) at9) (w.map λ c=>D.str [c]) [some (.str w),some (.ref s.length),none] (s++[.lst []])=.ok (.next [some (.str w),some (.ref s.length),x2]) (s++[.lst q.pd]):=e1
  have e2:af1 (λ S=>chk (s++[.lst []]) S []) (turn (aa0 P (n+15)) (.one 2) at9) (gxL (aa0 P (n+15))) (w.map λ c=>D.str [c]) [some (.str w),some (.ref s.length),none] (s++[.lst []])=none:=e2
  have hc:=bm7 (P:=P) n q hq (s++[.lst q.pd]) s.length (some (.str w)) x2 zK
  have F:ex (aa0 P (n+15)) (.for_ (.one 2) (.seq (.var 0)) at9) [some (.str w),some (.ref s.length),none] (s++[.lst []])=.ok (.next [some (.str w),some (.ref s.length),x2]) (s++[.lst q.pd]):=by
   tbr_iter [sT,e1]
  rw[G,e2]at z
  have z:(aa0 P (n+16)).xcall "read_set" [.str w] s=xB (aa0 P (n+15)) (.seq (.for_ (.one 2) (.seq (.var 0)) at9) (.iteT rsC (.rais "NoText") .no)) [some (.str w),some (.ref s.length),none] (s++[.lst []]):=z
  rw[bk1 F,bt9 hc]at z
  cases hf:aG5 (some q)with
  | none =>
   rw[hf]at z
   exact⟨[.lst q.pd],z.trans (by rw[show(none:Option Tr).isNone=true from rfl,if_pos rfl];exact aP3 (by rw[bc4.1];exact h5.at_))⟩
  | some t =>
   rw[hf]at z hc
   refine⟨?_,z.trans (by rw[show(some t).isNone=false from rfl,if_neg (by decide)];rfl)⟩
   have Y:q=(.nil,some t):=by
    obtain⟨o,m⟩:=q
    cases m with
    | none=>cases o<;>cases hf
    | some u =>
     cases o with
     | nil =>
      have hf:(if u.sz<=40/\u.dep<=12 then some u else none)=some t:=hf
      split at hf
      .cases hf;rfl
      .cases hf
     | _=>cases hf
   subst Y
   have e0:(aa0 P (n+16)).call "read_set" [.str w] s=_:=za ac1 (n:=n+15) rfl
   rw[e0,show(bJ some [D.str w]++aj ac1.vs none)=[some (.str w),none,none]from rfl]
   have hS:(s++[O.lst (Qs.pd (.nil,some t))])[s.length]?=some (.lst [t.d]):=zK
   have a0:ixM (.ref s.length) (.int 0) (s++[.lst (Qs.pd (.nil,some t))])=.ok t.d (s++[.lst (Qs.pd (.nil,some t))]):=zE (j:=0) hS rfl
   have hb:exs (aa0 P (n+15)) ac1.body [some (.str w),none,none] s=.ok (.ret t.d) (s++[.lst (Qs.pd (.nil,some t))]):=by
    show exs (aa0 P (n+15)) (.cons (.asg (.one 1) (.lst .nil)) (.cons (.for_ (.one 2) (.seq (.var 0)) at9) (.cons (.ite rsC (.cons .raise .nil) .nil) (.cons (.ret (.ix (.var 1) (.cst (.int 0)))) .nil)))) [some (.str w),none,none] s=_
    rw[zg,J,R.bind_ok]
    show exs (aa0 P (n+15)) (.cons (.for_ (.one 2) (.seq (.var 0)) at9) _) _ _=_
    rw[zg,F,R.bind_ok]
    show exs (aa0 P (n+15)) (.cons (.ite rsC (.cons .raise .nil) .nil) _) _ _=_
    rw[zg,zN,hc,zq,show(some t).isNone=false from rfl,if_neg (by decide)]
    tbr_iter [a0]
   rw[hb]
   exact zz t.bnd t.noref
end
theorem ev_slU' {F:Fns}{U:Env}{s:Sto}(a z:E):ev F (.slU a z) U s=(ev F a U s).bind λ x s=>(ev F z U s).bind λ y s=>match y with|.int i=>slM x none (some i) s|_=>.bad:=rfl
section
variable {P:Pr} [Has P aN8] [Has P au6] [Has P ac7] [Has P ai2] [Has P aa7] [Has P aq5] [Has P aa3] [Has P aa4] [Has P aa8] [Has P aa2] [Has P ac1] [HasC P "LETTERS" (.tup al8)] [HasD P "JOINTS" [([124],ab2),([46],ab1)]]
 [Has P aa5] [Has P ab0] [Has P aa9] [Has P ab3] [Has P aa6] [Has P ac9] [HasC P "MOST_DEEP" (.int 12)] [HasC P "MOST_PIECES" (.int 40)]
end
theorem bE8 {s t:Sto}{o:O}:(s++(o::t))[s.length]?=some o:=by simp
theorem at7 {u T:Sto}{o:O}(h:o.bnd u.length=true):zr u (.ref (u++T).length) (u++T++[o])=.ok (.ref u.length) (u++[o]):=by
 have:=az5 (s:=u) (t:=T) (u:=[]) h
 rwa [au,ar]
noncomputable def hp (Y:List It):List D:=(Y.reverse).map It.e
theorem qM (x:It)(Y:List It):hp (x::Y)=hp Y++[x.e]:=by unfold hp;rw[bI,cB];rfl
theorem an0 (Y:List It):(hp Y).length=Y.length:=by unfold hp;rw[aI,gO]
noncomputable def It.isP:It->Bool
 | .sg c=>c==40|_=>false
noncomputable def It.isJt:It->Bool
 | .sg c=>isJ c|_=>false
noncomputable def It.isSt:It->Bool
 | .st _=>true|_=>false
theorem bZ5 (c k:Nat):([c]==[k])=(c==k):=by
 by_cases h:c=k
 .subst h;simp
 .rw[beq_false_of_ne h,beq_false_of_ne (by simpa using h)]
theorem bR5 (x:It)(k:Nat)(s:Sto):eqv s DEEP x.e (.str [k])=some (match x with|.sg c=>c==k|.st _=>false):=by
 cases x with
 | sg c=>show some ([c]==[k])=_;rw[bZ5]
 | st t=>rfl
theorem cc6 (x:It)(s:Sto):zL .ne x.e (.str [40]) s=.ok (.bl (!x.isP)) s:=by
 show(match eqv s DEEP x.e (.str [40])with|some r=>R.ok (D.bl (!r)) s|none=>.bad)=_
 rw[bR5];cases x<;>rfl
theorem bS2 (x:It){s:Sto}{q:Nat}(h:s[q]?=some (.lst [.str [124],.str [46]])):zL .notin x.e (.ref q) s=.ok (.bl (!x.isJt)) s:=by
 have e:∀ k:Nat,eqv s DEEP (.str [k]) x.e=some (match x with|.sg c=>c==k|.st _=>false):=λ k=>by
  cases x with
  | sg c =>
   show some ([k]==[c])=_
   rw[bZ5]
   have:(k==c)=(c==k):=by rw[bL,beq_iff_eq,beq_iff_eq];omega
   rw[this]
  | st t=>rfl
 have z:inL s x.e [.str [124],.str [46]]=some x.isJt:=by
  unfold inL inL inL
  rw[e,e]
  cases x with
  | sg c=>unfold It.isJt isJ;simp
  | st t=>rfl
 show(inM x.e (.ref q) s).bind (λ b s=>R.ok (D.bl (!b)) s)=_
 have:inM x.e (.ref q) s=.ok x.isJt s:=by
  unfold inM
  simp only[h,z]
 rw[this];rfl
theorem as8 (x:It)(s:Sto):bi .isTup [x.e] s=.ok (.bl x.isSt) s:=by cases x<;>rfl
theorem It.ebnd (x:It)(n:Nat):x.e.bnd n=true:=by
 cases x with
 | sg c=>rfl
 | st t=>unfold It.e D.bnd D.bndL D.bndL D.bndL D.bndL;rw[t.bnd];rfl
theorem bE0 (Y:List It):∀ d∈hp Y,∀ n,d.bnd n=true:=λ d hd n=>by
 obtain⟨x,_,rfl⟩:=bC.mp hd
 exact x.ebnd n
theorem bo2 {l m:List D}{k:Nat}{i:Int}(z:i=-(k:Int))(hk:m.length=k)(h0:1<=k):ac8 (l++m) none (some i)=l:=by
 subst z
 have e:hiB (l++m).length (some (-(k:Int)))=l.length:=by
  rw[au]
  show(if 0<=-(k:Int)then _ else(-(k:Int)+((l.length+m.length:Nat):Int)).toNat)=_
  rw[if_neg (by omega)]
  omega
 unfold ac8
 rw[e]
 show((l++m).drop 0).take (l.length - 0)=l
 simp
theorem bk0 {s:Sto}{a:Nat}{l m:List D}{k:Nat}{i:Int}(h:s[a]?=some (.lst (l++m)))(z:i=-(k:Int))(hk:m.length=k)(h0:1<=k):slM (.ref a) none (some i) s=.ok (.ref s.length) (s++[.lst l]):=by
 unfold slM
 simp only[h,alloc_eq,bo2 z hk h0]
theorem aB1 {s:Sto}{a:Nat}{Y:List It}{x:It}{k:Nat}{i:Int}(h:s[a]?=some (.lst (hp Y)))(z:i=-((k:Int)+1))(hx:Y[k]?=some x):ixM (.ref a) (.int i) s=.ok x.e s:=by
 have hk:k<Y.length:=(af.mp hx).1
 refine aN4 (p:=[]) h z (by rw[an0];omega) ?_
 rw[an0]
 unfold hp
 rw[a9,List.getElem?_reverse (by omega),show Y.length - 1 - (Y.length - (k+1))=k by omega,hx]
 rfl
noncomputable abbrev cs1:S:=(.ite (.or (.cmp .lt (.bi .len (.cons (.var 0) .nil)) (.cst (.int 4))) (.or (.cmp .ne (.ix (.var 0) (.neg (.cst (.int 4)))) (.cst (.str [40]))) (.cmp .notin (.ix (.var 0) (.neg (.cst (.int 2)))) (.lst (.cons (.cst (.str [124])) (.cons (.cst (.str [46])) .nil)))))) (.cons (.ret (.cst .non)) .nil) .nil)
noncomputable abbrev cs2:S:=(.ite (.or (.not (.bi .isTup (.cons (.ix (.var 0) (.neg (.cst (.int 3)))) .nil))) (.not (.bi .isTup (.cons (.ix (.var 0) (.neg (.cst (.int 1)))) .nil)))) (.cons (.ret (.cst .non)) .nil) .nil)
noncomputable abbrev cs3:Ss:=(.cons (.asg (.tup [1,2,3]) (.ix (.var 0) (.neg (.cst (.int 3))))) (.cons (.asg (.tup [4,5,6]) (.ix (.var 0) (.neg (.cst (.int 1))))) (.cons (.asg (.one 7) (.ix (.lst (.cons (.cst (.str [101,105,116,104,101,114])) (.cons (.cst (.str [98,101,104,105,110,100])) .nil))) (.bi .int (.cons (.cmp .eq (.ix (.var 0) (.neg (.cst (.int 2)))) (.cst (.str [46]))) .nil)))) (.cons (.ret (.bin .add (.slU (.var 0) (.neg (.cst (.int 4)))) (.lst (.cons (.tup (.cons (.tup (.cons (.var 7) (.cons (.var 1) (.cons (.var 4) .nil)))) (.cons (.bin .add (.bin .add (.cst (.int 1)) (.var 2)) (.var 5)) (.cons (.bin .add (.cst (.int 1)) (.bi .max2 (.cons (.var 3) (.cons (.var 6) .nil)))) .nil)))) .nil)))) .nil))))
theorem bq7:ac2.body=(.cons cs1 (.cons cs2 cs3)):=rfl
theorem aS3 {F:Fns}{st:S}{z:Ss}{U:Env}{s s':Sto}{d:D}(h:ex F st U s=.ok (.ret d) s'):exs F (.cons st z) U s=.ok (.ret d) s':=by rw[zg,h];rfl
theorem aT8 {F:Fns}{st:S}{z:Ss}{U U':Env}{s s':Sto}(h:ex F st U s=.ok (.next U') s'):exs F (.cons st z) U s=exs F z U' s':=by rw[zg,h];rfl
section
variable {P:Pr} [Has P ac2]
noncomputable abbrev LJ:O:=.lst [.str [124],.str [46]]
noncomputable abbrev rC (a:Nat):Env:=[some (.ref a),none,none,none,none,none,none,none]
theorem aP9 (n:Nat)(Y:List It){u:Sto}{a:Nat}(hl:Y.length<=1000)(h:u[a]?=some (.lst (hp Y))) :
  (aa0 P (n+1)).call "_law_closed" [.ref a] u=match zX Y with|some Y'=>.ok (.ref u.length) (u++[.lst (hp Y')])|none=>.ok .non u:=by
 have G:=qD h
 rw[an0]at G
 have e0:(aa0 P (n+1)).call "_law_closed" [.ref a] u=_:=za ac2 (n:=n) rfl
 rw[bq7,show(bJ some [D.ref a]++aj ac2.vs none)=rC a from rfl]at e0
 have ret:∀ T:Sto,exs (aa0 P n) (.cons cs1 (.cons cs2 cs3)) (rC a) u=.ok (.ret .non) (u++T)->(aa0 P (n+1)).call "_law_closed" [.ref a] u=.ok .non u:=λ T e=>by
  rw[e0,e]
  exact zz (λ _=>rfl) (by nofun)
 have J:ex (aa0 P n) cs1 (rC a) u=.ok (.ret .non) u->(aa0 P (n+1)).call "_law_closed" [.ref a] u=.ok .non u:=λ e=>ret [] (by rw[aF];exact aS3 e)
 have F:Y.length<4->(aa0 P (n+1)).call "_law_closed" [.ref a] u=.ok .non u:=λ hs=>by
  have hd:decide ((Y.length:Int)<4)=true:=decide_eq_true (by omega)
  exact J (by tbr_iter [G,hd])
 match Y,h,hl,G,F with
 | [],h,hl,G,F=>exact F (by simp)
 | [x],h,hl,G,F=>rw[F (by simp)];cases x<;>rfl
 | [x,y],h,hl,G,F=>rw[F (by simp)];cases x<;>cases y<;>rfl
 | [x,y,z],h,hl,G,F=>rw[F (by simp)];cases x<;>cases y<;>cases z<;>rfl
 | x1::x2::x3::x4::Y',h,hl,G,_ =>
  have hd:decide (((x1::x2::x3::x4::Y').length:Int)<4)=false:=decide_eq_false (by simp only[aA];omega)
  have i4:ixM (.ref a) (.int (-4)) u=.ok x4.e u:=aB1 (k:=3) (i:=-4) h rfl (x:=x4) rfl
  have i2:ixM (.ref a) (.int (-2)) u=.ok x2.e u:=aB1 (k:=1) (i:=-2) h rfl (x:=x2) rfl
  have hU:∀ T:Sto,(u++T)[a]?=some (.lst (hp (x1::x2::x3::x4::Y'))):=λ T=>zm h
  have i3:ixM (.ref a) (.int (-3)) (u++[LJ])=.ok x3.e (u++[LJ]):=aB1 (k:=2) (i:=-3) (hU _) rfl (x:=x3) rfl
  have i1:ixM (.ref a) (.int (-1)) (u++[LJ])=.ok x1.e (u++[LJ]):=aB1 (k:=0) (i:=-1) (hU _) rfl (x:=x1) rfl
  have hn:=cc6 x4 u
  have hj:=bS2 x2 (s:=u++[LJ]) (q:=u.length) (by simp)
  have c1:ev (aa0 P n) (.cmp .lt (.bi .len (.cons (.var 0) .nil)) (.cst (.int 4))) (rC a) u=.ok (.bl false) u:=by tbr_iter [G,hd]
  have c2:ev (aa0 P n) (.cmp .ne (.ix (.var 0) (.neg (.cst (.int 4)))) (.cst (.str [40]))) (rC a) u=.ok (.bl (!x4.isP)) u:=by tbr_iter [ql,i4,hn]
  have c3:ev (aa0 P n) (.cmp .notin (.ix (.var 0) (.neg (.cst (.int 2)))) (.lst (.cons (.cst (.str [124])) (.cons (.cst (.str [46])) .nil)))) (rC a) u=.ok (.bl (!x2.isJt)) (u++[LJ]):=by tbr_iter [ql,i2,hj]
  have no:zX (x1::x2::x3::x4::Y')=none->(aa0 P (n+1)).call "_law_closed" [.ref a] u=.ok .non u->(aa0 P (n+1)).call "_law_closed" [.ref a] u=match zX (x1::x2::x3::x4::Y')with|some Y'=>.ok (.ref u.length) (u++[.lst (hp Y')])|none=>.ok .non u:=λ e1 e2=>by rw[e1];exact e2
  have Z:∀ {u' j t' p},zX (It.st u'::.sg j::.st t'::.sg p::Y')=if(isJ j&&p==40)=true then some (.st (.two (j==124) t' u')::Y')else none:=rfl
  cases h4:x4.isP with
  | false =>
   rw[h4]at c2
   refine no ?_ (J ?_)
   .cases x1 with
    | sg _=>rfl
    | st _=>cases x2 with
     | st _=>rfl
     | sg j=>cases x3 with
      | sg _=>rfl
      | st _=>cases x4 with
       | st _=>rfl
       | sg p =>
        have h4:(p==40)=false:=h4
        rw[Z,h4,jF,if_neg (by decide)]
   .rw[zN,ev_or,c1,zq,if_neg (by decide),ev_or,c2,zq]
    rfl
  | true =>
   rw[h4]at c2
   cases h2:x2.isJt with
   | false =>
    rw[h2]at c3
    refine no ?_ (ret [LJ] (aS3 ?_))
    .cases x1 with
     | sg _=>rfl
     | st _=>cases x2 with
      | st _=>rfl
      | sg j=>cases x3 with
       | sg _=>rfl
       | st _=>cases x4 with
        | st _=>rfl
        | sg p =>
         have h2:isJ j=false:=h2
         rw[Z,h2,jp,if_neg (by decide)]
    .rw[zN,ev_or,c1,zq,if_neg (by decide),ev_or,c2,zq,if_neg (by decide),c3]
     rfl
   | true =>
    rw[h2]at c3
    have s1:ex (aa0 P n) cs1 (rC a) u=.ok (.next (rC a)) (u++[LJ]):=by
     rw[zN,ev_or,c1,zq,if_neg (by decide),ev_or,c2,zq,if_neg (by decide),c3]
     rfl
    have t3:ev (aa0 P n) (.not (.bi .isTup (.cons (.ix (.var 0) (.neg (.cst (.int 3)))) .nil))) (rC a) (u++[LJ])=.ok (.bl (!x3.isSt)) (u++[LJ]):=zY (by tbr_iter [ql,i3,as8])
    have t1:ev (aa0 P n) (.not (.bi .isTup (.cons (.ix (.var 0) (.neg (.cst (.int 1)))) .nil))) (rC a) (u++[LJ])=.ok (.bl (!x1.isSt)) (u++[LJ]):=zY (by tbr_iter [ql,i1,as8])
    have t13:=ao7 t3 λ _=>t1
    cases hb:(!x3.isSt||!x1.isSt)with
    | true =>
     rw[hb]at t13
     refine no ?_ (ret [LJ] ((aT8 s1).trans (aS3 ?_)))
     .cases x1 with
      | sg _=>rfl
      | st _=>cases x2 with
       | st _=>rfl
       | sg j=>cases x3 with
        | sg _=>rfl
        | st _=>cases hb
     .rw[zN,t13,zq,if_pos rfl]
      rfl
    | false =>
     rw[hb]at t13
     have s2:ex (aa0 P n) cs2 (rC a) (u++[LJ])=.ok (.next (rC a)) (u++[LJ]):=by
      rw[zN,t13,zq,if_neg (by decide)]
      rfl
     cases x1 with
     | sg _=>rw[dk]at hb;cases hb.2
     | st v=>cases x2 with
      | st _=>cases h2
      | sg j=>cases x3 with
       | sg _=>cases hb
       | st t=>cases x4 with
        | st _=>cases h4
        | sg p =>
         have a4:isJ j=true:=h2
         have a6:(p==40)=true:=h4
         have hcl:zX (It.st v::.sg j::.st t::.sg p::Y')=some (.st (.two (j==124) t v)::Y'):=by
          rw[Z,a4,a6];rfl
         rw[hcl,e0,aT8 s1,aT8 s2]
         have ib:∀ S:Sto,bi .int [.bl (j==46)] S=.ok (.int (if(j==46)=true then 1 else 0)) S:=λ S=>rfl
         have iw:ixM (.ref (u++[LJ]).length) (.int (if(j==46)=true then 1 else 0)) (u++[LJ]++[.lst [.str [101,105,116,104,101,114],.str [98,101,104,105,110,100]]])=.ok (.str (aI2 (j==124))) (u++[LJ]++[.lst [.str [101,105,116,104,101,114],.str [98,101,104,105,110,100]]]):=by
          rcases aB3.mp a4 with rfl|rfl
          .exact zE (j:=0) zK rfl
          .exact zE (j:=1) zK rfl
         generalize hV:u++[LJ]++[O.lst [.str [101,105,116,104,101,114],.str [98,101,104,105,110,100]]]=V at iw
         have a2:V[a]?=some (.lst (hp (It.st v::.sg j::.st t::.sg p::Y'))):=by rw[<-hV,ar];exact hU _
         have b0:V[a]?=some (.lst (hp Y'++[(It.sg p).e,(It.st t).e,(It.sg j).e,(It.st v).e])):=by
          rw[a2,qM,qM,qM,qM]
          simp only[ar,cL,cA]
         have sl:=bk0 (k:=4) (i:=-4) b0 rfl rfl (by decide)
         have d1:(1:Int)+(t.sz:Int)+(v.sz:Int)=((Tr.two (j==124) t v).sz:Int):=by
          show _=((t.sz+v.sz+1:Nat):Int);omega
         have d2:(1:Int)+(if(v.dep:Int) > (t.dep:Int)then(v.dep:Int)else(t.dep:Int))=((Tr.two (j==124) t v).dep:Int):=by
          show _=((max t.dep v.dep+1:Nat):Int)
          split<;>omega
         have ad:=bM2 (s:=V++[.lst (hp Y')]++[.lst [.tup [.tup [.str (aI2 (j==124)),t.d,v.d],.int ((Tr.two (j==124) t v).sz:Int),.int ((Tr.two (j==124) t v).dep:Int)]]]) (a:=V.length) (b:=(V++[O.lst (hp Y')]).length) (l:=hp Y') (m:=[.tup [.tup [.str (aI2 (j==124)),t.d,v.d],.int ((Tr.two (j==124) t v).sz:Int),.int ((Tr.two (j==124) t v).dep:Int)]]) (by rw[ar];exact bE8) zK (by rw[an0];simp only[aA]at hl ⊢;unfold LIM;simp;omega)
         have a3:ixM (.ref a) (.int (-3)) (u++[LJ])=.ok (.tup [t.d,.int (t.sz:Int),.int (t.dep:Int)]) (u++[LJ]):=i3
         have a1:ixM (.ref a) (.int (-1)) (u++[LJ])=.ok (.tup [v.d,.int (v.sz:Int),.int (v.dep:Int)]) (u++[LJ]):=i1
         have a5:ixM (.ref a) (.int (-2)) V=.ok (.str [j]) V:=aB1 (k:=1) (i:=-2) a2 rfl (x:=.sg j) rfl
         have jq:=λ S=>eq1 j 46 S
         tbr_iter [ql,a3,a1,hV,a5,jq,ib,iw,ev_slU',sl,aH8,d1,d2,ad]
         have a0:(O.lst (hp (It.st (.two (j==124) t v)::Y'))).bnd u.length=true:=by unfold O.bnd;exact aj4 (bE0 _) _
         rw[qM]at a0 ⊢
         have hW:∀ x y:O,V++[x]++[y]=u++([LJ]++[O.lst [.str [101,105,116,104,101,114],.str [98,101,104,105,110,100]]]++[x]++[y]):=λ x y=>by rw[<-hV];simp only[ar]
         rw[hW]
         exact at7 a0
end
noncomputable abbrev rdT:E:=(.and (.cmp .gt (.bi .len (.cons (.var 1) .nil)) (.cst (.int 0))) (.bi .isTup (.cons (.ix (.var 1) (.neg (.cst (.int 1)))) .nil)))
noncomputable abbrev rk1:E:=(.and (.cmp .isin (.var 2) (.cst (.str [97,98,99]))) (.not (.var 3)))
noncomputable abbrev ra1:Ss:=(.cons (.asg (.one 1) (.bin .add (.var 1) (.lst (.cons (.tup (.cons (.tup (.cons (.cst (.str [108,101,116,116,101,114])) (.cons (.var 2) .nil))) (.cons (.cst (.int 1)) (.cons (.cst (.int 1)) .nil)))) .nil)))) .nil)
noncomputable abbrev rk2:E:=(.and (.cmp .eq (.var 2) (.cst (.str [45]))) (.not (.var 3)))
noncomputable abbrev ra2:Ss:=(.cons (.asg (.one 1) (.bin .add (.var 1) (.lst (.cons (.tup (.cons (.tup (.cons (.cst (.str [110,111,116,104,105,110,103])) .nil)) (.cons (.cst (.int 1)) (.cons (.cst (.int 1)) .nil)))) .nil)))) .nil)
noncomputable abbrev rk3:E:=(.and (.cmp .eq (.var 2) (.cst (.str [40]))) (.not (.var 3)))
noncomputable abbrev ra3:Ss:=(.cons (.asg (.one 1) (.bin .add (.var 1) (.lst (.cons (.cst (.str [40])) .nil)))) .nil)
noncomputable abbrev rk4:E:=(.and (.cmp .isin (.var 2) (.cst (.str [124,46]))) (.var 3))
noncomputable abbrev ra4:Ss:=(.cons (.asg (.one 1) (.bin .add (.var 1) (.lst (.cons (.var 2) .nil)))) .nil)
noncomputable abbrev rk5:E:=(.and (.cmp .eq (.var 2) (.cst (.str [42]))) (.var 3))
noncomputable abbrev ra5:Ss:=(.cons (.asg (.tup [4,5,6]) (.ix (.var 1) (.neg (.cst (.int 1))))) (.cons (.asg (.one 1) (.bin .add (.slU (.var 1) (.neg (.cst (.int 1)))) (.lst (.cons (.tup (.cons (.tup (.cons (.cst (.str [114,101,112,101,97,116])) (.cons (.var 4) .nil))) (.cons (.bin .add (.cst (.int 1)) (.var 5)) (.cons (.bin .add (.cst (.int 1)) (.var 6)) .nil)))) .nil)))) .nil))
noncomputable abbrev rk6:E:=(.and (.cmp .eq (.var 2) (.cst (.str [41]))) (.var 3))
noncomputable abbrev ra6:Ss:=(.cons (.asg (.one 1) (.call "_law_closed" (.ex (.var 1) .nil))) (.cons (.ite (.isN (.var 1)) (.cons (.ret (.cst .non)) .nil) .nil) .nil))
noncomputable def aY0:Ss:=(.cons (.asg (.one 3) rdT) (.cons (.ite rk1 ra1 (.cons (.ite rk2 ra2 (.cons (.ite rk3 ra3 (.cons (.ite rk4 ra4 (.cons (.ite rk5 ra5 (.cons (.ite rk6 ra6 (.cons (.ret (.cst .non)) .nil)) .nil)) .nil)) .nil)) .nil)) .nil)) .nil))
noncomputable abbrev rdE:E:=(.or (.cmp .ne (.bi .len (.cons (.var 1) .nil)) (.cst (.int 1))) (.or (.not (.bi .isTup (.cons (.ix (.var 1) (.cst (.int 0))) .nil))) (.or (.cmp .gt (.ix (.ix (.var 1) (.cst (.int 0))) (.cst (.int 1))) (.cst (.int 40))) (.cmp .gt (.ix (.ix (.var 1) (.cst (.int 0))) (.cst (.int 2))) (.cst (.int 12))))))
noncomputable abbrev rdR:E:=(.ix (.ix (.var 1) (.cst (.int 0))) (.cst (.int 0)))
theorem aR5:ad5.body=(.cons (.asg (.one 1) (.lst .nil)) (.cons (.for_ (.one 2) (.seq (.var 0)) aY0) (.cons (.ite rdE (.cons (.ret (.cst .non)) .nil) .nil) (.cons (.ret rdR) .nil)))):=rfl
theorem au0 {F:Fns}{st:S}{U:Env}{s:Sto}:exs F (.cons st .nil) U s=ex F st U s:=by
 rw[zg]
 cases h:ex F st U s with
 | ok c s=>cases c<;>rfl
 | bad=>rfl
 | exc=>rfl
theorem bx7 {F:Fns}{k:E}{a b:Ss}{U:Env}{s:Sto}(h:ev F k U s=.ok (.bl true) s):exs F (.cons (.ite k a b) .nil) U s=exs F a U s:=by
 rw[au0,zN,h,zq,if_pos rfl]
theorem by2 {F:Fns}{k:E}{a b:Ss}{U:Env}{s:Sto}(h:ev F k U s=.ok (.bl false) s):exs F (.cons (.ite k a b) .nil) U s=exs F b U s:=by
 rw[au0,zN,h,zq,if_neg (by decide)]
theorem aU0 (c:Nat)(y:List Nat)(s:Sto):zL .isin (.str [c]) (.str y) s=.ok (.bl (decide (c∈y))) s:=rfl
section
variable {P:Pr} [Has P ac2]
noncomputable def bK5 (x0:Option D)(c:Nat)(S:Sto)(r:R Ct):Option (List It)->Prop
 | some Y'=>∃(T:Sto) (a':Nat) (y3 y4 y5 y6:Option D),r=.ok (.next [x0,some (.ref a'),some (.str [c]),y3,y4,y5,y6]) (S++T)/\(S++T)[a']?=some (.lst (hp Y'))
 | none=>∃ T:Sto,r=.ok (.ret .non) (S++T)
theorem ak9 {S:Sto}{a:Nat}{Y:List It}(hl:Y.length<=1000)(h:S[a]?=some (.lst (hp Y)))(x:It):qa .add (.ref a) (.ref S.length) (S++[.lst [x.e]])=.ok (.ref (S++[O.lst [x.e]]).length) (S++[.lst [x.e]]++[.lst (hp (x::Y))]):=by
 have:=bM2 (s:=S++[.lst [x.e]]) (a:=a) (b:=S.length) (l:=hp Y) (m:=[x.e]) (zm h) zK (by rw[an0];unfold LIM;simp;omega)
 rw[qM]
 exact this
theorem bx2 (n:Nat)(Y:List It)(c:Nat){S:Sto}{a:Nat}(hl:Y.length<=1000)(h:S[a]?=some (.lst (hp Y)))(x0 x2 x3 z F G:Option D) :
  bK5 x0 c S (turn (aa0 P (n+1)) (.one 2) aY0 (.str [c]) [x0,some (.ref a),x2,x3,z,F,G] S) (qd Y c):=by
 have a0:=qD h
 rw[an0]at a0
 have ht:ev (aa0 P (n+1)) rdT [x0,some (.ref a),some (.str [c]),x3,z,F,G] S=.ok (.bl (qR Y)) S:=by
  have h1:ev (aa0 P (n+1)) (.cmp .gt (.bi .len (.cons (.var 1) .nil)) (.cst (.int 0))) [x0,some (.ref a),some (.str [c]),x3,z,F,G] S=.ok (.bl (decide ((0:Int)<(Y.length:Int)))) S:=by tbr_iter [a0]
  cases Y with
  | nil=>exact zy (y:=false) h1 (by nofun)
  | cons x Y =>
   have i1:=aB1 (k:=0) (i:=-1) h rfl (x:=x) rfl
   have h2:ev (aa0 P (n+1)) (.bi .isTup (.cons (.ix (.var 1) (.neg (.cst (.int 1)))) .nil)) [x0,some (.ref a),some (.str [c]),x3,z,F,G] S=.ok (.bl x.isSt) S:=by tbr_iter [ql,i1,as8]
   have:=zy h1 λ _=>h2
   rw[decide_eq_true (by simp only[aA];omega),d7]at this
   rw[this]
   cases x<;>rfl
 have e0:turn (aa0 P (n+1)) (.one 2) aY0 (.str [c]) [x0,some (.ref a),x2,x3,z,F,G] S=exs (aa0 P (n+1)) (.cons (.ite rk1 ra1 (.cons (.ite rk2 ra2 (.cons (.ite rk3 ra3 (.cons (.ite rk4 ra4 (.cons (.ite rk5 ra5 (.cons (.ite rk6 ra6 (.cons (.ret (.cst .non)) .nil)) .nil)) .nil)) .nil)) .nil)) .nil)) .nil) [x0,some (.ref a),some (.str [c]),some (.bl (qR Y)),z,F,G] S:=by
  show exs (aa0 P (n+1)) aY0 [x0,some (.ref a),some (.str [c]),x3,z,F,G] S=_
  unfold aY0
  rw[zg,ex_asg,ht,R.bind_ok]
  rfl
 rw[e0]
 have hq:∀ k:Nat,ev (aa0 P (n+1)) (.cmp .eq (.var 2) (.cst (.str [k]))) [x0,some (.ref a),some (.str [c]),some (.bl (qR Y)),z,F,G] S=.ok (.bl (c==k)) S:=λ k=>by tbr_iter [eq1]
 have hv:ev (aa0 P (n+1)) (.var 3) [x0,some (.ref a),some (.str [c]),some (.bl (qR Y)),z,F,G] S=.ok (.bl (qR Y)) S:=rfl
 have hL:ev (aa0 P (n+1)) (.cmp .isin (.var 2) (.cst (.str [97,98,99]))) [x0,some (.ref a),some (.str [c]),some (.bl (qR Y)),z,F,G] S=.ok (.bl (isL c)) S:=by
  have:decide (c∈[97,98,99])=isL c:=by unfold isL;rw[bL,decide_eq_true_eq];simp
  tbr_iter [aU0,this]
 have hJ:ev (aa0 P (n+1)) (.cmp .isin (.var 2) (.cst (.str [124,46]))) [x0,some (.ref a),some (.str [c]),some (.bl (qR Y)),z,F,G] S=.ok (.bl (isJ c)) S:=by
  have:decide (c∈[124,46])=isJ c:=by unfold isJ;rw[bL,decide_eq_true_eq];simp
  tbr_iter [aU0,this]
 have k1:=zy hL λ _=>zY hv
 have k2:=zy (hq 45) λ _=>zY hv
 have k3:=zy (hq 40) λ _=>zY hv
 have k4:=zy hJ λ _=>hv
 have k5:=zy (hq 42) λ _=>hv
 have k6:=zy (hq 41) λ _=>hv
 unfold qd
 have J:∀(x:It) (st:Ss),exs (aa0 P (n+1)) st [x0,some (.ref a),some (.str [c]),some (.bl (qR Y)),z,F,G] S=.ok (.next [x0,some (.ref (S++[O.lst [x.e]]).length),some (.str [c]),some (.bl (qR Y)),z,F,G]) (S++[.lst [x.e]]++[.lst (hp (x::Y))])->bK5 x0 c S (exs (aa0 P (n+1)) st [x0,some (.ref a),some (.str [c]),some (.bl (qR Y)),z,F,G] S) (some (x::Y)):=λ x st e =>
  ⟨[.lst [x.e]]++[.lst (hp (x::Y))],_,_,_,_,_,by rw[e,ar],by rw[<-ar];exact zK⟩
 cases b1:isL c&&!qR Y with
 | true =>
  rw[b1]at k1
  rw[if_pos rfl,bx7 k1]
  have Z:qa .add (.ref a) (.ref S.length) (S++[.lst [.tup [.tup [.str [108,101,116,116,101,114],.str [c]],.int 1,.int 1]]])=_:=ak9 hl h (.st (.letter c))
  exact J (.st (.letter c)) _ (by tbr_iter [Z])
 | false =>
  rw[b1]at k1
  rw[if_neg (by decide),by2 k1]
  cases b2:c==45&&!qR Y with
  | true =>
   rw[b2]at k2
   rw[if_pos rfl,bx7 k2]
   have Z:qa .add (.ref a) (.ref S.length) (S++[.lst [.tup [.tup [.str [110,111,116,104,105,110,103]],.int 1,.int 1]]])=_:=ak9 hl h (.st .nothing)
   exact J (.st .nothing) _ (by tbr_iter [Z])
  | false =>
   rw[b2]at k2
   rw[if_neg (by decide),by2 k2]
   cases b3:c==40&&!qR Y with
   | true =>
    rw[b3]at k3
    rw[if_pos rfl,bx7 k3]
    have Z:qa .add (.ref a) (.ref S.length) (S++[.lst [.str [40]]])=_:=ak9 hl h (.sg 40)
    exact J (.sg 40) _ (by tbr_iter [Z])
   | false =>
    rw[b3]at k3
    rw[if_neg (by decide),by2 k3]
    cases b4:isJ c&&qR Y with
    | true =>
     rw[b4]at k4
     rw[if_pos rfl,bx7 k4]
     have Z:qa .add (.ref a) (.ref S.length) (S++[.lst [.str [c]]])=_:=ak9 hl h (.sg c)
     exact J (.sg c) _ (by tbr_iter [Z])
    | false =>
     rw[b4]at k4
     rw[if_neg (by decide),by2 k4]
     cases b5:c==42&&qR Y with
     | true =>
      rw[b5]at k5
      rw[if_pos rfl,bx7 k5]
      have a1:qR Y=true:=by rw[am]at b5;exact b5.2
      cases Y with
      | nil=>cases a1
      | cons x Y=>cases x with
       | sg _=>cases a1
       | st t =>
        have i1:ixM (.ref a) (.int (-1)) S=.ok (.tup [t.d,.int (t.sz:Int),.int (t.dep:Int)]) S:=aB1 (k:=0) (i:=-1) h rfl (x:=.st t) rfl
        rw[qM]at h
        have sl:=bk0 (k:=1) (i:=-1) h rfl rfl (by decide)
        have hS:(S++[O.lst (hp Y)])[S.length]?=some (.lst (hp Y)):=zK
        have d1:(1:Int)+(t.sz:Int)=((Tr.rep t).sz:Int):=by show _=((t.sz+1:Nat):Int);omega
        have d2:(1:Int)+(t.dep:Int)=((Tr.rep t).dep:Int):=by show _=((t.dep+1:Nat):Int);omega
        have Z:qa .add (.ref S.length) (.ref (S++[O.lst (hp Y)]).length) (S++[.lst (hp Y)]++[.lst [.tup [.tup [.str [114,101,112,101,97,116],t.d],.int ((Tr.rep t).sz:Int),.int ((Tr.rep t).dep:Int)]]])=_:=ak9 (by rw[aA]at hl;omega) hS (.st (.rep t))
        refine⟨[.lst (hp Y)]++[.lst [.tup [.tup [.str [114,101,112,101,97,116],t.d],.int ((Tr.rep t).sz:Int),.int ((Tr.rep t).dep:Int)]]]++[.lst (hp (.st (.rep t)::Y))],(S++[O.lst (hp Y)]++[O.lst [.tup [.tup [.str [114,101,112,101,97,116],t.d],.int ((Tr.rep t).sz:Int),.int ((Tr.rep t).dep:Int)]]]).length,some (.bl (qR (It.st t::Y))),some t.d,some (.int (t.sz:Int)),some (.int (t.dep:Int)),?_,?_⟩
        .rw[<-ar,<-ar]
         tbr_iter [ql,i1,ev_slU',sl,d1,d2,Z]
         rfl
        .rw[<-ar,<-ar];exact zK
     | false =>
      rw[b5]at k5
      rw[if_neg (by decide),by2 k5]
      cases b6:c==41&&qR Y with
      | true =>
       rw[b6]at k6
       rw[if_pos rfl,bx7 k6]
       have cl:=aP9 (P:=P) n Y hl h
       cases hc:zX Y with
       | none =>
        rw[hc]at cl
        have cl:(aa0 P (n+1)).call "_law_closed" [.ref a] S=.ok .non S:=cl
        refine⟨[],?_⟩
        rw[aF]
        have dn:decide (D.non=.non)=true:=rfl
        tbr_iter [cl,dn]
       | some Y' =>
        rw[hc]at cl
        have cl:(aa0 P (n+1)).call "_law_closed" [.ref a] S=.ok (.ref S.length) (S++[.lst (hp Y')]):=cl
        have dn:decide (D.ref S.length=.non)=false:=by simp
        refine⟨[.lst (hp Y')],S.length,some (.bl (qR Y)),z,F,G,?_,zK⟩
        tbr_iter [cl,dn]
      | false =>
       rw[b6]at k6
       rw[if_neg (by decide),by2 k6]
       exact⟨[],by rw[aF];rfl⟩
variable [Has P ad5]
theorem aU7 (n:Nat){ok:Sto->Bool}(hok:∀ s,ok s=true)(x0:Option D):∀(w:List Nat) (Y:List It) (S:Sto) (a:Nat) (x2 z F G J:Option D),Y.length+w.length<=1000->S[a]?=some (.lst (hp Y)) ->
  match aB4 Y w with
  | some Y'=>∃(T:Sto) (a':Nat) (y2 y3 y4 y5 y6:Option D),av3 ok (turn (aa0 P (n+1)) (.one 2) aY0) (w.map λ c=>D.str [c]) [x0,some (.ref a),x2,z,F,G,J] S=.ok (.next [x0,some (.ref a'),y2,y3,y4,y5,y6]) (S++T)/\(S++T)[a']?=some (.lst (hp Y'))
  | none=>∃ T:Sto,av3 ok (turn (aa0 P (n+1)) (.one 2) aY0) (w.map λ c=>D.str [c]) [x0,some (.ref a),x2,z,F,G,J] S=.ok (.ret .non) (S++T)
 | [],Y,S,a,x2,z,F,G,J,hl,h=>by
  refine⟨[],a,x2,z,F,G,J,?_,by rw[aF];exact h⟩
  rw[aF]
  show(if ok _ then _ else _)=_
  rw[if_pos (hok _)]
 | c::w,Y,S,a,x2,z,F,G,J,hl,h=>by
  rw[aA]at hl
  have ht:=bx2 (P:=P) n Y c (by omega) h x0 x2 z F G J
  show match(match qd Y c with|some R'=>aB4 R' w|none=>none)with
   | some Y'=>_
   | none=>_
  cases hs:qd Y c with
  | none =>
   rw[hs]at ht
   obtain⟨T,e⟩:=ht
   refine⟨T,?_⟩
   show(if ok S then _ else _)=_
   rw[if_pos (hok _),e]
   rfl
  | some Y1 =>
   rw[hs]at ht
   obtain⟨T,a1,y3,y4,y5,y6,e,g⟩:=ht
   have:=ay4 hs
   have Z:=aU7 n hok x0 w Y1 (S++T) a1 (some (.str [c])) y3 y4 y5 y6 (by omega) g
   have st:=az0 (l:=w.map λ c=>D.str [c]) (hok S) e
   show match aB4 Y1 w with|some Y'=>_|none=>_
   cases hr:aB4 Y1 w with
   | none =>
    rw[hr]at Z
    obtain⟨T2,e2⟩:=Z
    exact⟨T++T2,by rw[<-ar];exact st.trans e2⟩
   | some Y2 =>
    rw[hr]at Z
    obtain⟨T2,a2,z2,z3,z4,z5,z6,e2,g2⟩:=Z
    exact⟨T++T2,a2,z2,z3,z4,z5,z6,by rw[<-ar];exact st.trans e2,by rw[<-ar];exact g2⟩
noncomputable def trD:Option Tr->D
 | some t=>t.d|none=>.non
theorem aA6 (n:Nat)(w:List Nat)(hw:w.length<=1000)(s:Sto):(aa0 P (n+2)).call "_law_read" [.str w] s=.ok (trD (bm4 (aB4 [] w))) s:=by
 have e0:(aa0 P (n+2)).call "_law_read" [.str w] s=_:=za ad5 (n:=n+1) rfl
 rw[e0,aR5,show(bJ some [D.str w]++aj ad5.vs none)=[some (.str w),none,none,none,none,none,none]from rfl]
 have sT:∀ S,aY3 (.str w) S=.ok ⟨w.map λ c=>.str [c],[]⟩ S:=λ _=>rfl
 have key:=aU7 (P:=P) n (ok:=λ S=>chk (s++[.lst []]) S []) (λ _=>rfl) (some (.str w)) w [] (s++[.lst []]) s.length none none none none none (by show 0+_<=_;omega) zK
 have nn:∀ T:Sto,zr s .non (s++T)=.ok .non s:=λ T=>zz (λ _=>rfl) (by nofun)
 cases hr:aB4 [] w with
 | none =>
  rw[hr]at key
  obtain⟨T,e⟩:=key
  tbr_iter [sT,e]
  rw[ar]
  exact nn _
 | some Y =>
  rw[hr]at key
  obtain⟨T,a,J,y3,Z,G,y6,e,g⟩:=key
  have a2:exs (aa0 P (n+1)) (.cons (.asg (.one 1) (.lst .nil)) (.cons (.for_ (.one 2) (.seq (.var 0)) aY0) (.cons (.ite rdE (.cons (.ret (.cst .non)) .nil) .nil) (.cons (.ret rdR) .nil)))) [some (.str w),none,none,none,none,none,none] s=exs (aa0 P (n+1)) (.cons (.ite rdE (.cons (.ret (.cst .non)) .nil) .nil) (.cons (.ret rdR) .nil)) [some (.str w),some (.ref a),J,y3,Z,G,y6] (s++[.lst []]++T):=by
   have h1:ex (aa0 P (n+1)) (.asg (.one 1) (.lst .nil)) [some (.str w),none,none,none,none,none,none] s=.ok (.next [some (.str w),some (.ref s.length),none,none,none,none,none]) (s++[.lst []]):=by tbr_iter []
   have h2:ex (aa0 P (n+1)) (.for_ (.one 2) (.seq (.var 0)) aY0) [some (.str w),some (.ref s.length),none,none,none,none,none] (s++[.lst []])=.ok (.next [some (.str w),some (.ref a),J,y3,Z,G,y6]) (s++[.lst []]++T):=by tbr_iter [sT,e]
   rw[zg,h1,R.bind_ok]
   show exs (aa0 P (n+1)) (.cons (.for_ (.one 2) (.seq (.var 0)) aY0) _) _ _=_
   rw[zg,h2,R.bind_ok]
   rfl
  rw[a2]
  generalize hS:s++[O.lst []]++T=S at g
  have a1:∃ T',S=s++T':=⟨[.lst []]++T,by rw[<-hS,ar]⟩
  have z:=qD g
  rw[an0]at z
  have F:ev (aa0 P (n+1)) (.cmp .ne (.bi .len (.cons (.var 1) .nil)) (.cst (.int 1))) [some (.str w),some (.ref a),J,y3,Z,G,y6] S=.ok (.bl (!decide ((Y.length:Int)=1))) S:=by tbr_iter [z]
  have no:ev (aa0 P (n+1)) rdE [some (.str w),some (.ref a),J,y3,Z,G,y6] S=.ok (.bl true) S->bm4 (some Y)=none->(exs (aa0 P (n+1)) (.cons (.ite rdE (.cons (.ret (.cst .non)) .nil) .nil) (.cons (.ret rdR) .nil)) [some (.str w),some (.ref a),J,y3,Z,G,y6] S).bind (λ c s'=>match c with
    | .ret v=>zr s v s'
    | .next _=>zr s .non s'
    | _=>.bad)=.ok (trD (bm4 (some Y))) s:=λ h1 h2=>by
   have:exs (aa0 P (n+1)) (.cons (.ite rdE (.cons (.ret (.cst .non)) .nil) .nil) (.cons (.ret rdR) .nil)) [some (.str w),some (.ref a),J,y3,Z,G,y6] S=.ok (.ret .non) S:=by
    rw[zg,zN,h1,zq,if_pos rfl]
    rfl
   rw[this,h2]
   obtain⟨T',rfl⟩:=a1
   exact nn T'
  match Y,g,z,F,no with
  | [],g,z,F,no=>exact no (ao7 (y:=true) F (by nofun)) rfl
  | x::y::Y,g,z,F,no =>
   have hd:decide (((x::y::Y).length:Int)=1)=false:=decide_eq_false (by simp only[aA];omega)
   rw[hd]at F
   exact no (ao7 (y:=true) F (by nofun)) (by cases x<;>rfl)
  | [x],g,z,F,no =>
   have i0:ixM (.ref a) (.int 0) S=.ok x.e S:=zE (j:=0) g rfl
   have ht:ev (aa0 P (n+1)) (.bi .isTup (.cons (.ix (.var 1) (.cst (.int 0))) .nil)) [some (.str w),some (.ref a),J,y3,Z,G,y6] S=.ok (.bl x.isSt) S:=by tbr_iter [i0,as8]
   cases x with
   | sg c=>exact no (ao7 (y:=true) F λ _=>ao7 (x:=true) (y:=true) (zY ht) (by nofun)) rfl
   | st t =>
    have i0:ixM (.ref a) (.int 0) S=.ok (.tup [t.d,.int (t.sz:Int),.int (t.dep:Int)]) S:=i0
    have t0:ixM (.tup [t.d,.int (t.sz:Int),.int (t.dep:Int)]) (.int 0) S=.ok t.d S:=rfl
    have t1:ixM (.tup [t.d,.int (t.sz:Int),.int (t.dep:Int)]) (.int 1) S=.ok (.int (t.sz:Int)) S:=rfl
    have t2:ixM (.tup [t.d,.int (t.sz:Int),.int (t.dep:Int)]) (.int 2) S=.ok (.int (t.dep:Int)) S:=rfl
    have q1:ev (aa0 P (n+1)) (.cmp .gt (.ix (.ix (.var 1) (.cst (.int 0))) (.cst (.int 1))) (.cst (.int 40))) [some (.str w),some (.ref a),J,y3,Z,G,y6] S=.ok (.bl (decide ((40:Int)<(t.sz:Int)))) S:=by tbr_iter [i0,t1]
    have q2:ev (aa0 P (n+1)) (.cmp .gt (.ix (.ix (.var 1) (.cst (.int 0))) (.cst (.int 2))) (.cst (.int 12))) [some (.str w),some (.ref a),J,y3,Z,G,y6] S=.ok (.bl (decide ((12:Int)<(t.dep:Int)))) S:=by tbr_iter [i0,t2]
    have q:ev (aa0 P (n+1)) rdE [some (.str w),some (.ref a),J,y3,Z,G,y6] S=.ok (.bl (decide ((40:Int)<(t.sz:Int))||decide ((12:Int)<(t.dep:Int)))) S:=ao7 (x:=false) F λ _=>ao7 (x:=false) (zY ht) λ _=>ao7 q1 λ _=>q2
    by_cases hf:t.sz<=40/\t.dep<=12
    .have f1:decide ((40:Int)<(t.sz:Int))=false:=decide_eq_false (by omega)
     have f2:decide ((12:Int)<(t.dep:Int))=false:=decide_eq_false (by omega)
     rw[f1,f2]at q
     have a0:bm4 (some [.st t])=some t:=if_pos hf
     rw[a0]
     have:exs (aa0 P (n+1)) (.cons (.ite rdE (.cons (.ret (.cst .non)) .nil) .nil) (.cons (.ret rdR) .nil)) [some (.str w),some (.ref a),J,y3,Z,G,y6] S=.ok (.ret t.d) S:=by
      rw[zg,zN,q,zq,if_neg (by decide)]
      tbr_iter [i0,t0]
     rw[this]
     obtain⟨T',rfl⟩:=a1
     exact zz t.bnd t.noref
    .refine no (q.trans ?_) (if_neg hf)
     have:(decide ((40:Int)<(t.sz:Int))||decide ((12:Int)<(t.dep:Int)))=true:=by
      rw[aY,decide_eq_true_eq,decide_eq_true_eq];omega
     rw[this]
end
theorem comp_all {ok:Sto->Bool}{g:D->Env->Sto->R (Option D×Env)}(P:Env->Sto->Prop)(Q:D->Prop):∀(l:List D) (U:Env) (s:Sto),P U s ->
  (∀ U s,P U s->ok s=true)->(∀ d∈l,∀ U s,P U s->∃ v U' s',g d U s=.ok (some v,U') s'/\Q v/\P U' s')->∃ z U' s',ae1 ok g l U s=.ok z s'/\z.length=l.length/\(∀ v∈z,Q v)/\P U' s'
 | [],U,s,h,o,_=>⟨[],U,s,by unfold ae1;rw[if_pos (o U s h)],rfl,λ v hv=>(by cases hv),h⟩
 | d::l,U,s,h,o,st=>by
  obtain⟨v,U1,s1,e1,hv,F⟩:=st d (aw ..) U s h
  obtain⟨z,U2,s2,e2,hl,hq,G⟩:=comp_all P Q l U1 s1 F o λ x hx=>st x (ak _ hx)
  refine⟨v::z,U2,s2,?_,by rw[aA,aA,hl],λ x hx=>?_,G⟩
  .unfold ae1
   rw[if_pos (o U s h),e1]
   simp only[R.bind_ok]
   rw[e2];rfl
  .rcases ax.mp hx with rfl|hx
   .exact hv
   .exact hq x hx
noncomputable def bp0 (c:Int)(x y:D):M Sq:=λ s=>match x,y with|.int i,.int j=>if c=2/\(0<=i/\i<1048576)/\0<=j/\j<1048576 then .ok ⟨aK8 i j c,[]⟩ s else .bad|_,_=>.bad
@[simp] theorem bc7 {F:Fns} {U:Env} {s:Sto} (a b:E) (c:Int):evI F (.rng3 a b c) U s=(ev F a U s).bind λ x s=>(ev F b U s).bind λ y s=>bp0 c x y s:=rfl
theorem bo0 {i j:Int}{s:Sto}(h:(0<=i/\i<1048576)/\0<=j/\j<1048576):bp0 2 (.int i) (.int j) s=.ok ⟨aK8 i j 2,[]⟩ s:=by unfold bp0;simp only[h,and_self,if_true]
def Tx (m:Nat)(d:D):Prop:=∃ w:List Nat,d=.str w/\w.length<=m
theorem Tx.mono {m k:Nat}{d:D}(h:m<=k):Tx m d->Tx k d:=λ⟨w,e,hw⟩=>⟨w,e,by omega⟩
def TxR (m:Nat)(s:Sto)(r:Nat)(x:R D):Prop:=∃(w:List Nat) (b:Nat×Nat),w.length<=m/\x=.ok (.str w) (s.set r (ze b))
theorem zG {a b:List Nat}{s:Sto}(h:a.length+b.length<=LIM):qa .add (.str a) (.str b) s=.ok (.str (a++b)) s:=by
 show(if a.length+b.length<=LIM then pur (.str (a++b))else bad) s=_
 rw[if_pos h];rfl
theorem sl_str (l:List Nat)(z F:Option Int)(s:Sto):slM (.str l) z F s=.ok (.str (ac8 l z F)) s:=rfl
theorem aH1 (l:List Nat)(z F:Option Int):(ac8 l z F).length<=l.length:=by
 unfold ac8
 rw[bE,bV];omega
theorem aR6 {s T:Sto}{r m:Nat}{b:Nat×Nat}{w:List Nat}(h:w.length<=m):TxR m s r (zr s (.str w) (s.set r (ze b)++T)):=⟨w,b,h,aw1 (λ _=>rfl) (by nofun) rfl⟩
def KM (k m:Nat):Prop:=k=20/\m=1\/k=10/\m=5\/k=5/\m=13\/k=3/\m=29\/k=2/\m=61\/k=1/\m=125
theorem KM.le {k m:Nat}(h:KM k m):1<=k/\k<=20/\m<=125:=by
 rcases h with⟨rfl,rfl⟩|⟨rfl,rfl⟩|⟨rfl,rfl⟩|⟨rfl,rfl⟩|⟨rfl,rfl⟩|⟨rfl,rfl⟩<;>decide
theorem KM.next {k m:Nat}(h:KM k m)(z:1<k):k / 2+(k - 2*(k / 2))<k/\KM (k / 2+(k - 2*(k / 2))) (2*m+3):=by
 rcases h with⟨rfl,rfl⟩|⟨rfl,rfl⟩|⟨rfl,rfl⟩|⟨rfl,rfl⟩|⟨rfl,rfl⟩|⟨rfl,rfl⟩
 .exact⟨by decide,.inr (.inl ⟨rfl,rfl⟩)⟩
 .exact⟨by decide,.inr (.inr (.inl ⟨rfl,rfl⟩))⟩
 .exact⟨by decide,.inr (.inr (.inr (.inl ⟨rfl,rfl⟩)))⟩
 .exact⟨by decide,.inr (.inr (.inr (.inr (.inl ⟨rfl,rfl⟩))))⟩
 .exact⟨by decide,.inr (.inr (.inr (.inr (.inr ⟨rfl,rfl⟩))))⟩
 .exact absurd z (by decide)
theorem bI6 {P:Pr}[Has P ac7][Has P ad6](n:Nat){s:Sto}{r:Nat}(hs:∃ b,s[r]?=some (ze b)):TxR 128 s r ((aa0 P (n+2)).call "_law_wide" [.ref r] s):=by
 have e0:(aa0 P (n+2)).call "_law_wide" [.ref r] s=_:=za ad6 (n:=n+1) rfl
 rw[e0]
 have hr:=ak3 hs
 obtain⟨b0,c2⟩:=hs
 have c4:s.set r (ze b0)=s:=by
  have e:s[r]=ze b0:=(af.mp c2).2
  rw[<-e,da]
 obtain⟨l1,U1,s1,e1,d1,b7,b1,f1,_⟩:=comp_all (ok:=λ Z=>chk s Z []) (g:=at8 (aa0 P (n+1)) (.one 0) (.ix (.cst (.str [97,98,99])) (.call "_law_take" (.ex (.var 1) (.ex (.cst (.int 3)) .nil))))) (λ U u=>∃ b,u=s.set r (ze b)/\∃ x,U=[x,some (.ref r)]) (Tx 1) (al0 0 20) (ad0 [some (.ref r),none,none] [none,some 0]) s ⟨b0,c4.symm,none,rfl⟩ (λ _ _ _=>rfl) (by
  rintro d hd U u ⟨b,rfl,x,rfl⟩
  obtain⟨a,b',ha,ea⟩:=qv (P:=P) n (qN (b:=b) hr) 3 (by decide) (by decide)
  rw[cj]at ea
  have a5:=bm1 (k:=a) (by omega) (s.set r (ze b'))
  exact⟨.str [97+a],[some d,some (.ref r)],s.set r (ze b'),by unfold at8;simp -implicitDefEqProofs [ea,a5],⟨_,rfl,ao _⟩,b',rfl,_,rfl⟩)
 subst f1
 have a0:l1.length=20:=by rw[d1];decide
 simp -implicitDefEqProofs only[ad6,zg,bz,eU,cL,cA,aj,ex_asg,ev_mk,aj3,evI_rng1,qy,qw,R.bind_ok]
 rw[am5 (by decide) (by decide)]
 simp only[R.bind_ok]
 rw[if_pos (by decide),e1]
 simp -implicitDefEqProofs only[R.bind_ok,mk,alloc_eq,qz,setV_s,setV_0,cZ,setC_some,z0,zg,ex_whl]
 rw[R.bind_assoc]
 refine aH6 (Ww:=λ x=>TxR 128 s r x) (λ k U u=>∃(T:Sto) (k1 m:Nat) (l:List D) (x2:Option D),u=s.set r (ze b1)++T/\u[k1]?=some (.lst l)/\l.length=k/\KM k m/\(∀ d∈l,Tx m d)/\U=[some (.ref r),some (.ref k1),x2])
  (λ U u=>∃(T:Sto) (k1:Nat) (l:List D) (x2:Option D),u=s.set r (ze b1)++T/\u[k1]?=some (.lst l)/\1<=l.length/\(∀ d∈l,Tx 125 d)/\U=[some (.ref r),some (.ref k1),x2]) 20 ⟨[.lst l1],(s.set r (ze b1)).length,1,l1,_,rfl,by simp,a0,.inl ⟨rfl,rfl⟩,b7,rfl⟩ ?_ ?_
 .rintro k U u ⟨T,k1,m,l,x2,rfl,g1,f0,b5,hB,rfl⟩
  have F:=qD g1
  obtain⟨g2,f2,c3⟩:=b5.le
  by_cases hgt:1<k
  .have G:(1:Int)<(l.length:Int):=by omega
   simp -implicitDefEqProofs only[ev_cmp,ev_bi,evs_cons,evs_nil,qq,qp,getV_s,R.bind_ok,F,qy,qw,gt_int,G,decide_true,aG6,if_true]
   obtain⟨z,U2,s2,e2,b6,c1,e5,_⟩:=comp_all (ok:=λ Z=>chk (s.set r (ze b1)++T) Z []) (g:=at8 (aa0 P (n+1)) (.one 0) (.bin .add (.bin .add (.bin .add (.bin .add (.cst (.str [40])) (.ix (.var 1) (.var 0))) (.cst (.str [46]))) (.ix (.var 1) (.bin .add (.var 0) (.cst (.int 1))))) (.cst (.str [41])))) (λ U u=>u=s.set r (ze b1)++T/\∃ x,U=[x,some (.ref k1)]) (Tx (2*m+3)) (aK8 0 ((l.length:Int) - 1) 2) (ad0 [some (.ref r),some (.ref k1),x2] [none,some 1]) (s.set r (ze b1)++T) ⟨rfl,none,rfl⟩ (λ _ _ _=>rfl) (by
    rintro d hd U u ⟨rfl,x,rfl⟩
    unfold aK8 at hd
    rw[if_pos (by decide),bC]at hd
    obtain⟨j,hj,rfl⟩:=hd
    rw[cr]at hj
    have f4:2*j+1<l.length:=by omega
    obtain⟨wa,d4,f3⟩:=hB l[2*j] (bW _)
    obtain⟨wb,e3,f5⟩:=hB l[2*j+1] (bW _)
    have ia:ixM (.ref k1) (.int (0+2*(j:Int))) (s.set r (ze b1)++T)=.ok (.str wa) (s.set r (ze b1)++T):=by
     rw[show(0:Int)+2*(j:Int)=((2*j:Nat):Int)by omega,<-d4]
     exact zE g1 (ag (by omega))
    have ib:ixM (.ref k1) (.int (0+2*(j:Int)+1)) (s.set r (ze b1)++T)=.ok (.str wb) (s.set r (ze b1)++T):=by
     rw[show(0:Int)+2*(j:Int)+1=((2*j+1:Nat):Int)by omega,<-e3]
     exact zE g1 (ag (by omega))
    have a1:=zG (a:=[40]) (b:=wa) (s:=s.set r (ze b1)++T) (by unfold LIM;simp;omega)
    have a2:=zG (a:=[40]++wa) (b:=[46]) (s:=s.set r (ze b1)++T) (by unfold LIM;simp;omega)
    have a3:=zG (a:=[40]++wa++[46]) (b:=wb) (s:=s.set r (ze b1)++T) (by unfold LIM;simp;omega)
    have a4:=zG (a:=[40]++wa++[46]++wb) (b:=[41]) (s:=s.set r (ze b1)++T) (by unfold LIM;simp;omega)
    refine⟨.str ([40]++wa++[46]++wb++[41]),[some (.int (0+2*(j:Int))),some (.ref k1)],_,?_,⟨_,rfl,by simp only[au,aA,cC];omega⟩,rfl,_,rfl⟩
    unfold at8
    simp -implicitDefEqProofs only[qz,setV_0,qy,Cn_str,qw,R.bind_ok,ev_ix,qq,qp,getV_s,ia,ev_bin,add_int,ib,a1,a2,a3,a4])
   subst e5
   have J:z.length=l.length / 2:=by
    rw[b6];unfold aK8
    rw[if_pos (by decide),aI,iG]
    omega
   have e4:(aK8 0 ((l.length:Int) - 1) 2).length<=LIM:=by rw[<-b6,J];unfold LIM;omega
   have d3:=bo0 (i:=0) (j:=(l.length:Int) - 1) (s:=s.set r (ze b1)++T) ⟨by omega,by omega,by omega⟩
   have Y:bi .len [.ref (s.set r (ze b1)++T).length] (s.set r (ze b1)++T++[.lst z])=.ok (.int z.length) (s.set r (ze b1)++T++[.lst z]):=qD (by simp)
   have c0:slM (.ref k1) (some (2*(z.length:Int))) none (s.set r (ze b1)++T++[.lst z])=.ok (.ref (s.set r (ze b1)++T++[O.lst z]).length) (s.set r (ze b1)++T++[.lst z]++[.lst (ac8 l (some (2*(z.length:Int))) none)]):=by
    have:=zm (t:=[O.lst z]) g1
    unfold slM;simp only[this];rfl
   have hcl:(ac8 l (some (2*(z.length:Int))) none).length=l.length - 2*z.length:=by
    unfold ac8
    simp only[loB,hiB,sbd]
    rw[if_pos (by omega),bE,bV]
    omega
   have b3:=bs7 (s:=s.set r (ze b1)++T++[.lst z]++[.lst (ac8 l (some (2*(z.length:Int))) none)]) (a:=(s.set r (ze b1)++T).length) (b:=(s.set r (ze b1)++T++[O.lst z]).length) (l:=z) (m:=ac8 l (some (2*(z.length:Int))) none) (zm ai0) ai0 (by rw[hcl];unfold LIM;omega)
   have a6:∀ S,qa .mul (.int 2) (.int (z.length:Int)) S=.ok (.int (2*(z.length:Int))) S:=λ S=>af4 (aQ3 (by decide))
   have b4:z.length+(l.length - 2*z.length)<k/\KM (z.length+(l.length - 2*z.length)) (2*m+3):=by
    rw[J,f0]
    exact b5.next hgt
   refine aT5 (U:=[some (.ref r),some (.ref (s.set r (ze b1)++T++[O.lst z]++[O.lst (ac8 l (some (2*(z.length:Int))) none)]).length),some (.ref (s.set r (ze b1)++T).length)]) (s:=s.set r (ze b1)++T++[.lst z]++[.lst (ac8 l (some (2*(z.length:Int))) none)]++[.lst (z++ac8 l (some (2*(z.length:Int))) none)]) ?_
    ⟨z.length+(l.length - 2*z.length),b4.1,T++[.lst z]++[.lst (ac8 l (some (2*(z.length:Int))) none)]++[.lst (z++ac8 l (some (2*(z.length:Int))) none)],_,2*m+3,z++ac8 l (some (2*(z.length:Int))) none,_,by simp,ai0,by rw[au,hcl],b4.2,λ d hd=>?_,rfl⟩
   .simp -implicitDefEqProofs only[zg,exs_nil,ex_asg,ev_mk,aj3,bc7,qy,qw,R.bind_ok,ev_bin,ev_bi,evs_cons,evs_nil,qq,qp,getV_s,F,sub_int,d3,e4,if_true,e2,mk,alloc_eq,qz,setV_s,setV_0,cZ,setC_some,z0,aI9,Y,a6,c0,b3]
   .rcases cf.mp hd with h|h
    .exact c1 d h
    .exact(hB d (bs2 h)).mono (by omega)
  .have G:¬(1:Int)<(l.length:Int):=by omega
   simp -implicitDefEqProofs only[ev_cmp,ev_bi,evs_cons,evs_nil,qq,qp,getV_s,R.bind_ok,F,qy,qw,gt_int,G,decide_false,aG6,if_false,bu]
   have hk:k=1:=by omega
   exact⟨T,k1,l,_,rfl,g1,by omega,λ d hd=>(hB d hd).mono (by omega),rfl⟩
 .rintro U u ⟨T,k1,l,x2,rfl,g1,hl,hB,rfl⟩
  obtain⟨w0,d2,g0⟩:=hB l[0] (bW _)
  have i0:ixM (.ref k1) (.int 0) (s.set r (ze b1)++T)=.ok (.str w0) (s.set r (ze b1)++T):=by rw[<-d2];exact zE (j:=0) g1 (ag (by omega))
  obtain⟨c,b2,hc,e2⟩:=at3 (P:=P) n (t:=T) hr b1 4 (by decide) (by decide)
  have hcl:=aH1 [42,42,42] none (some (c:Int))
  have hcl:(ac8 [42,42,42] none (some (c:Int))).length<=3:=hcl
  have ad:=zG (a:=w0) (b:=ac8 [42,42,42] none (some (c:Int))) (s:=s.set r (ze b2)++T) (by unfold LIM;omega)
  tbr_iter [i0,e2,ev_slU',sl_str,ad]
  exact aR6 (by rw[au];omega)
theorem aJ0 {P:Pr}[Has P ac7][Has P ad8](n:Nat){s:Sto}{r:Nat}(hs:∃ b,s[r]?=some (ze b))(w:List Nat)(hw:w.length<=500):TxR 510 s r ((aa0 P (n+2)).call "_law_turned" [.ref r,.str w] s):=by
 have e0:(aa0 P (n+2)).call "_law_turned" [.ref r,.str w] s=_:=za ad8 (n:=n+1) rfl
 rw[e0,show(bJ some [D.ref r,.str w]++aj ad8.vs none)=[some (.ref r),some (.str w),none,none,none,none]from rfl]
 have hr:=ak3 hs
 obtain⟨k0,b0,a3,Y⟩:=qv (P:=P) n hs 3 (by decide) (by decide)
 have eA:(1:Int)+(k0:Int)=((k0+1:Nat):Int):=by omega
 unfold ad8
 tbr_iter [Y,eA]
 rw[am5 (by unfold Ww62;omega) (by unfold Ww62;omega)]
 simp only[R.bind_ok]
 rw[R.bind_assoc]
 refine ar8 (Ww:=λ x=>TxR 510 s r x) (λ j U u=>∃(b:Nat×Nat) (T:Sto) (v:List Nat) (x2 J x4 Z:Option D),u=s.set r (ze b)++T/\v.length<=500+j/\U=[some (.ref r),some (.str v),x2,J,x4,Z]) ⟨b0,[],w,_,_,_,_,by rw[aF],hw,rfl⟩ (λ _ _ _ _ _=>rfl) ?_ ?_
 .rintro j d U u hj ⟨b,T,v,x2,J,x4,Z,rfl,hv,rfl⟩
  obtain⟨a4,rfl⟩:=at1 hj
  have a5:j<3:=by omega
  have a0:∀ S,bi .len [.str v] S=.ok (.int (v.length:Int)) S:=λ _=>rfl
  obtain⟨k1,b1,h1,t1⟩:=at3 (P:=P) n (t:=T) hr b ((v.length:Int)+1) (by omega) (ka (by omega:(v.length:Int)+1<=1000) (by decide))
  obtain⟨k2,b2,h2,t2⟩:=at3 (P:=P) n (t:=T) hr b1 3 (by decide) (by decide)
  obtain⟨k3,b3,h3,t3⟩:=at3 (P:=P) n (t:=T) hr b2 16 (by decide) (by decide)
  obtain⟨c,hc⟩:∃ c:Nat,∀ S,ixM (.str [97,98,99,40,41,124,46,42,45,32,100,44,65,49,43,59]) (.int (k3:Int)) S=.ok (.str [c]) S:=by
   match k3,h3 with
   | 0,_|1,_|2,_|3,_|4,_|5,_|6,_|7,_|8,_|9,_|10,_|11,_|12,_|13,_|14,_|15,_=>exact⟨_,λ _=>rfl⟩
   | k+16,h=>omega
  obtain⟨y,hy1,hy⟩:∃ y:List Nat,y.length<=1/\ixM (.ref (s.set r (ze b3)++T).length) (.int (k2:Int)) (s.set r (ze b3)++T++[.lst [.str [c],.str [c],.str []]])=.ok (.str y) (s.set r (ze b3)++T++[.lst [.str [c],.str [c],.str []]]):=by
   match k2,h2 with
   | 0,_=>exact⟨[c],by simp,zE (j:=0) ai0 rfl⟩
   | 1,_=>exact⟨[c],by simp,zE (j:=1) ai0 rfl⟩
   | 2,_=>exact⟨[],by simp,zE (j:=2) ai0 rfl⟩
   | k+3,h=>omega
  have ib:∀ S:Sto,bi .int [.bl (decide ((0:Int)<(k2:Int)))] S=.ok (.int (if(decide ((0:Int)<(k2:Int)))=true then 1 else 0)) S:=λ S=>rfl
  have F:(ac8 v none (some (k1:Int))++y++ac8 v (some ((k1:Int)+(if(decide ((0:Int)<(k2:Int)))=true then 1 else 0))) none).length<=v.length+1:=by
   have l1:(ac8 v none (some (k1:Int))).length<=k1:=by
    unfold ac8
    rw[bE]
    have:hiB v.length (some (k1:Int))<=k1:=by
     show(if 0<=(k1:Int)then min (k1:Int).toNat v.length else((k1:Int)+(v.length:Int)).toNat)<=k1
     rw[if_pos (by omega)];omega
    show min (hiB v.length (some (k1:Int)) - 0) _<=k1
    omega
   have l2:(ac8 v (some ((k1:Int)+(if(decide ((0:Int)<(k2:Int)))=true then 1 else 0))) none).length<=v.length - k1:=by
    unfold ac8
    rw[bE,bV]
    have hz:(0:Int)<=(if(decide ((0:Int)<(k2:Int)))=true then 1 else 0):=by split<;>omega
    generalize (if(decide ((0:Int)<(k2:Int)))=true then(1:Int)else 0)=z at hz
    have e:loB v.length (some ((k1:Int)+z))=min ((k1:Int)+z).toNat v.length:=by
     show(if 0<=(k1:Int)+z then min ((k1:Int)+z).toNat v.length else((k1:Int)+z+(v.length:Int)).toNat)=_
     rw[if_pos (by omega)]
    rw[e]
    omega
   rw[au,au]
   omega
  have a1:=zG (a:=ac8 v none (some (k1:Int))) (b:=y) (s:=s.set r (ze b3)++T++[.lst [.str [c],.str [c],.str []]]) (by have:=aH1 v none (some (k1:Int));unfold LIM;omega)
  have a2:=zG (a:=ac8 v none (some (k1:Int))++y) (b:=ac8 v (some ((k1:Int)+(if(decide ((0:Int)<(k2:Int)))=true then 1 else 0))) none) (s:=s.set r (ze b3)++T++[.lst [.str [c],.str [c],.str []]]) (by rw[au]at F;unfold LIM;omega)
  refine aT5 (U:=[some (.ref r),some (.str (ac8 v none (some (k1:Int))++y++ac8 v (some ((k1:Int)+(if(decide ((0:Int)<(k2:Int)))=true then 1 else 0))) none)),some (.int (0+(j:Int))),some (.int (k1:Int)),some (.int (k2:Int)),some (.str [c])]) (s:=s.set r (ze b3)++T++[.lst [.str [c],.str [c],.str []]]) ?_ ⟨b3,T++[.lst [.str [c],.str [c],.str []]],_,_,_,_,_,by rw[ar],by omega,rfl⟩
  unfold turn
  tbr_iter [a0,t1,t2,t3,hc,ev_slU',sl_str,hy,a1,ib,aI9,a2]
 .rintro U u ⟨b,T,v,x2,J,x4,Z,rfl,hv,rfl⟩
  have G:(al0 0 ((k0+1:Nat):Int)).length=k0+1:=by simp[al0]
  rw[G]at hv
  tbr_iter []
  exact aR6 (by omega)
noncomputable abbrev bR8:I:=(.seq (.bin .add (.bin .add (.lst (.cons (.var 3) .nil)) (.var 5)) (.lst (.cons (.ix (.var 4) (.call "_law_take" (.ex (.var 2) (.ex (.cst (.int 18)) .nil)))) (.cons (.ix (.var 4) (.bin .add (.cst (.int 15)) (.bin .mod (.var 1) (.cst (.int 3))))) .nil)))))
noncomputable abbrev bw8:Ss:=(.cons (.ite (.or (.cmp .ne (.call "_law_outcome" (.ex (.var 6) .nil)) (.call "_law_due" (.ex (.var 6) .nil))) (.cmp .ne (.call "_law_outcome" (.ex (.var 6) .nil)) (.call "_law_due" (.ex (.var 6) .nil)))) (.cons (.ret (.cst (.bl false))) .nil) .nil) .nil)
noncomputable abbrev bB2:S:=(.asg (.one 2) (.call "_law_bag" (.ex (.var 0) (.ex (.var 1) .nil))))
noncomputable abbrev bw1:S:=(.asg (.one 3) (.call "_law_written" (.ex (.call "_law_set" (.ex (.var 2) (.ex (.bin .add (.cst (.int 1)) (.call "_law_take" (.ex (.var 2) (.ex (.cst (.int 12)) .nil)))) (.ex (.bin .add (.cst (.int 1)) (.call "_law_take" (.ex (.var 2) (.ex (.cst (.int 40)) .nil)))) (.ex (.lst (.cons (.cst (.int 40)) .nil)) .nil))))) .nil)))
noncomputable abbrev bt0:S:=(.asg (.one 4) (.call "_law_texts" (.ex (.var 2) .nil)))
noncomputable abbrev bu8:S:=(.asg (.one 5) (.lst (.cons (.call "_law_turned" (.ex (.var 2) (.ex (.var 3) .nil))) (.cons (.call "_law_turned" (.ex (.var 2) (.ex (.cst (.str [40,97,124,98,42,41])) .nil))) .nil))))
noncomputable def b62:Ss:=(.cons bB2 (.cons bw1 (.cons bt0 (.cons bu8 (.cons (.for_ (.one 6) bR8 bw8) .nil)))))
theorem bD4:ac3.body=(.cons (.for_ (.one 1) (.rng1 (.bi .max2 (.cons (.cst (.int 3)) (.cons (.bi .min2 (.cons (.bi .len (.cons (.var 0) .nil)) (.cons (.cst (.int 9)) .nil))) .nil)))) b62) (.cons (.ret (.cst (.bl true))) .nil)):=rfl
noncomputable def aj8:Xf:=⟨1,1,.kind⟩
noncomputable def ac0:Tf:=⟨1,2,(.cons (.asg (.one 1) (.call "read_set" (.ex (.var 0) .nil))) .nil),.call "read_set" (.ex (.var 0) .nil), "NoText",2,.sup "TollError" (.kin "_law_kind" true),(.cons (.ret (.var 1)) .nil),.nil⟩
noncomputable def qO:List Nat:=[116,101,120,116]
theorem bV0 {P:Pr}{f:String}[h:HasX P f aj8]{n:Nat}:(aa0 P n).kd f=true:=by
 have e:(aa0 P n).kd=by1 P:=by cases n<;>rfl
 rw[e]
 unfold by1
 rw[h.at_]
 rfl
theorem bu2 {s:Sto}{a b:Nat}{l:List D}(ha:s[a]?=some (.lst l))(hb:s[b]?=some (.lst l))(h:eqL (eqv s 29) l l=some true):zL .ne (.ref a) (.ref b) s=.ok (.bl false) s:=by
 have e:eqv s DEEP (.ref a) (.ref b)=some true:=by
  show(match s[a]?,s[b]? with
   | some (.lst l),some (.lst m)=>if l.length=m.length then eqL (eqv s 29) l m else some false
   | _,_=>none)=_
  rw[ha,hb]
  show(if l.length=l.length then eqL (eqv s 29) l l else some false)=_
  rw[if_pos rfl,h]
 show(match eqv s DEEP (.ref a) (.ref b)with|some r=>R.ok (D.bl (!r)) s|none=>.bad)=_
 rw[e];rfl
theorem aK2 {s T:Sto}{r:Nat}{o x:O}(ho:o.bnd s.length=true)(hx:x.bnd s.length=true):zr s (.ref (s.set r o++T).length) (s.set r o++T++[x])=.ok (.ref s.length) (s.set r o++[x]):=by
 unfold zr
 rw[ar,ax7 s (T++[x]) r o ho,if_pos rfl]
 have z:¬(s.set r o++T).length<s.length:=by simp
 have F:(s.set r o++(T++[x]))[(s.set r o++T).length]?=some x:=by rw[<-ar];exact zK
 simp only[z,if_false,F,hx,if_true]
 rw[cS (by simp),cW (by simp)]
def Txs (l:List D):Prop:=∀ d∈l,Tx 510 d
theorem Txs.bnd {l:List D}(h:Txs l)(n:Nat):(O.lst l).bnd n=true:=by
 unfold O.bnd
 exact aj4 (λ d hd m=>by obtain⟨w,rfl,_⟩:=h d hd;rfl) n
theorem au7 {w:List Nat}(h:w.length<=510):Tx 510 (.str w):=⟨w,rfl,h⟩
noncomputable def t13:List D:=[.str [],.str [97,98],.str [97,124,98],.str [40,97,41],.str [40,41],.str [42],.str [40,97,124,98,41,41],.str [40,40,97,124,98,41],.str [40,97,124,98,41,99],.str [45,45],.str [40,97,46,98,124,99,41],.str [97,10],.str [40,97,124,98,41,10]]
theorem bC8:Txs t13:=λ d hd=>by
 unfold t13 at hd
 simp only[ax,bc,or_false]at hd
 rcases hd with rfl|rfl|rfl|rfl|rfl|rfl|rfl|rfl|rfl|rfl|rfl|rfl|rfl<;>exact au7 (by decide)
theorem bo7 {P:Pr}[Has P ac7][Has P ad6][Has P ae9](n:Nat){s:Sto}{r:Nat}(hs:∃ b,s[r]?=some (ze b)) :
  ∃(b:Nat×Nat) (l:List D),(aa0 P (n+3)).call "_law_texts" [.ref r] s=.ok (.ref s.length) (s.set r (ze b)++[.lst l])/\l.length=18/\Txs l:=by
 have e0:(aa0 P (n+3)).call "_law_texts" [.ref r] s=_:=za ae9 (n:=n+2) rfl
 rw[e0,show(bJ some [D.ref r]++aj ae9.vs none)=[some (.ref r),none,none,none,none,none]from rfl]
 have hr:=ak3 hs
 obtain⟨k0,b0,b4,a0⟩:=qv (P:=P) (n+1) hs 5 (by decide) (by decide)
 have eA:(9:Int)+(k0:Int)=((k0+9:Nat):Int):=by omega
 have key:=at0 (ok:=λ S=>chk (s.set r (ze b0)++[.lst t13]) S []) (g:=turn (aa0 P (n+2)) (.one 4) (.cons (.asg (.one 3) (.bin .add (.var 3) (.cst (.str [40,97,124])))) .nil)) (λ j U u=>u=s.set r (ze b0)++[.lst t13]/\∃(v:List Nat) (x4:Option D),v.length<=3*j/\U=[some (.ref r),some (.int ((k0+9:Nat):Int)),some (.ref (s.set r (ze b0)).length),some (.str v),x4,none]) (al0 0 ((k0+9:Nat):Int)) 0 [some (.ref r),some (.int ((k0+9:Nat):Int)),some (.ref (s.set r (ze b0)).length),some (.str []),none,none] (s.set r (ze b0)++[.lst t13]) ⟨rfl,[],_,cR _,rfl⟩ (λ _ _ _ _ _=>rfl) (by
  rintro j d U u hj ⟨rfl,v,x4,hv,rfl⟩
  obtain⟨b5,rfl⟩:=at1 hj
  rw[dP]at hv ⊢
  have Y:=zG (a:=v) (b:=[40,97,124]) (s:=s.set r (ze b0)++[.lst t13]) (by unfold LIM;simp;omega)
  refine⟨[some (.ref r),some (.int ((k0+9:Nat):Int)),some (.ref (s.set r (ze b0)).length),some (.str (v++[40,97,124])),some (.int (0+(j:Int))),none],_,.inl ?_,rfl,_,_,?_,rfl⟩
  .unfold turn
   tbr_iter [Y]
  .rw[au];show v.length+3<=_;omega)
 obtain⟨U1,s1,e1,rfl,v,x4,hv,rfl⟩:=key
 have Z:(al0 0 ((k0+9:Nat):Int)).length=k0+9:=by simp[al0];omega
 rw[Z,dP]at hv
 have b2:v.length<=39:=by omega
 have a6:∀ S,bf0 (.int ((k0+9:Nat):Int)) S=.ok ⟨al0 0 ((k0+9:Nat):Int),[]⟩ S:=λ S=>am5 (by unfold Ww62;omega) (by unfold Ww62;omega)
 have c1:=aH1 [42,42,42,42,42,42,42,42,42,42,42,42,42] none (some ((k0+9:Nat):Int))
 have c2:=aH1 [41,41,41,41,41,41,41,41,41,41,41,41,41,41] none (some ((k0+9:Nat):Int))
 have F:=λ S=>sl_str [42,42,42,42,42,42,42,42,42,42,42,42,42] none (some ((k0+9:Nat):Int)) S
 have G:=λ S=>sl_str [41,41,41,41,41,41,41,41,41,41,41,41,41,41] none (some ((k0+9:Nat):Int)) S
 generalize ac8 [42,42,42,42,42,42,42,42,42,42,42,42,42] none (some ((k0+9:Nat):Int))=st at c1 F
 generalize ac8 [41,41,41,41,41,41,41,41,41,41,41,41,41,41] none (some ((k0+9:Nat):Int))=cl at c2 G
 have c1:st.length<=13:=c1
 have c2:cl.length<=14:=c2
 obtain⟨z,b1,b3,ew⟩:=bI6 (P:=P) n (s:=s.set r (ze b0)++[.lst t13]) (r:=r) (ai3 (qN hr))
 rw[List.set_append_left _ _ (by simpa using hr),cj]at ew
 have a1:=λ S=>zG (a:=[97]) (b:=st) (s:=S) (by unfold LIM;simp;omega)
 have a2:=λ S=>zG (a:=[40,97]) (b:=st) (s:=S) (by unfold LIM;simp;omega)
 have a3:=λ S=>zG (a:=[40,97]++st) (b:=[124,98,41]) (s:=S) (by unfold LIM;simp;omega)
 have a4:=λ S=>zG (a:=v) (b:=[98]) (s:=S) (by unfold LIM;simp;omega)
 have a5:=λ S=>zG (a:=v++[98]) (b:=cl) (s:=S) (by unfold LIM;simp;omega)
 have t5:Txs [.str ([97]++st),.str ([40,97]++st++[124,98,41]),.str (v++[98]++cl),.str z,.str v]:=λ d hd=>by
  simp only[ax,bc,or_false]at hd
  rcases hd with rfl|rfl|rfl|rfl|rfl
  .exact au7 (by simp only[au,aA,cC];omega)
  .exact au7 (by simp only[au,aA,cC];omega)
  .exact au7 (by simp only[au,aA,cC];omega)
  .exact au7 (by omega)
  .exact au7 (by omega)
 have Y:=bM2 (s:=s.set r (ze b1)++[.lst t13]++[.lst [.str ([97]++st),.str ([40,97]++st++[124,98,41]),.str (v++[98]++cl),.str z,.str v]]) (a:=(s.set r (ze b0)).length) (b:=(s.set r (ze b1)++[O.lst t13]).length) (l:=t13) (m:=[.str ([97]++st),.str ([40,97]++st++[124,98,41]),.str (v++[98]++cl),.str z,.str v]) (by rw[ar,br,<-br (as:=s) (i:=r) (a:=ze b1)];exact bE8) zK (by show 18<=LIM;decide)
 have J:Txs (t13++[.str ([97]++st),.str ([40,97]++st++[124,98,41]),.str (v++[98]++cl),.str z,.str v]):=λ d hd=>(cf.mp hd).elim (bC8 d) (t5 d)
 refine⟨b1,t13++[.str ([97]++st),.str ([40,97]++st++[124,98,41]),.str (v++[98]++cl),.str z,.str v],?_,rfl,J⟩
 unfold t13 at e1 ew Y
 unfold ae9
 tbr_iter [a0,eA,a6,e1,ev_slU',F,a1,a2,a3,a4,a5,G,ew,Y]
 rw[ar (s.set r (ze b1))]
 exact aK2 rfl (J.bnd _)
section
variable {P:Pr} [Has P aa3] [Has P aa4] [Has P aa8] [Has P aa2] [HasC P "LETTERS" (.tup al8)] [HasD P "JOINTS" [([124],ab2),([46],ab1)]] [HasX P "lay_sign" ab4] [HasE P "NoText" []]
 [Has P aa5] [Has P ab0] [Has P aa9] [Has P ab3] [Has P aa6] [Has P ac9] [Has P ac1] [HasC P "MOST_DEEP" (.int 12)] [HasC P "MOST_PIECES" (.int 40)] [HasX P "read_set" ab7]
 [Has P ac2] [Has P ad5] [Has P ad7] [HasT P "_law_outcome" ac0] [HasX P "_law_kind" aj8] [h6:HasE P "NoText" ["NoMaking", "NoName", "NoPair", "NoPaper", "NoRow", "NoText", "NotSteady", "TollError", "TooLong", "TooMuch"]]
noncomputable def bY0 (s:Sto):Option Tr->R D->Prop
 | some t,x=>x=.ok t.d s/\t.dep<=12
 | none,x=>x=.ok (.ref s.length) (s++[.lst [.str qO]])
theorem aX9 {q:Option Qs}{t:Tr}(h:aG5 q=some t):t.dep<=12:=by
 unfold aG5 at h
 split at h
 .split at h
  .cases h;rename_i hh;exact hh.2
  .cases h
 .cases h
theorem bJ3 (n:Nat)(w:List Nat)(hw:w.length<=1000)(s:Sto):bY0 s (aG5 (ap2 (.nil,none) w)) ((aa0 P (n+17)).call "_law_outcome" [.str w] s):=by
 have z:(aa0 P (n+17)).call "_law_outcome" [.str w] s=_:=bm9 ac0 (n:=n+16) rfl
 rw[bg1 rfl]at z
 have F:=bH3 (P:=P) n w hw s
 have G:ao1 (aa0 P (n+16)) (.ex (.var 0) .nil) [some (.str w),none,none] s=.ok [.str w] s:=by tbr_iter []
 have xe:xB (aa0 P (n+16)) ac0.xb ([D.str w].map some++aj ac0.vs none) s=(aa0 P (n+16)).xcall "read_set" [.str w] s:=aT2 G
 unfold be7 at z
 rw[xe]at z
 cases hf:aG5 (ap2 (.nil,none) w)with
 | none =>
  rw[hf]at F
  obtain⟨T,hx⟩:=F
  rw[hx]at z
  have hk:ac0.h.ok (aa0 P (n+16)).xt=true:=by
   rw[bc4.2]
   have a:=λ x hx=>h6.ts x hx
   show(P.xt "TollError"&&ab5.all P.xt)=true
   rw[a "TollError" (by decide),d7,aB]
   intro x hx
   exact a x (by revert x;decide)
  have hc:ac0.tk "NoText"=true/\(aa0 P (n+16)).xc "NoText"=true/\ac0.h.ok (aa0 P (n+16)).xt=true/\ac0.h.kok (aa0 P (n+16)).kd=true:=⟨by decide,by rw[bc4.1];exact h6.at_,hk,bV0 (P:=P) (f := "_law_kind")⟩
  have z:(aa0 P (n+17)).call "_law_outcome" [.str w] s=if ac0.tk "NoText"=true/\(aa0 P (n+16)).xc "NoText"=true/\ac0.h.ok (aa0 P (n+16)).xt=true/\ac0.h.kok (aa0 P (n+16)).kd=true then ac0.h.out "NoText" s (s++T)else .bad:=z
  rw[if_pos hc]at z
  show _=_
  rw[z]
  show zr s (.ref (s++T).length) (s++T++[.lst [.str (ae0 "NoText")]])=_
  rw[show ae0 "NoText"=qO by decide]
  exact at7 rfl
 | some t =>
  rw[hf]at F
  obtain⟨hc,hx⟩:=F
  rw[hx]at z
  refine⟨?_,aX9 hf⟩
  have hb:exs (aa0 P (n+16)) (.cons (.asg (.one 1) (.call "read_set" (.ex (.var 0) .nil))) .nil) [some (.str w),none,none] s=.ok (.next [some (.str w),some t.d,none]) s:=by tbr_iter [hc]
  have z:(aa0 P (n+17)).call "_law_outcome" [.str w] s=(exs (aa0 P (n+16)) (.cons (.asg (.one 1) (.call "read_set" (.ex (.var 0) .nil))) .nil) [some (.str w),none,none] s).bind λ c s1=>match c with
   | .ret v=>zr s v s1
   | .next U=>(exs (aa0 P (n+16)) (.cons (.ret (.var 1)) .nil) U s1).bind λ c s2=>match c with
    | .ret v=>zr s v s2
    | .next _=>zr s .non s2
    | _=>.bad
   | _=>.bad:=z
  rw[z,hb]
  show zr s t.d s=_
  have:=zz (s:=s) (t:=[]) t.bnd t.noref
  rwa [aF]at this
theorem bA2 (n:Nat)(w:List Nat)(hw:w.length<=1000)(s:Sto):bY0 s (aG5 (ap2 (.nil,none) w)) ((aa0 P (n+3)).call "_law_due" [.str w] s):=by
 have F:(aa0 P (n+3)).call "_law_due" [.str w] s=_:=za ad7 (n:=n+2) rfl
 have z:=aA6 (P:=P) n w hw s
 rw[bJ0]at z
 rw[show(bJ some [D.str w]++aj ad7.vs none)=[some (.str w),none]from rfl]at F
 cases hf:aG5 (ap2 (.nil,none) w)with
 | none =>
  rw[hf]at z
  have z:(aa0 P (n+2)).call "_law_read" [.str w] s=.ok .non s:=z
  show _=_
  rw[F]
  have G:decide (D.non=.non)=true:=rfl
  tbr_iter [ad7,z,G]
  have:=at7 (u:=s) (T:=[]) (o:=.lst [.str qO]) rfl
  rwa [aF]at this
 | some t =>
  rw[hf]at z
  have z:(aa0 P (n+2)).call "_law_read" [.str w] s=.ok t.d s:=z
  refine⟨?_,aX9 hf⟩
  rw[F]
  have G:decide (t.d=.non)=false:=by obtain⟨l,e⟩:=t.tupE;rw[e];simp
  tbr_iter [ad7,z,G]
  have:=zz (s:=s) (t:=[]) t.bnd t.noref
  rwa [aF]at this
theorem bN8 (n:Nat)(w:List Nat)(hw:w.length<=1000)(s:Sto)(x0 x1 x2 Y Z J:Option D):∃ T,ev (aa0 P (n+17)) (.cmp .ne (.call "_law_outcome" (.ex (.var 6) .nil)) (.call "_law_due" (.ex (.var 6) .nil))) [x0,x1,x2,Y,Z,J,some (.str w)] s=.ok (.bl false) (s++T):=by
 have F:=bJ3 (P:=P) n w hw s
 have z:=λ S=>bA2 (P:=P) (n+14) w hw S
 cases hf:aG5 (ap2 (.nil,none) w)with
 | none =>
  rw[hf]at F
  have F:(aa0 P (n+17)).call "_law_outcome" [.str w] s=.ok (.ref s.length) (s++[.lst [.str qO]]):=F
  have z:=z (s++[.lst [.str qO]])
  rw[hf]at z
  have z:(aa0 P (n+17)).call "_law_due" [.str w] (s++[.lst [.str qO]])=.ok (.ref (s++[O.lst [.str qO]]).length) (s++[.lst [.str qO]]++[.lst [.str qO]]):=z
  have G:=bu2 (s:=s++[.lst [.str qO]]++[.lst [.str qO]]) (a:=s.length) (b:=(s++[O.lst [.str qO]]).length) (l:=[.str qO]) (zm zK) zK rfl
  refine⟨[.lst [.str qO]]++[.lst [.str qO]],?_⟩
  rw[<-ar]
  tbr_iter [F,z,G]
 | some t =>
  rw[hf]at F
  obtain⟨F,hd⟩:=F
  have z:=z s
  rw[hf]at z
  have G:=bR1 s hd
  refine⟨[],?_⟩
  rw[aF]
  tbr_iter [F,z.1,G]
theorem bI9 (n:Nat)(w:List Nat)(hw:w.length<=1000)(s:Sto)(x0 x1 x2 F G z x6:Option D):∃ T,turn (aa0 P (n+17)) (.one 6) bw8 (.str w) [x0,x1,x2,F,G,z,x6] s=.ok (.next [x0,x1,x2,F,G,z,some (.str w)]) (s++T):=by
 obtain⟨J,Z⟩:=bN8 (P:=P) n w hw s x0 x1 x2 F G z
 obtain⟨T2,Y⟩:=bN8 (P:=P) n w hw (s++J) x0 x1 x2 F G z
 refine⟨J++T2,?_⟩
 rw[<-ar]
 show exs (aa0 P (n+17)) bw8 [x0,x1,x2,F,G,z,some (.str w)] s=_
 unfold bw8
 rw[au0,zN,ev_or,Z,zq,if_neg (by decide),Y,zq,zq,if_neg (by decide)]
 rfl
variable [Has P ac3] [Has P au6] [Has P ac7] [Has P am2] [Has P aa7] [Has P ad8] [Has P ae9] [Has P ad6]
theorem by4 {Uu:Sto}{r i:Nat}{o x:O}(h:i≠r)(g:Uu[i]?=some x):(Uu.set r o)[i]?=some x:=by rw[aU (dq h)];exact g
theorem bK2 (n:Nat)(l:List D)(hl:Txs l)(Ww:Sto)(q:Nat)(hq:Ww[q]?=some (.lst l))(x0 x1 x2 G J F Y:Option D):∃(T:Sto) (z:Option D),av3 (λ S=>chk Ww S [q]) (turn (aa0 P (n+17)) (.one 6) bw8) l [x0,x1,x2,G,J,F,Y] Ww=.ok (.next [x0,x1,x2,G,J,F,z]) (Ww++T):=by
 have Z:=(af.mp hq).1
 obtain⟨U,u,e,T,z,rfl,rfl⟩:=at0 (ok:=λ S=>chk Ww S [q]) (g:=turn (aa0 P (n+17)) (.one 6) bw8) (λ _ U u=>∃(T:Sto) (z:Option D),u=Ww++T/\U=[x0,x1,x2,G,J,F,z]) l 0 [x0,x1,x2,G,J,F,Y] Ww ⟨[],Y,by rw[aF],rfl⟩ (λ _ _ _ _ h=>by
  obtain⟨T,_,rfl,_⟩:=h
  simp[chk,aS Z]) (by
  rintro j d U u hj ⟨T,z,rfl,rfl⟩
  obtain⟨w,rfl,hw⟩:=hl d (bS hj)
  obtain⟨T2,e⟩:=bI9 (P:=P) n w (by omega) (Ww++T) x0 x1 x2 G J F z
  exact⟨_,_,.inl e,T++T2,_,by rw[ar],rfl⟩)
 exact⟨T,z,e⟩
theorem bU6 (n:Nat):bR7 P (n+18):=by
 intro ns hl
 have e0:(aa0 P (n+18)).call "law" [.ref 0] [.ro (ns.map D.int)]=_:=za ac3 (n:=n+17) rfl
 rw[e0,bD4,show(bJ some [D.ref 0]++aj ac3.vs none)=[some (.ref 0),none,none,none,none,none,none]from rfl]
 have f4:([.ro (ns.map D.int)]:Sto)[0]?=some (.ro (ns.map D.int)):=rfl
 have c3:bi .len [.ref 0] [.ro (ns.map D.int)]=.ok (.int ns.length) [.ro (ns.map D.int)]:=by rw[bi7 f4,aI]
 obtain⟨k,hk9,hk⟩:∃ k:Nat,k<=9/\(if(if 9<(ns.length:Int)then 9 else(ns.length:Int)) > 3 then(if 9<(ns.length:Int)then 9 else(ns.length:Int))else 3)=(k:Int):=by
  by_cases h:(9:Int)<(ns.length:Int)
  .exact⟨9,by omega,by rw[if_pos h];rfl⟩
  .rw[if_neg h]
   by_cases h2:(ns.length:Int) > 3
   .exact⟨ns.length,by omega,by rw[if_pos h2]⟩
   .exact⟨3,by omega,by rw[if_neg h2];rfl⟩
 tbr_iter [c3,bb0,aH8,hk]
 rw[am5 (by unfold Ww62;omega) (by unfold Ww62;omega)]
 simp only[R.bind_ok]
 rw[R.bind_assoc]
 refine ar8 (Ww:=Yes) (λ j U t=>t[0]?=some (.ro (ns.map D.int))/\∃(x1 x2 x3 x4 Z G:Option D),U=[some (.ref 0),x1,x2,x3,x4,Z,G]) ⟨rfl,_,_,_,_,_,_,rfl⟩ (λ _ _ _ _ _=>rfl) ?_ ?_
 .rintro j d U t hj ⟨ht,x1,x2,x3,x4,Z,G,rfl⟩
  obtain⟨i3,rfl⟩:=at1 hj
  rw[Int.zero_add]
  have:Has P ai2:=inferInstanceAs (Has P am2)
  have h9:0<t.length:=(af.mp ht).1
  have a0:=bL4 (P:=P) (n+16) ns j t 0 ht hl
  generalize bx8 ns j=b0 at a0
  have f0:∃ b,(t++[ze b0])[t.length]?=some (ze b):=⟨b0,by simp⟩
  have h4:(t++[ze b0]).length=t.length+1:=by simp
  have f3:(t++[ze b0])[0]?=some (.ro (ns.map D.int)):=zm ht
  generalize h7:t++[ze b0]=S at *
  generalize hr:t.length=r at *
  have e5:r<S.length:=by omega
  obtain⟨k1,b1,h8,h1⟩:=qv (P:=P) (n+16) f0 12 (by decide) (as1 (by decide))
  obtain⟨k2,b2,h5,d2⟩:=qv (P:=P) (n+16) (qN (b:=b1) e5) 40 (by decide) (as1 (by decide))
  rw[cj]at d2
  have J:(S.set r (ze b2)).length=S.length:=by simp
  obtain⟨tr,b3,y3,i4,es⟩:=bt7 (P:=P) (n+17 - k1 - 2) (r:=r) (q:=S.length) (by omega) k1 (S.set r (ze b2)++[.lst [.int 40]]) (k2+1) (ai3 (qN e5)) ⟨40,by rw[<-J];simp⟩ (by omega) (by omega)
  rw[show n+17 - k1 - 2+k1+2=n+17 by omega]at es
  have eA:(1:Int)+(k1:Int)=(k1:Int)+1:=by omega
  have eB:(1:Int)+(k2:Int)=((k2+1:Nat):Int):=by omega
  have e4:(SS (S.set r (ze b2)++[O.lst [D.int 40]]) r S.length b3 y3)[0]?=some (.ro (ns.map D.int)):=by
   unfold SS
   rw[aU (by omega),aU (by omega)]
   exact zm (by rw[aU (by omega)];exact f3)
  have a4:∃ b,(SS (S.set r (ze b2)++[O.lst [D.int 40]]) r S.length b3 y3)[r]?=some (ze b):=⟨b3,bT6 (by rw[au,J];omega) (by omega)⟩
  generalize SS (S.set r (ze b2)++[O.lst [D.int 40]]) r S.length b3 y3=Uu at es e4 a4
  have g5:D.ref (S.set r (ze b2)).length=.ref S.length:=by rw[J]
  have h6:=tr.wr_len
  have ew:=qG (P:=P) tr (by omega) (n+17 - tr.dep) Uu
  rw[show n+17 - tr.dep+tr.dep=n+17 by omega]at ew
  obtain⟨b4,L,d4,h3,e3⟩:=bo7 (P:=P) (n+14) (s:=Uu) a4
  have g0:r<Uu.length:=ak3 a4
  have a6:(Uu.set r (ze b4)++[.lst L])[0]?=some (.ro (ns.map D.int)):=zm (by4 (by omega) e4)
  have a3:∃ b,(Uu.set r (ze b4)++[.lst L])[r]?=some (ze b):=ai3 (qN g0)
  have c2:(Uu.set r (ze b4)++[.lst L])[Uu.length]?=some (.lst L):=by rw[<-br (as:=Uu) (i:=r) (a:=ze b4)];exact zK
  generalize hV:Uu.set r (ze b4)++[O.lst L]=V at d4 a6 a3 c2
  have c1:r<V.length:=ak3 a3
  obtain⟨v1,b5,f5,f2⟩:=aJ0 (P:=P) (n+15) (s:=V) a3 tr.wr (by omega)
  obtain⟨z,b6,g4,e2⟩:=aJ0 (P:=P) (n+15) (s:=V.set r (ze b5)) (qN c1) [40,97,124,98,42,41] (by decide)
  rw[cj]at e2
  have c4:(V.set r (ze b6)++[.lst [.str v1,.str z]]++[.lst [.str tr.wr]])[0]?=some (.ro (ns.map D.int)):=zm (zm (by4 (by omega) a6))
  have a2:∃ b,(V.set r (ze b6)++[.lst [.str v1,.str z]]++[.lst [.str tr.wr]])[r]?=some (ze b):=ai3 (ai3 (qN c1))
  have c0:(V.set r (ze b6)++[.lst [.str v1,.str z]]++[.lst [.str tr.wr]])[Uu.length]?=some (.lst L):=zm (zm (by4 (by omega) c2))
  have a5:=bM2 (s:=V.set r (ze b6)++[.lst [.str v1,.str z]]++[.lst [.str tr.wr]]) (a:=(V.set r (ze b6)++[O.lst [.str v1,.str z]]).length) (b:=(V.set r (ze b6)).length) (l:=[.str tr.wr]) (m:=[.str v1,.str z]) zK (zm zK) (by show 3<=LIM;decide)
  generalize hX:V.set r (ze b6)++[O.lst [.str v1,.str z]]++[O.lst [.str tr.wr]]=X at a5 c4 a2 c0
  have i5:r<X.length:=ak3 a2
  obtain⟨F,b7,i0,d1⟩:=qv (P:=P) (n+16) (s:=X++[.lst ([.str tr.wr]++[.str v1,.str z])]) (r:=r) (ai3 a2) 18 (by decide) (as1 (by decide))
  have e1:((X++[O.lst ([.str tr.wr]++[.str v1,.str z])]).set r (ze b7))[0]?=some (.ro (ns.map D.int)):=by4 (by omega) (zm c4)
  have a1:((X++[O.lst ([.str tr.wr]++[.str v1,.str z])]).set r (ze b7))[Uu.length]?=some (.lst L):=by4 (by omega) (zm c0)
  have d3:((X++[O.lst ([.str tr.wr]++[.str v1,.str z])]).set r (ze b7))[X.length]?=some (.lst ([.str tr.wr]++[.str v1,.str z])):=by4 (by omega) zK
  generalize hY:(X++[O.lst ([.str tr.wr]++[.str v1,.str z])]).set r (ze b7)=Y at d1 e1 a1 d3
  have i1:ixM (.ref Uu.length) (.int (F:Int)) Y=.ok (L[F]'(by omega)) Y:=zE a1 (ag (by omega))
  have g2:∀ s:Sto,qa .mod (.int (j:Int)) (.int 3) s=.ok (.int ((j:Int) % 3)) s:=λ s=>rfl
  have g1:(15:Int)+(j:Int) % 3=((15+j % 3:Nat):Int):=by omega
  have i2:ixM (.ref Uu.length) (.int ((15+j % 3:Nat):Int)) Y=.ok (L[15+j % 3]'(by omega)) Y:=zE a1 (ag (by omega))
  have h0:=bM2 (s:=Y++[.lst [L[F]'(by omega),L[15+j % 3]'(by omega)]]) (a:=X.length) (b:=Y.length) (l:=[.str tr.wr]++[.str v1,.str z]) (m:=[L[F]'(by omega),L[15+j % 3]'(by omega)]) (zm d3) zK (by show 5<=LIM;decide)
  have f1:Txs ([.str tr.wr]++[.str v1,.str z]++[L[F]'(by omega),L[15+j % 3]'(by omega)]):=λ d hd=>by
   simp only[cL,cA,ax,bc,or_false]at hd
   rcases hd with rfl|rfl|rfl|rfl|rfl
   .exact au7 (by omega)
   .exact au7 f5
   .exact au7 g4
   .exact e3 _ (bW _)
   .exact e3 _ (bW _)
  have g3:aY3 (.ref (Y++[O.lst [L[F]'(by omega),L[15+j % 3]'(by omega)]]).length) (Y++[.lst [L[F]'(by omega),L[15+j % 3]'(by omega)]]++[.lst ([.str tr.wr]++[.str v1,.str z]++[L[F]'(by omega),L[15+j % 3]'(by omega)])])=.ok ⟨[.str tr.wr]++[.str v1,.str z]++[L[F]'(by omega),L[15+j % 3]'(by omega)],[(Y++[O.lst [L[F]'(by omega),L[15+j % 3]'(by omega)]]).length]⟩ (Y++[.lst [L[F]'(by omega),L[15+j % 3]'(by omega)]]++[.lst ([.str tr.wr]++[.str v1,.str z]++[L[F]'(by omega),L[15+j % 3]'(by omega)])]):=by
   simp only[aY3,zK]
  obtain⟨T,y6,ef⟩:=bK2 (P:=P) n _ f1 (Y++[.lst [L[F]'(by omega),L[15+j % 3]'(by omega)]]++[.lst ([.str tr.wr]++[.str v1,.str z]++[L[F]'(by omega),L[15+j % 3]'(by omega)])]) (Y++[O.lst [L[F]'(by omega),L[15+j % 3]'(by omega)]]).length zK (some (.ref 0)) (some (.int (j:Int))) (some (.ref r)) (some (.str tr.wr)) (some (.ref Uu.length)) (some (.ref (V.set r (ze b6)).length)) G
  refine aT5 (U:=[some (.ref 0),some (.int (j:Int)),some (.ref r),some (.str tr.wr),some (.ref Uu.length),some (.ref (V.set r (ze b6)).length),y6]) (s:=Y++[.lst [L[F]'(by omega),L[15+j % 3]'(by omega)]]++[.lst ([.str tr.wr]++[.str v1,.str z]++[L[F]'(by omega),L[15+j % 3]'(by omega)])]++T) ?_ ⟨zm (zm (zm e1)),_,_,_,_,_,_,rfl⟩
  have s1:exs (aa0 P (n+17)) b62 [some (.ref 0),some (.int (j:Int)),x2,x3,x4,Z,G] t=exs (aa0 P (n+17)) (.cons (.for_ (.one 6) bR8 bw8) .nil) [some (.ref 0),some (.int (j:Int)),some (.ref r),some (.str tr.wr),some (.ref Uu.length),some (.ref (V.set r (ze b6)).length),G] (V.set r (ze b6)++[.lst [.str v1,.str z]]):=by
   unfold b62
   have q1:ex (aa0 P (n+17)) bB2 [some (.ref 0),some (.int (j:Int)),x2,x3,x4,Z,G] t=.ok (.next [some (.ref 0),some (.int (j:Int)),some (.ref r),x3,x4,Z,G]) S:=by tbr_iter [a0]
   have q2:ex (aa0 P (n+17)) bw1 [some (.ref 0),some (.int (j:Int)),some (.ref r),x3,x4,Z,G] S=.ok (.next [some (.ref 0),some (.int (j:Int)),some (.ref r),some (.str tr.wr),x4,Z,G]) Uu:=by tbr_iter [h1,eA,d2,eB,g5,es,ew]
   have q3:ex (aa0 P (n+17)) bt0 [some (.ref 0),some (.int (j:Int)),some (.ref r),some (.str tr.wr),x4,Z,G] Uu=.ok (.next [some (.ref 0),some (.int (j:Int)),some (.ref r),some (.str tr.wr),some (.ref Uu.length),Z,G]) V:=by tbr_iter [d4]
   have q4:ex (aa0 P (n+17)) bu8 [some (.ref 0),some (.int (j:Int)),some (.ref r),some (.str tr.wr),some (.ref Uu.length),Z,G] V=.ok (.next [some (.ref 0),some (.int (j:Int)),some (.ref r),some (.str tr.wr),some (.ref Uu.length),some (.ref (V.set r (ze b6)).length),G]) (V.set r (ze b6)++[.lst [.str v1,.str z]]):=by tbr_iter [f2,e2]
   rw[zg,q1,R.bind_ok]
   show exs (aa0 P (n+17)) (.cons bw1 _) _ _=_
   rw[zg,q2,R.bind_ok]
   show exs (aa0 P (n+17)) (.cons bt0 _) _ _=_
   rw[zg,q3,R.bind_ok]
   show exs (aa0 P (n+17)) (.cons bu8 _) _ _=_
   rw[zg,q4,R.bind_ok]
   rfl
  show exs (aa0 P (n+17)) b62 [some (.ref 0),some (.int (j:Int)),x2,x3,x4,Z,G] t=_
  rw[s1,au0]
  have eI:evI (aa0 P (n+17)) bR8 [some (.ref 0),some (.int (j:Int)),some (.ref r),some (.str tr.wr),some (.ref Uu.length),some (.ref (V.set r (ze b6)).length),G] (V.set r (ze b6)++[.lst [.str v1,.str z]])=.ok ⟨[.str tr.wr]++[.str v1,.str z]++[L[F]'(by omega),L[15+j % 3]'(by omega)],[(Y++[O.lst [L[F]'(by omega),L[15+j % 3]'(by omega)]]).length]⟩ (Y++[.lst [L[F]'(by omega),L[15+j % 3]'(by omega)]]++[.lst ([.str tr.wr]++[.str v1,.str z]++[L[F]'(by omega),L[15+j % 3]'(by omega)])]):=by
   tbr_iter [hX,a5,d1,i1,g2,g1,i2,h0,g3]
  rw[ex_for,eI,R.bind_ok]
  exact ef
 .rintro U v ⟨hv,x1,x2,x3,x4,Z,G,rfl⟩
  tbr_iter []
  exact aU2 _ _
end
end DV
end
local macro_rules | `(tactic| walk_at "sc") => `(tactic| exact ⟨rfl, rfl, rfl, by decide +kernel, rfl, by decide +kernel, by decide +kernel⟩)
local macro_rules | `(tactic| walk_at "df") => `(tactic| (dsimp only; exact ⟨_, _, _, _, _, _, _, _, _, _, by k_is, by k_is, by k_is, by k_is⟩))
noncomputable section
namespace My
open PySem L2
noncomputable def top (i:Nat):Stmt:=PySem.Challenge.pw_leasttolls_k62_texts_of_no_set.main.body.getD i (.Pass ⟨0,0,0,0⟩)
noncomputable def ae8:List Str:=[]
noncomputable abbrev ag4:Stmt:=top 13
noncomputable abbrev s_is_letter:Stmt:=top 14
noncomputable abbrev aG9:Stmt:=top 18
noncomputable abbrev ar5:Stmt:=top 19
noncomputable abbrev ak2:Stmt:=top 20
noncomputable abbrev am6:Stmt:=top 21
noncomputable abbrev ae2:Stmt:=top 24
noncomputable abbrev ae3:Stmt:=top 25
noncomputable abbrev s_ends_with_set:Stmt:=top 26
noncomputable abbrev ae7:Stmt:=top 27
noncomputable abbrev an2:Stmt:=top 28
noncomputable abbrev ar4:Stmt:=top 30
noncomputable abbrev ak1:Stmt:=top 31
noncomputable abbrev aq8:Stmt:=top 32
noncomputable abbrev af3:Stmt:=top 33
noncomputable abbrev af2:Stmt:=top 34
noncomputable abbrev af8:Stmt:=top 35
noncomputable abbrev al6:Stmt:=top 36
noncomputable abbrev ad9:Stmt:=top 37
noncomputable abbrev ar1:Stmt:=top 38
noncomputable abbrev ah1:Stmt:=top 39
noncomputable abbrev al2:Stmt:=top 40
noncomputable abbrev ai6:Stmt:=top 41
noncomputable abbrev aw6:Stmt:=top 42
noncomputable def tb:List (String×lE×Stmt):=[("is_tuple_of",DV.aa5,ag4),("is_letter",DV.ab0,s_is_letter),("is_set",DV.ac9,aG9),("is_built",DV.ab3,ar5),("is_joined",DV.aa9,ak2),("pieces_in",DV.aa6,am6),("read_set",DV.ac1,ae2),("lay_sign",DV.aa2,ae3),("ends_with_set",DV.aa3,s_ends_with_set),("ahead_of_last",DV.aa4,ae7),("join_last",DV.aa8,an2),("_law_bag",DV.au6,ar4),("_law_take",DV.ac7,ak1),("_law_set",DV.am2,aq8),("_law_written",DV.aa7,af2),("_law_closed",DV.ac2,af8),("_law_read",DV.ad5,al6),("_law_due",DV.ad7,ar1),("_law_turned",DV.ad8,ah1),("_law_wide",DV.ad6,al2),("_law_texts",DV.ae9,ai6),("law",DV.ac3,aw6)]
noncomputable def bT1:List (String×ko):=[("LETTERS",.tup [.str [97],.str [98],.str [99]]),("MOST_PIECES",.int (40)),("MOST_DEEP",.int (12))]
noncomputable def cc4:List (String×DV.Lm):=[]
noncomputable def tbl:List (String×lE):=tb.map λ p=>(p.1,p.2.1)
noncomputable def cdt:List (String×List (List Nat×List Nat)):=[("JOINTS",[([124],[101,105,116,104,101,114]),([46],[98,101,104,105,110,100])])]
noncomputable def xtb:List (String×DV.Xf):=[("lay_sign",DV.ab4),("read_set",DV.ab7),("_law_kind",DV.aj8)]
noncomputable def ttb:List (String×mn):=[("_law_outcome",DV.ac0)]
noncomputable def dl:List (String×Stmt):=[("lay_sign",ae3),("read_set",ae2),("_law_kind",af3),("_law_outcome",ad9)]
noncomputable def xcs:List String:=["NoText"]
noncomputable def xts:List String:=["NoMaking", "NoName", "NoPair", "NoPaper", "NoRow", "NoText", "NotSteady", "TollError", "TooLong", "TooMuch"]
noncomputable def P:kH:=⟨λ f=>tbl.lookup f,λ f=>cc4.lookup f,λ x=>bT1.lookup x,λ f=>xtb.lookup f,λ f=>ttb.lookup f,λ c=>xcs.contains c,λ c=>xts.contains c,λ c=>cdt.lookup c⟩
instance:DV.HasX P "lay_sign" DV.ab4:=⟨rfl⟩
instance:DV.HasX P "read_set" DV.ab7:=⟨rfl⟩
instance:DV.HasX P "_law_kind" DV.aj8:=⟨rfl⟩
instance:DV.HasT P "_law_outcome" DV.ac0:=⟨rfl,rfl⟩
instance:DV.HasE P "NoText" ["NoMaking", "NoName", "NoPair", "NoPaper", "NoRow", "NoText", "NotSteady", "TollError", "TooLong", "TooMuch"]:=⟨rfl,by decide⟩
instance:DV.HasE P "NoText" []:=⟨rfl,by decide⟩
instance:DV.HasD P "JOINTS" [([124],[101,105,116,104,101,114]),([46],[98,101,104,105,110,100])]:=⟨rfl⟩
instance:DV.HasC P "LETTERS" (.tup [.str [97],.str [98],.str [99]]):=⟨rfl⟩
instance:DV.HasC P "MOST_PIECES" (.int (40)):=⟨rfl⟩
instance:DV.HasC P "MOST_DEEP" (.int (12)):=⟨rfl⟩
instance:DV.Has P DV.aa5:=⟨rfl⟩
instance:DV.Has P DV.ab0:=⟨rfl⟩
instance:DV.Has P DV.ac9:=⟨rfl⟩
instance:DV.Has P DV.ab3:=⟨rfl⟩
instance:DV.Has P DV.aa9:=⟨rfl⟩
instance:DV.Has P DV.aa6:=⟨rfl⟩
instance:DV.Has P DV.ac1:=⟨rfl⟩
instance:DV.Has P DV.aa2:=⟨rfl⟩
instance:DV.Has P DV.aa3:=⟨rfl⟩
instance:DV.Has P DV.aa4:=⟨rfl⟩
instance:DV.Has P DV.aa8:=⟨rfl⟩
instance:DV.Has P DV.au6:=⟨rfl⟩
instance:DV.Has P DV.ac7:=⟨rfl⟩
instance:DV.Has P DV.am2:=⟨rfl⟩
instance:DV.Has P DV.aa7:=⟨rfl⟩
instance:DV.Has P DV.ac2:=⟨rfl⟩
instance:DV.Has P DV.ad5:=⟨rfl⟩
instance:DV.Has P DV.ad7:=⟨rfl⟩
instance:DV.Has P DV.ad8:=⟨rfl⟩
instance:DV.Has P DV.ad6:=⟨rfl⟩
instance:DV.Has P DV.ae9:=⟨rfl⟩
instance:DV.Has P DV.ac3:=⟨rfl⟩
theorem at6:DT ae8 P "is_tuple_of" DV.aa5 ag4:=⟨["thing", "many"],["thing", "many"],by walk_at "sc",rfl,rfl,λ _ _ _ _ _ _=>bd2 (λ _ _=>rfl),.inl (by decide +kernel)⟩
theorem aA7:DT ae8 P "is_letter" DV.ab0 s_is_letter:=⟨["thing", "letters"],["thing", "letters"],by walk_at "sc",rfl,rfl,λ _ _ _ _ _ _=>bd2 (λ _ _=>rfl),.inl (by decide +kernel)⟩
theorem aZ0:DT ae8 P "is_set" DV.ac9 aG9:=⟨["thing"],["thing"],by walk_at "sc",rfl,rfl,λ _ _ _ _ _ _=>bd1 (λ _=>rfl),.inl (by decide +kernel)⟩
theorem aM1:DT ae8 P "is_built" DV.ab3 ar5:=⟨["thing", "deep"],["thing", "deep"],by walk_at "sc",rfl,rfl,λ _ _ _ _ _ _=>bd2 (λ _ _=>rfl),.inl (by decide +kernel)⟩
theorem aC5:DT ae8 P "is_joined" DV.aa9 ak2:=⟨["thing"],["thing"],by walk_at "sc",rfl,rfl,λ _ _ _ _ _ _=>bd1 (λ _=>rfl),.inl (by decide +kernel)⟩
theorem aB8:DT ae8 P "pieces_in" DV.aa6 am6:=⟨["words"],["words"],by walk_at "sc",rfl,rfl,λ _ _ _ _ _ _=>bd1 (λ _=>rfl),.inl (by decide +kernel)⟩
theorem aN1:DT ae8 P "read_set" DV.ac1 ae2:=⟨["text", "pile", "sign"],["text"],by walk_at "sc",rfl,rfl,λ _ _ _ _ _ _=>bd1 (λ _=>rfl),.inl (by decide +kernel)⟩
theorem aM7:DT ae8 P "lay_sign" DV.aa2 ae3:=⟨["pile", "sign"],["pile", "sign"],by walk_at "sc",rfl,rfl,λ _ _ _ _ _ _=>bd2 (λ _ _=>rfl),.inl (by decide +kernel)⟩
theorem am1:DT ae8 P "ends_with_set" DV.aa3 s_ends_with_set:=⟨["pile"],["pile"],by walk_at "sc",rfl,rfl,λ _ _ _ _ _ _=>bd1 (λ _=>rfl),.inl (by decide +kernel)⟩
theorem al9:DT ae8 P "ahead_of_last" DV.aa4 ae7:=⟨["pile"],["pile"],by walk_at "sc",rfl,rfl,λ _ _ _ _ _ _=>bd1 (λ _=>rfl),.inl (by decide +kernel)⟩
theorem aE0:DT ae8 P "join_last" DV.aa8 an2:=⟨["pile", "other", "joint", "one"],["pile"],by walk_at "sc",rfl,rfl,λ _ _ _ _ _ _=>bd1 (λ _=>rfl),.inl (by decide +kernel)⟩
theorem aM4:DT ae8 P "_law_bag" DV.au6 ar4:=⟨["_law_script", "_law_at", "_law_cell", "_law_mix", "_law_k"],["_law_script", "_law_at"],by walk_at "sc",rfl,rfl,λ _ _ _ _ _ _=>bd2 (λ _ _=>rfl),.inl (by decide +kernel)⟩
theorem aA9:DT ae8 P "_law_take" DV.ac7 ak1:=⟨["_law_bag_here", "_law_many", "_law_digit", "_law_number", "_law_room"],["_law_bag_here", "_law_many"],by walk_at "sc",rfl,rfl,λ _ _ _ _ _ _=>bd2 (λ _ _=>rfl),.inl (by decide +kernel)⟩
theorem aM8:DT ae8 P "_law_set" DV.am2 aq8:=⟨["_law_bag_here", "_law_deep", "_law_room", "_law_left", "_law_kind_here", "_law_sign", "_law_some", "_law_first"],["_law_bag_here", "_law_deep", "_law_room", "_law_left"],by walk_at "sc",rfl,rfl,λ _ _ _ _ _ _=>bd4 (λ _ _ _ _=>rfl),.inl (by decide +kernel)⟩
theorem ao3:DT ae8 P "_law_written" DV.aa7 af2:=⟨["_law_words"],["_law_words"],by walk_at "sc",rfl,rfl,λ _ _ _ _ _ _=>bd1 (λ _=>rfl),.inl (by decide +kernel)⟩
theorem ar7:DT ae8 P "_law_closed" DV.ac2 af8:=⟨["_law_heap", "_law_first", "_law_size", "_law_deep", "_law_second", "_law_more", "_law_deeper", "_law_word"],["_law_heap"],by walk_at "sc",rfl,rfl,λ _ _ _ _ _ _=>bd1 (λ _=>rfl),.inl (by decide +kernel)⟩
theorem aD3:DT ae8 P "_law_read" DV.ad5 al6:=⟨["_law_text", "_law_heap", "_law_sign", "_law_told", "_law_words", "_law_size", "_law_deep"],["_law_text"],by walk_at "sc",rfl,rfl,λ _ _ _ _ _ _=>bd1 (λ _=>rfl),.inl (by decide +kernel)⟩
theorem aK4:DT ae8 P "_law_due" DV.ad7 ar1:=⟨["_law_text", "_law_found"],["_law_text"],by walk_at "sc",rfl,rfl,λ _ _ _ _ _ _=>bd1 (λ _=>rfl),.inl (by decide +kernel)⟩
theorem au2:DT ae8 P "_law_turned" DV.ad8 ah1:=⟨["_law_bag_here", "_law_text", "_law_k", "_law_at", "_law_way", "_law_sign"],["_law_bag_here", "_law_text"],by walk_at "sc",rfl,rfl,λ _ _ _ _ _ _=>bd2 (λ _ _=>rfl),.inl (by decide +kernel)⟩
theorem aB2:DT ae8 P "_law_wide" DV.ad6 al2:=⟨["_law_bag_here", "_law_some", "_law_pairs"],["_law_bag_here"],by walk_at "sc",rfl,rfl,λ _ _ _ _ _ _=>bd1 (λ _=>rfl),.inl (by decide +kernel)⟩
theorem aw3:DT ae8 P "_law_texts" DV.ae9 ai6:=⟨["_law_bag_here", "_law_deep", "_law_some", "_law_row", "_law_k", "_law_stars"],["_law_bag_here"],by walk_at "sc",rfl,rfl,λ _ _ _ _ _ _=>bd1 (λ _=>rfl),.inl (by decide +kernel)⟩
theorem bh7:FnScope ["_law_script", "_law_k", "_law_bag_here", "_law_text", "_law_some", "_law_spoilt", "_law_one"] ["_law_script"] (defScope aw6):=by walk_at "sc"
theorem bF9:mSs ⟨["_law_script", "_law_k", "_law_bag_here", "_law_text", "_law_some", "_law_spoilt", "_law_one"],defScope aw6,λ _ _ _=>false⟩ DV.ac3.body (zw aw6)=true:=by decide +kernel
theorem by7:bZ0 "law" aw6 ["_law_script"]:=λ _ _ _ _ _ _=>bd1 λ _=>rfl
theorem bT7:DT ae8 P "law" DV.ac3 aw6:=⟨_,_,bh7,rfl,rfl,by7,.inl bF9⟩
theorem aL0:DTB ae8 P "lay_sign" DV.ab4.ps DV.ab4.vs (λ z S=>mX z DV.ab4.body S) ae3:=⟨["pile", "sign"],["pile", "sign"],by walk_at "sc",rfl,rfl,λ _ _ _ _ _ _=>bd2 (λ _ _=>rfl),.inl (by decide +kernel)⟩
theorem aL8:DTB ae8 P "read_set" DV.ab7.ps DV.ab7.vs (λ z S=>mX z DV.ab7.body S) ae2:=⟨["text", "pile", "sign"],["text"],by walk_at "sc",rfl,rfl,λ _ _ _ _ _ _=>bd1 (λ _=>rfl),.inl (by decide +kernel)⟩
theorem aD5:DTB ae8 P "_law_kind" DV.aj8.ps DV.aj8.vs (λ z S=>mX z DV.aj8.body S) af3:=⟨["_law_e", "_law_kinds"],["_law_e"],by walk_at "sc",rfl,rfl,λ _ _ _ _ _ _=>bd1 (λ _=>rfl),.inl (bN7 ⟨_,_,_,_,_,_,_,_,_,_,_,_,_,_,_,_,_,_,_,_,_,_,_,_,_,_,_,_,_,_,_,_,_,_,_,_,_,_,_,_,_,_,_,_,_,_,_,_,rfl,rfl,by decide +kernel⟩)⟩
theorem ap0:DTB ae8 P "_law_outcome" DV.ac0.ps DV.ac0.vs (λ z S=>mT z DV.ac0 S) ad9:=⟨["_law_text", "_law_found", "_law_e"],["_law_text"],by walk_at "sc",rfl,rfl,λ _ _ _ _ _ _=>bd1 (λ _=>rfl),.inl (by decide +kernel)⟩
theorem bU7:∀ p∈tb,DT ae8 P p.1 p.2.1 p.2.2:=by
 intro p hp
 unfold tb at hp
 simp only[ax,bc,or_false]at hp
 rcases hp with rfl|rfl|rfl|rfl|rfl|rfl|rfl|rfl|rfl|rfl|rfl|rfl|rfl|rfl|rfl|rfl|rfl|rfl|rfl|rfl|rfl|rfl
 .exact at6
 .exact aA7
 .exact aZ0
 .exact aM1
 .exact aC5
 .exact aB8
 .exact aN1
 .exact aM7
 .exact am1
 .exact al9
 .exact aE0
 .exact aM4
 .exact aA9
 .exact aM8
 .exact ao3
 .exact ar7
 .exact aD3
 .exact aK4
 .exact au2
 .exact aB2
 .exact aw3
 .exact bT7
theorem bI7 {l:cX}{w:World}{K:ac}{h:Heap}{mg:yC}{fa:Addr}(X:K.In h)(G:h.Ns aV mg)(a5:mg "law"=some (.ref fa))(hD:∀ p∈tb,bO3 K p.1 p.2.2)(hz:∀ x∈bNames,bR K aV x=some none)
  {z:Addr} {a3:yI} {a4:Nat} {a2:yE} {Z a0 a1:Tok} (gc_LETTERS:bR K aV "LETTERS"=some (some (.ref z))) (gl_LETTERS:K.lookup z=some ⟨.type "tuple",a3,.seq #[.str ⟨#[97]⟩ Z,.str ⟨#[98]⟩ a0,.str ⟨#[99]⟩ a1] a4,a2⟩)
  {J:Tok} (gc_MOST_PIECES:bR K aV "MOST_PIECES"=some (some (.int (40) J)))
  {Y:Tok} (gc_MOST_DEEP:bR K aV "MOST_DEEP"=some (some (.int (12) Y)))
  (hT:∀ x∈ae8,(bo K x).isSome=true) (tnd:decide (((bn5 ae8 K).map (·.1)).Nodup)=true) (hDx:∀ p∈dl,bO3 K p.1 p.2) (hcl:bo8 K xcs xts=true) (hcd:∀ p∈cdt,bB7 K w p.1 p.2)
  : ∃ fd:bN,(∀(s:ae) (v:Value),jf s fd ⟨[v],[]⟩ [("_law_script",v)])/\∀ base:Heap,K.In base->base.Ns aV mg->BM mg base->bw5 K ae8 base->FnOk l.prog w K mg base CX0 50 fa fd ["_law_script"] (spB ae8 K):=by
 have hP:PrOk (bw2 ae8 P K) (bL8 ae8 K) P mg w:=by
  refine⟨λ f d h=>aF6 (tbl:=tbl) (λ p hp=>?_) f d h,λ x d h=>aS1 (tbl:=bT1) ?_ x d h,λ x hx=>ip X G (hz x hx),bR3 X G,trivial,of_decide_eq_true tnd,as3 (tbl:=xtb) (λ p hp=>?_),as3 (tbl:=ttb) (λ p hp=>?_),(al4 X G hcl).1,(al4 X G hcl).2.1,(al4 X G hcl).2.2.1,(al4 X G hcl).2.2.2.1,(al4 X G hcl).2.2.2.2.1,(al4 X G hcl).2.2.2.2.2.1,(al4 X G hcl).2.2.2.2.2.2,as3 (tbl:=cdt) (λ p hp=>bH2 X G (hcd p hp))⟩
  .obtain⟨r,hr,rfl⟩:=bC.mp hp
   exact good_of X G hT (hD r hr) (bU7 r hr)
  .intro p hp
   unfold bT1 at hp
   simp only[ax,bc,or_false]at hp
   rcases hp with rfl|rfl|rfl
   .exact bq8 (bQ X G gc_LETTERS) gl_LETTERS rfl rfl (show 3<=1000 by decide) (.cons (.str _ _ (by decide)) (.cons (.str _ _ (by decide)) (.cons (.str _ _ (by decide)) (.nil))))
   .exact aP1 (bQ X G gc_MOST_PIECES)
   .exact aP1 (bQ X G gc_MOST_DEEP)
  .unfold xtb at hp
   simp only[ax,bc,or_false]at hp
   rcases hp with rfl|rfl|rfl
   .exact ag7 X G hT (hDx ("lay_sign",ae3) (by unfold dl;simp)) aL0
   .exact ag7 X G hT (hDx ("read_set",ae2) (by unfold dl;simp)) aL8
   .exact ag7 X G hT (hDx ("_law_kind",af3) (by unfold dl;simp)) aD5
  .unfold ttb at hp
   simp only[ax,bc,or_false]at hp
   subst hp
   .exact ag7 X G hT (hDx ("_law_outcome",ad9) (by unfold dl;simp)) ap0
 obtain⟨f,od,an,sl,oc,kV,dc,pm,cd,ct,a,l0,c,k⟩:=hD ("law",DV.ac3,aw6) (by unfold tb;simp)
 have e:=a5.symm.trans (bQ X G a)
 cases e
 have F:=bj1 (st:=aw6) l0 c k
 refine⟨_,λ s v=>.of_eq rfl,λ base _ _ bm hk=>(bH6 hP (bh9 hT bm hk) 18 (bu9 hP (bh9 hT bm hk) 18) (d:=DV.ac3) (f := "law") rfl ⟨F,bQ X G a,F.binds by7⟩ bh7 rfl rfl bF9 aW8).imp (λ vs H Q E q=>bz5 (λ ns h=>DV.bU6 (P:=P) 1 ns h) vs H Q E (ba8 hT q))⟩
end My
end
open PySem PySem.W PyProof.Rows
set_option maxRecDepth 100000 in
set_option maxHeartbeats 0 in
theorem PySem.Challenge.cw_leasttolls_k62_texts_of_no_set_holds : PySem.Challenge.rw_leasttolls_k62_texts_of_no_set.Holds := by
 refine My.GT0.2.2.2 My.left2 My.left5 ?_
 delta My.GT0
 dsimp only
 k_fill
 refine L2.aX6 (l:=PySem.Challenge.rw_leasttolls_k62_texts_of_no_set) (n:=63) (k:=50) (x := "_law_script") (sp:=L2.spB My.ae8) My.ae8 rfl (by decide) rfl ⟨rfl,by decide,by decide⟩ (ts:=[]) (λ w h Y=>⟨PySem.W.kIn_of Y,λ _ hP=>absurd hP (bc)⟩) (λ w=>?R) (λ w=>?NT) ?F (λ K H a ns hl hB hS hF=>L2.bM7 hl hB hS hF)
 case R=>kernel_rfl
 case NT=>kernel_rfl
 case F =>
  intro w mg fa h KX G hmg
  refine' My.bI7 KX G hmg ?hD ?hz ?gc_LETTERS ?gl_LETTERS ?gc_MOST_PIECES ?gc_MOST_DEEP ?hT ?tnd ?hDx ?hcl ?hcd
  case hD =>
   intro p hp
   unfold My.tb at hp
   simp only[ax,bc,or_false]at hp
   rcases hp with rfl|rfl|rfl|rfl|rfl|rfl|rfl|rfl|rfl|rfl|rfl|rfl|rfl|rfl|rfl|rfl|rfl|rfl|rfl|rfl|rfl|rfl
   all_goals walk_at "df"
  case hz =>
   intro x hx
   unfold L2.bNames at hx
   simp only[ax,bc,or_false]at hx
   rcases hx with rfl|rfl|rfl|rfl|rfl|rfl|rfl|rfl|rfl|rfl|rfl|rfl|rfl|rfl|rfl|rfl|rfl|rfl<;>k_is
  (case gc_LETTERS=>k_is)
  (case gl_LETTERS=>k_is)
  (case gc_MOST_PIECES=>k_is)
  (case gc_MOST_DEEP=>k_is)
  case hT =>
   intro x hx;cases hx
  (case tnd=>kernel_rfl)
  case hDx =>
   intro p hp
   unfold My.dl at hp
   simp only[ax,bc,or_false]at hp
   rcases hp with rfl|rfl|rfl|rfl
   all_goals walk_at "df"
  (case hcl=>kernel_rfl)
  case hcd =>
   intro p hp
   unfold My.cdt at hp
   simp only[ax,bc,or_false]at hp
   subst hp
   all_goals exact⟨_,by k_is,by kernel_rfl,by decide,by kernel_rfl⟩
