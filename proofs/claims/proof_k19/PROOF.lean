import PyProof.Rows.All
import Wide.All
import OpenK.AllK
import Wide.FinOn
import PyProof.EqAt
import PyProof.EqKinds
import PyProof.TupleCall
import PyProof.MinMaxWalk
import PyProof.WalkInts
import PyProof.NeKinds
import PyProof.SliceStr2
import PyProof.StrBlockI
import PyProof.MaxThree
import PyProof.ZipIter
import PyProof.Draws
import PyProof.EnumMake
import PyProof.ListMulRoad
import PyProof.Rows.StrRev
import PyProof.DictItems
import PyProof.ListRange
import PyProof.AutoIntG2
import PyProof.FactsAll.int_6
import KE.KMinKey
import PyProof.Rows.TupDisplay
import PyProof.Rows.CatchBare
import KE.KTryMore
import PyProof.RulesAs
import KE.IntBitsLaws
import KE.KIntText
import PyProof.CallStr
import PyProof.StrBlockL
import PyProof.StrLawsChain
import PyProof.StrLawsTight
import PyProof.Rows.StrItems
import PySem.Challenge.RW_leasttolls_k19_too_many_rows
set_option Elab.async false
set_option linter.all false
set_option maxRecDepth 100000
set_option maxHeartbeats 4000000
open PySem.W renaming Frag->ac,tabIn->a9,exmOne->bD,kitOne->bF,findIn->bQ,CodeHd->bR,mg_of->bT,openSeen->bX,openGood->bZ,nsIn->b9,keepIn->cc,fnOf->cU,envX->cV,OpenLaw->cW,kla_fn->dw,openEnds->dz,Looks->dM,KitX->eD,recOk->eQ,looks_findIn->eZ,xlAt->fq,codeIn->fJ,methodObj->fQ,fnX->fX,specialIn->fZ,cellsFrom_some->gK,instObj->g8,takesIn->hZ,lookIn->iG,kitAny->iR,tabObj->iT,mroIn->jj,mg_none_of->jz,plainGet->jS,codeHdIn->jZ,kia_one->kj,TabsAt->kI,noTabs->kJ,LeftO->kM,WalkO->kN
open PySem renaming wpAny_bind->ae,Shared->af,wpAny_pure->ao,Program->az,mem_of_lookup->aG,sizeLine->aJ,cellsFrom->aK,Around->aN,wpAny_mono->a8,mainGlobals->be,starEach->br,bootBuiltins->bv,wpAny_newObj_type->bA,FuncData->bI,Arguments->bW,wpAny_holding->b8,NameKind->cf,wpAny_truthy_bool->ci,importedModules->cq,binaryOp->cr,wpAny_call_entry->cx,assignEach->cB,wpAny_passesOwn->cH,Paired->cN,wpAny_seqItems->cO,wpAny_callSpecial?_slot->cP,wpAny_Call_Name_kw->cT,wpAny_specialOf->cX,wpAny_execs_nil->cY,pushCells_keeps->c5,behindInMarks->c9,wpAny_callSpecialIfBoundUnlessNone?_slot->da,foldedSetIterable->dj,sysModules->dq,compareOp->dA,argBest->dB,IsTupleKey->dS,isTrue->dU,wpAny_field->dY,sliceBounds->dZ,backTo->d7,wpAny_pyIter_list->d8,bindArgs->d9,wpAny_tryCatch->eg,swapsWith->eK,pushCells->eO,attributeBase->eS,relabel->eT,ExceptHandler->eV,callSpecialIfBoundUnlessNone?->eW,letOwnedTupleGo->e8,codeAny_builtin->fg,codeAny->fy,notedBy->fA,storeName->fD,newFunctionEnv->fM,wpAny_binaryOp_repeat_ref->fO,sizeLine_eq->fR,InCallC->fS,swappedStores->gf,IsPart->gi,wpAny_comprehension_free->gj,plainId_quiet->gk,wpAny_forIn_list->gu,noFill_tuple_add->gz,wpAny_rule->gH,builtinsNs->gI,assign->gJ,name_of_addr->gL,getItem->gM,wpAny_typeOf->gN,typeIs_int->gQ,codeAny_compStart_list->gT,wpAny_updateSeq->hJ,isSubtype_tuple_tuple->ii,wpAny_storeName_local->ik,wpAny_isTrue_Compare1->il,codeAny_call_function->io,wpAny_storeName_cell->iD,wpAny_loadName_local->iE,wpAny_letGo->iK,strIterType->iM,codeAny_call_builtin->iO,treeTable->iV,PassesOwn->iW,Keyword->iX,callerA->iY,seqItems?->iZ,valueAt->i3,wpAny_loadName_cell->i8,wpAny_standAt->jf,seq_tuple_add->jg,wpAny_pyIter_tuple->jp,typeOf->jr,call_meets->js,cameBackBy->jx,eqIsQuiet_byValue->jC,holding->jD,wpAny_assign_Name->jF,codeAny_mono->jH,concat_meets->jI,wpAny_sequenceKey->jJ,seqIndex_neg->jK,slot_list_getitem->jL,beq_builtin_none->jN,eqIsQuiet->jO,wpAny_isInstance->jP,wpAny_execs_cons->jQ,pyNext->jR,Result->jT,noteFrame->jX,seqSlot_of->j0,setFlight->j2,wpAny_Try_except->j3,seqIndex_of->j5,keywordEach->j6,wpAny_of_eq->j7,BindsTo->kn,call->kq,reduceHash->kr,wpAny_Name->kt,Operator->ku,wpAny_call->kA,typeIs_str->kC,PlainAttrs->kD,quietNames->kH,KeyKind->kP,pyIter->kW
open Bool renaming and_eq_true->ag,false_ne_true->aR,false_eq_true->bC,or_eq_true->bK,not_true->dI,not_eq_true'->eB,or_eq_false_iff->eY,true_and->gr,eq_iff_iff->ic,and_eq_true_iff->iy,false_or->ji,and_true->jk,false_and->kz
open List renaming getElem?_eq_some_iff->ah,mem_cons_of_mem->ai,getElem?_eq_getElem->aj,replicate->aq,size_toArray->ar,mem_cons_self->av,length_map->aw,mem_cons->aA,getElem?_append_right->aB,length_append->aE,mem_append_right->aF,getElem?_map->aH,mem_singleton->aI,getElem?_append_left->aL,all_eq_true->aM,getElem?_set_self->aO,mem_map->aP,filterMap_cons->aQ,map_cons->aS,range->aU,mem_append->aW,lookup_cons->aY,getElem?_set_ne->aZ,mem_of_getElem?->a7,length_cons->bf,append_nil->bh,length_set->bp,getD_eq_getElem?_getD->bw,map_append->bE,replicate_succ->bG,getElem?_eq_none->bH,map_map->bM,not_mem_nil->bN,mem_map_of_mem->bP,set_append->bS,set_set->bV,length_take->b7,mem_append_left->cb,length_eq_zero_iff->cj,mem_range->cA,mem_filterMap->cC,filterMap_map->cD,flatten_cons->cJ,map->cK,foldl_cons->cZ,find?_cons->c6,all_cons->c8,length_singleton->dg,getElem?_toArray->dh,contains_iff_mem->di,append_assoc->dk,mem_iff_getElem->dv,drop_eq_getElem_cons->dG,getElem?_range->dH,mem_filter->dP,of_mem_zip->dQ,range_succ_eq_map->d5,reverse_cons->ee,drop_zero->eF,take_of_length_le->eG,drop_eq_nil_of_le->eI,length_drop->eN,filter_cons->eP,any_cons->eU,getElem?_of_mem->e7,nodup_cons->e9,map_congr_left->fo,forIn_nil->fL,cons_append->gv,getElem?_replicate->gy,map_nil->gS,pairwise_lt_range->g6,nil_append->g9,forIn_cons->hG,length_nil->hW,set_getElem_self->iu,filterMap->iL,length_pos_iff->jc,getElem?_take->jy,any_eq_true->jY,getD->j4,foldl->kE,set_comm->kR,all_map->kU,map_set->k8,length->lf,lookup->lh
open Nat renaming le_refl->ak,le_trans->am,lt_of_lt_of_le->ay,ne_of_lt->aC,lt_irrefl->bz,zero_le->cS,add_assoc->c7,le_succ->du,lt_succ_self->dC,sub_self->dE,le_of_lt->fv,add_comm->fz,le_of_succ_le->fT,lt_succ_of_lt->fU,lt_trichotomy->f7,le_succ_of_le->f9,lt_trans->gW,zero_add->gX,lt_or_ge->gZ,pow_le_pow_right->iU,ne_of_gt->jG,le_of_not_lt->jW,mul_add->j9,not_lt->kF,mul_comm->kX,add_zero->k7
open PySem.Heap renaming get?_push_of_some->au,lt_size->aD,get?_push_size->aX,get?_update_other->bL,size_push->bU,get?_update_self->db,SameBut->d6,ExtBut->j8
open Option.some renaming inj->ax
open PySem.Str renaming ofString->aV
open False renaming elim->bj
open PyProof.Rows renaming slot_tuple_getitem->bn,kindOf->eM,envOfC->fe,AllBare->fu,callWith_type1->fw,subscriptTail_builtinR->gO,entry_tuple_getitem->i9,Constant_none->je,tupleItemsOf_->jh,args_tuple_getitem->jq,IntsAre->ko,tail_any->kB
open Option renaming map_eq_some_iff->bq,map_some->dR,isSome_map->fY,isSome_iff_exists->gh,isSome_some->ju,getD_none->jV,map_none->km
open PySem.Builtin.Str renaming strSliceIndices->bu,tooLong->kL
open PySem.Builtin.Tuple renaming tupleHashOf->bB,tupleItemsOf->cz,tupleExact->cL,tupleTooMany->fN,tupleIsExact->kG
open Int renaming toNat_natCast->bJ,mul_le_mul_of_nonneg_left->e6,toNat_of_nonneg->fm,le_refl->fW,one_mul->f8,zero_add->g7,ofNat_lt->jM,natCast_mul->kg,le_antisymm->kh,sub_zero->kZ,le_total->k6
open PySem.Builtin.SmallTypes renaming nextOf->bO
open PySem.W.OpenRow renaming toRowW->cu
open Ne renaming symm->cw
open PySem.F renaming plain_min_loop->cy,slot_tuple_iterator_next->cE,slot_NoneType_hash->dm,args_tuple_add_2->dJ,slot_int_rmul->dW,entry_tuple_add->dX,slot_tuple_hash->d4,slot_tuple_add->ed,slot_tuple_mul->eA,attrBase_ValueError->eJ,args_tuple_iterator_next_1->fj,entry_tuple_iterator_next->fC,slot_dict_getitem->fP,entry_min_loop->gC,slot_tuple_rmul->gD,plainAttrs_list->gF,slot_list_append->ip,args_int_rmul_2->iJ,excBase_ValueError->iQ,slot_int_index->ja,entry_int_rmul->jb,fills_int_mul->jt,slot_tuple_eq->ka
open PySem.W.Looks renaming andThen->cF,now->f6,ld->j1,tag->lu
open PySem.Builtin.Slice renaming slicePlaces->cG,sliceAdjust->dF,sliceApplied->fK,slicePartIndex->ke,sliceFields->kK
open PySem.W.RowW renaming records->cI
open Array renaming length_toList->cM,forIn_toList->fF,getElem?_mapIdx->iq,append_assoc->jo,toList->jE
open PySem.Builtin.Getset_descriptor renaming descrCheckInstance->cQ,descrOwnerAndName->cR,descrGetter->dD,descrNameAndClass->gG,descrGetArgs->iP
open PySem.Builtin.List renaming listTooLong->dL
open PySem.SeqAt.EqAt renaming same->dN,of_refs->fG,none_tuple->ie,tuple_none->ig,int_tuple->iz,str_tuple->iA,tuple_int->iB,tuple_str->iC,none_int->i4,none_str->i5,int_none->i6,str_none->i7,int_str->jm,str_int->jn
open PySem.Builtin.ObjectAttr renaming find->d3
open PySem.Paired renaming length->eR,mono->lb,snoc->lj
open PySem.Around renaming under_plainId->eX,frames_deeper->iH
open PySem.Txt renaming slice->fh
open PySem.Builtin.Builtins renaming bindParams->fB
open PySem.Calls renaming Name_function_global->fI,callWith_builtin->gR,evalArgs_plain->iI
open PySem.W.OpenLaw renaming wellSaid->gd
open Classical renaming propDecidable->gE
open PySem.Obj renaming mapSeq->gP,data_mapFields->jv
open PySem.SeqAt renaming EqAt->gY,RcNeAt->kY,RcAt->lr
open PySem.Heap.SameBut renaming update->jd
open Function renaming comp->jl
open PySem.W.KF renaming slot_gs->jw
open Prod renaming ext->jA
open PySem.SeqAt.RcAt renaming tuples->jB
open PyProof.Rows.IsTup renaming new->jU
open PySem.PassesOwn renaming never->ki
open PySem.Value renaming isStrOf->kO,isInt->la
open PySem.CmpOf renaming ints_lt->kQ
open PySem.Builtin.Range renaming rangeSize->kS
open PySem.StrLaws renaming found_one->kT
open Prod.mk renaming inj->k9
open PySem.Heap.Ns renaming new->li
open List.Pairwise renaming filter->ln
open PySem.Heap.IsSliceOf renaming new->lp
open PySem.Walks renaming list->lq
noncomputable section
namespace L2
open PySem PySem.Spec PyProof.Rows
theorem head_of {l:cW}{q:az}{loose:List Str}{H:PySem.W.Hook}{N:Nat}{d:DefRec}{B:List (Str×Expr)}
  (left:kM l.row.prog q loose (λ s=>fq q [] s&&eQ (cI (cu l.row)) s) H.obs H.val N)
  (F:PySem.W.defOf q l.row.name=some (d,B)) (hp:l.row.prog.theDef l.row.name=some (d.params,d.body,d.scope)) (hk:PySem.W.kwWritten? d.params.kwonlyargs d.params.kw_defaults=some B) (G:(!l.row.writes||l.row.records.isEmpty)=true)
  (k1:l.row.wellSaid=true) (ok:(PySem.W.chainsOk q&&PySem.W.opensWell l.row.prog&&(PySem.W.frees l.row.toRowW&&l.row.within.isEmpty))=true) (hb:l.row.prog.bare) (hw:l.row.toRowW.promised)
  (call:kN q loose (PySem.W.XL q []) H.says l.row.toRowW d B λ f vs=>kq f vs):l.row.Holds :=
 PySem.W.holds_open left H.of H.keeps (λ s e=>PySem.W.xl_of s (iy.mp e).1) PySem.W.XL.keeps F hp hk (λ s e=>PySem.W.recFacts_of (iy.mp e).2) G k1 ok hb hw call
theorem left_two {p q:az}{loose:List Str}{B:af->Bool}{α:Type}{Y:af->α}{Z:World->α}{N:Nat}
  (h0:∀ w,(dz iV p w N).map (λ s=>((bX q loose (cq p.main.body) B true s).1,(bX q loose (cq p.main.body) B true s).2.1,(bX q loose (cq p.main.body) B true s).2.2.1))=some ((bZ q loose).1,(bZ q loose).2.1,(bZ q loose).2.2.1))
  (h1:∀ w,(dz iV p w N).map (λ s=>(bX q loose (cq p.main.body) B true s).2.2.2)=some (bZ q loose).2.2.2)
  (h2:∀ w,(dz iV p w N).map Y=some (Z w)):kM p q loose B Y Z N:=λ w=>by
 obtain⟨s,a,b⟩:=bq.mp (h0 w)
 obtain⟨s1,J,b1⟩:=bq.mp (h1 w)
 obtain⟨s',G,b'⟩:=bq.mp (h2 w)
 rw[a]at G J
 cases G
 cases J
 obtain⟨c1,F⟩:=k9 b
 obtain⟨F,c3⟩:=k9 F
 rw[a]
 exact congrArg some (jA (jA c1 (jA F (jA c3 b1))) b')
end L2
end
noncomputable section
namespace My
open PySem L2
noncomputable def nmS:Stmt->Bool
 | .Assign [.Name x _] _ _=>decide (x=("__name__":Str))
 | _=>false
noncomputable def vq:az:={ PySem.Challenge.pw_leasttolls_k19_too_many_rows with main:={ (PySem.Challenge.pw_leasttolls_k19_too_many_rows).main with body:=(PySem.Challenge.pw_leasttolls_k19_too_many_rows).main.body.filter λ s=>!nmS s } }
set_option maxRecDepth 100000 in
set_option maxHeartbeats 0 in
theorem left0:∀ w,(dz iV PySem.Challenge.rw_leasttolls_k19_too_many_rows.row.prog w 4000).map (λ s=>((bX vq ["NoMaking", "NoPaper"] (cq PySem.Challenge.rw_leasttolls_k19_too_many_rows.row.prog.main.body) (λ s=>fq vq [] s&&eQ (cI (cu PySem.Challenge.rw_leasttolls_k19_too_many_rows.row)) s) true s).1,(bX vq ["NoMaking", "NoPaper"] (cq PySem.Challenge.rw_leasttolls_k19_too_many_rows.row.prog.main.body) (λ s=>fq vq [] s&&eQ (cI (cu PySem.Challenge.rw_leasttolls_k19_too_many_rows.row)) s) true s).2.1,(bX vq ["NoMaking", "NoPaper"] (cq PySem.Challenge.rw_leasttolls_k19_too_many_rows.row.prog.main.body) (λ s=>fq vq [] s&&eQ (cI (cu PySem.Challenge.rw_leasttolls_k19_too_many_rows.row)) s) true s).2.2.1))=some ((bZ vq ["NoMaking", "NoPaper"]).1,(bZ vq ["NoMaking", "NoPaper"]).2.1,(bZ vq ["NoMaking", "NoPaper"]).2.2.1):=λ w=>by kernel_rfl
set_option maxRecDepth 100000 in
set_option maxHeartbeats 0 in
theorem left1:∀ w,(dz iV PySem.Challenge.rw_leasttolls_k19_too_many_rows.row.prog w 4000).map (λ s=>(bX vq ["NoMaking", "NoPaper"] (cq PySem.Challenge.rw_leasttolls_k19_too_many_rows.row.prog.main.body) (λ s=>fq vq [] s&&eQ (cI (cu PySem.Challenge.rw_leasttolls_k19_too_many_rows.row)) s) true s).2.2.2)=some (bZ vq ["NoMaking", "NoPaper"]).2.2.2:=λ w=>by kernel_rfl
inductive IsL:cW->Prop|mk:IsL PySem.Challenge.rw_leasttolls_k19_too_many_rows
theorem bG4 {l:cW}(h:IsL l):PySem.Challenge.rw_leasttolls_k19_too_many_rows=l:=by cases h;rfl
noncomputable def lwp:{ l:cW // IsL l }:=by
 refine⟨?p,?h⟩
 case h =>
  have e:PySem.Challenge.rw_leasttolls_k19_too_many_rows=?p:=by
   conv=>lhs;reduce
  exact e▸IsL.mk
theorem ws1:gd lwp.1=true:=by k_qdec
theorem ws:gd PySem.Challenge.rw_leasttolls_k19_too_many_rows=true:=by
 rw[bG4 lwp.2];exact ws1
end My
end
section
open PySem PySem.W PyProof.Rows
set_option hygiene false in
local macro_rules | `(tactic| o_head $H) => `(tactic| (refine L2.head_of (q := My.vq) (loose := ["NoMaking", "NoPaper"]) (H := $H) (N := 4000) (L2.left_two My.left0 My.left1 ?my2) (by rfl) (by rfl) (by rfl) rfl (by assumption) (by decide +kernel) ⟨rfl, rfl, rfl, rfl, rfl, by decide +kernel⟩ ?_ ?_; (case my2 => exact myl2)))
set_option maxRecDepth 100000 in
set_option maxHeartbeats 0 in
noncomputable def My.GT0:(L2:Prop) ×' { G:Prop // L2->G->PySem.Challenge.rw_leasttolls_k19_too_many_rows.Holds }:=by
 refine⟨?L2,?G,?h⟩
 case h =>
  intro myl2 g
  w_on;refine holds_law My.ws λ said=>?_;k_head;(focus w_witness2)
  exact g
set_option maxRecDepth 100000 in
set_option maxHeartbeats 0 in
theorem My.left2:My.GT0.1:=λ w=>by kernel_rfl
end
noncomputable section
namespace L2
open PySem PySem.Spec PyProof.Rows
noncomputable abbrev Key:=Sum Int Str
noncomputable def aA7:Key->Value->Bool
 | .inl k,v=>la k v
 | .inr x,v=>kO x v
noncomputable def cc8 (w:World):Key->Int
 | .inl k=>hashInt k
 | .inr x=>hashStr w x
theorem zg:∀ {k:Key} {v:Value},aA7 k v=true->(∃ i t,k=Sum.inl i/\v=Value.int i t)\/(∃ x t,k=Sum.inr x/\v=Value.str x t)
 | .inl i,v,h=>by
  obtain⟨t,e⟩:=Value.isInt_shape (k:=i) (v:=v) h
  exact .inl ⟨i,t,rfl,e⟩
 | .inr x,v,h=>by
  obtain⟨t,e⟩:=Value.isStrOf_shape (x:=x) (v:=v) h
  exact .inr ⟨x,t,rfl,e⟩
theorem aV7 (i:Int)(t:Tok):aA7 (.inl i) (.int i t)=true:=by simp[aA7,la]
theorem aW3 (x:Str)(t:Tok):aA7 (.inr x) (.str x t)=true:=by simp[aA7,kO]
theorem bI4 (a b:Int):decide ((Sum.inl a:Key)=Sum.inl b)=(a==b):=by
 by_cases e:a=b
 ·subst e;simp
 ·have h:¬(Sum.inl a:Key)=Sum.inl b:=λ q=>e (Sum.inl.inj q)
  rw[decide_eq_false h]
  exact(beq_eq_false_iff_ne.mpr e).symm
theorem bL5 (a b:Str):decide ((Sum.inr a:Key)=Sum.inr b)=decide (a=b):=by
 by_cases e:a=b
 ·subst e;simp
 ·have h:¬(Sum.inr a:Key)=Sum.inr b:=λ q=>e (Sum.inr.inj q)
  rw[decide_eq_false h,decide_eq_false e]
theorem bF9 (a:Int)(b:Str):decide ((Sum.inl a:Key)=Sum.inr b)=false:=decide_eq_false (λ q=>nomatch q)
theorem bC7 (a:Str)(b:Int):decide ((Sum.inr a:Key)=Sum.inl b)=false:=decide_eq_false (λ q=>nomatch q)
noncomputable def zT (prog:az)(w:World):kP prog w Key where
 is:=aA7
 hash:=cc8 w
 inj:=λ v a b ha hb=>by
  rcases zg ha with⟨i,t,rfl,rfl⟩|⟨x,t,rfl,rfl⟩
  ·rcases zg hb with⟨j,u,rfl,e⟩|⟨y,u,rfl,e⟩
   ·injection e with e1 _;rw[e1]
   ·exact nomatch e
  ·rcases zg hb with⟨j,u,rfl,e⟩|⟨y,u,rfl,e⟩
   ·exact nomatch e
   ·injection e with e1 _;rw[e1]
 byValue:=λ k v h=>by
  rcases zg h with⟨i,t,rfl,rfl⟩|⟨x,t,rfl,rfl⟩<;>rfl
 pyHash:=λ hv h=>by
  rcases zg hv with⟨i,t,rfl,rfl⟩|⟨x,t,rfl,rfl⟩
  ·exact wpAny_pyHash_int h
  ·exact wpAny_pyHash_str h
 eqBool:=λ hu hv h=>by
  rcases zg hu with⟨i,t,rfl,rfl⟩|⟨x,t,rfl,rfl⟩
  ·rcases zg hv with⟨j,u,rfl,rfl⟩|⟨y,u,rfl,rfl⟩
   ·rw[bI4]at h;exact wpAny_eqBool_int h
   ·rw[bF9]at h;exact jm i t y u _ _ _ _ h
  ·rcases zg hv with⟨j,u,rfl,rfl⟩|⟨y,u,rfl,rfl⟩
   ·rw[bC7]at h;exact jn x t j u _ _ _ _ h
   ·rw[bL5]at h;exact wpAny_eqBool_str h
 «strs»:=λ k x t v h=>by
  rcases zg h with⟨i,u,rfl,e⟩|⟨y,u,rfl,e⟩
  ·exact nomatch e
  ·injection e with e1 _
   subst e1
   cases v<;>rfl
theorem aC2 (prog:az)(w:World)(i:Int)(t:Tok):(zT prog w).is (.inl i) (.int i t)=true:=aV7 i t
theorem aC8 (prog:az)(w:World)(x:Str)(t:Tok):(zT prog w).is (.inr x) (.str x t)=true:=aW3 x t
noncomputable abbrev FK:=Option Key
noncomputable def fIs:FK->Value->Bool
 | none,v=>match v with|.none=>true|_=>false
 | some k,v=>aA7 k v
noncomputable def fH (w:World):FK->Int
 | none=>0xFCA86420
 | some k=>cc8 w k
theorem zP {v:Value}(h:fIs none v=true):v=.none:=by
 cases v with
 | none=>rfl
 | _=>exact nomatch h
theorem aR6 {P:az}{w:World}{A:aN}{E:Value->af->Prop}{s:af}{Q:Int->af->Prop}(h:Q 0xFCA86420 { s with toks:=s.toks+1 }):wpAny (model P w) A (PySem.pyHash .none) Q E s:=by
 have hT:s.TypeIs .none "NoneType":=rfl
 unfold PySem.pyHash pyHashByItsType
 refine ae (wpAny_cRoomFor_byValue rfl ?_)
 refine ae (cX hT dm.lookup ?_)
 show wpAny _ _ (if(some (Value.builtin "NoneType.__hash__")==some Value.none)=true then _ else _) Q E s
 rw[if_neg (by rw[jN];exact aR)]
 refine ae (cX hT dm.lookup ?_)
 show wpAny _ _ (eW .none "__hash__" _ >>= _) Q E s
 refine ae (da hT dm (cx dm hT F.entry_NoneType_hash
   (show wpAny _ _ (retInt 0xFCA86420) _ _ s from wpAny_ret_mkInt ?_) (F.args_NoneType_hash_1 _)))
 show wpAny _ _ (if _ then _ else _) Q E _
 rw[if_pos (by decide)]
 exact ao h
noncomputable def qF (prog:az)(w:World):kP prog w FK where
 is:=fIs
 hash:=fH w
 inj:=λ v a b ha hb=>by
  cases a with
  | none =>
   cases zP ha
   cases b with
   | none=>rfl
   | some k=>rcases zg hb with⟨_,_,_,e⟩|⟨_,_,_,e⟩<;>exact nomatch e
  | some k =>
   cases b with
   | none=>cases zP hb;rcases zg ha with⟨_,_,_,e⟩|⟨_,_,_,e⟩<;>exact nomatch e
   | some j=>exact congrArg some ((zT prog w).inj v k j ha hb)
 byValue:=λ k v h=>by
  cases k with
  | none=>cases zP h;rfl
  | some k=>exact(zT prog w).byValue k v h
 pyHash:=λ {A E s k v Q} hv h=>by
  cases k with
  | none=>cases zP hv;exact aR6 h
  | some k=>exact(zT prog w).pyHash (k:=k) hv h
 eqBool:=λ {A E s a b u v Q} hu hv h=>by
  cases a with
  | none =>
   cases zP hu
   cases b with
   | none=>cases zP hv;exact dN _ prog w E Q h
   | some k =>
    rcases zg hv with⟨i,t,rfl,rfl⟩|⟨x,t,rfl,rfl⟩
    ·exact i4 i t _ _ _ _ h
    ·exact i5 x t _ _ _ _ h
  | some k =>
   cases b with
   | none =>
    cases zP hv
    rcases zg hu with⟨i,t,rfl,rfl⟩|⟨x,t,rfl,rfl⟩
    ·exact i6 i t _ _ _ _ h
    ·exact i7 x t _ _ _ _ h
   | some j =>
    refine(zT prog w).eqBool (a:=k) (b:=j) hu hv ?_
    have e:decide (k=j)=decide (some k=some j):=by simp
    rw[e];exact h
 «strs»:=λ k x t v h=>by
  cases k with
  | none=>exact nomatch zP h
  | some k=>exact(zT prog w).strs k x t v h
noncomputable abbrev NI:=Sum FK (List FK)
section
variable (P:az) (w:World)
noncomputable def NIs (h:Heap):NI->Value->Prop
 | .inl f,v=>fIs f v=true
 | .inr l,v=>∃ b,v=.ref b/\dS (qF P w) h l b
def bl9 (h:Heap)(ks:List NI)(a:Addr):Prop:=∃ o its n,h.get? a=some o/\o.cls=.type "tuple"/\o.data=.seq its n/\cN (NIs P w h) ks its.toList
noncomputable def aD7:NI->Int
 | .inl f=>fH w f
 | .inr l=>tupleKeyHash (qF P w) l
noncomputable def aK0:NI->Nat
 | .inl f=>1
 | .inr l=>l.length+1
noncomputable def qS:List NI->Nat
 | []=>0
 | k::ks=>aK0 k+qS ks
end
section
variable {P:az} {w:World} {h h':Heap}
theorem NIs.inj {x y:NI}{v:Value}(hx:NIs P w h x v)(hy:NIs P w h y v):x=y:=by
 cases x with
 | inl f =>
  cases y with
  | inl g=>exact congrArg Sum.inl ((qF P w).inj v f g hx hy)
  | inr l =>
   obtain⟨b,rfl,_⟩:=hy
   exact absurd ((qF P w).byValue f _ hx) (by nofun)
 | inr l =>
  obtain⟨b,rfl,hb⟩:=hx
  cases y with
  | inl g=>exact absurd ((qF P w).byValue g _ hy) (by nofun)
  | inr m =>
   obtain⟨c,e,hc⟩:=hy
   cases e
   exact congrArg Sum.inr (hb.inj hc)
theorem NIs.all_inj:∀ {x y:List NI} {vs:List Value},cN (NIs P w h) x vs->cN (NIs P w h) y vs->x=y
 | _,_,_,.nil,.nil=>rfl
 | _,_,_,.cons a p,.cons b q=>by rw[a.inj b,NIs.all_inj p q]
theorem bl9.inj {a:Addr}{x y:List NI}(hx:bl9 P w h x a)(hy:bl9 P w h y a):x=y:=by
 obtain⟨o,i,n,e,_,d,p⟩:=hx
 obtain⟨F,J,G,e',_,d',B⟩:=hy
 rw[e]at e';cases e'
 rw[d]at d';cases d'
 exact NIs.all_inj p B
theorem NIs.keep {x:NI}{v:Value}(k:∀ b l,dS (qF P w) h l b->dS (qF P w) h' l b)(hx:NIs P w h x v):NIs P w h' x v:=by
 cases x with
 | inl f=>exact hx
 | inr l=>obtain⟨b,e,p⟩:=hx;exact⟨b,e,k _ _ p⟩
theorem bw3 {A:aN}{E:Value->af->Prop}{s:af}{k:List NI}{a:Addr}{Q:Int->af->Prop}(hu:A.units+1<cLine)(hk:bl9 P w s.heap k a)
  (B:Q (kr (bB (k.map (aD7 P w)))) { s with toks:=s.toks+(qS k+1) }):wpAny (model P w) A (PySem.pyHash (.ref a)) Q E s:=by
 obtain⟨o,its,n,e,c,d,p⟩:=hk
 have hT:s.TypeIs (.ref a) "tuple":=⟨o,e,c⟩
 unfold PySem.pyHash pyHashByItsType
 refine ae (wpAny_cRoomFor (by omega) ?_)
 refine ae (cX hT d4.lookup ?_)
 show wpAny _ _ (if(some (Value.builtin "tuple.__hash__")==some Value.none)=true then _ else _) Q E s
 rw[if_neg (by rw[jN];nofun)]
 refine ae (cX hT d4.lookup ?_)
 show wpAny _ _ (eW (.ref a) "__hash__" _ >>= _) Q E s
 refine ae (da hT d4 (cx d4 hT F.entry_tuple_hash ?_ (F.args_tuple_hash_1 _)))
 show wpAny _ _ (cz (.ref a) >>= _) _ _ s
 refine ae (wpAny_tupleItemsOf e d (ae ?_))
 rw[<-fF]
 refine gu _
  (λ rest (b:Array Int) s'=>∃ q r,k=q++r/\cN (NIs P w s.heap) r rest/\b.toList=q.map (aD7 P w)/\s'={ s with toks:=s.toks+qS q }) _ ?_ ?_ _ _ ⟨[],k,rfl,p,rfl,rfl⟩
 ·rintro x rest b s' ⟨q,r,rfl,pr,hb,rfl⟩
  cases pr with
  | @cons u _ r' _ h1 t =>
   have G:∀ q:List NI,qS (q++[u])=qS q+aK0 u:=λ q=>by
    induction q with
    | nil=>simp[qS]
    | cons c q ih=>rw[gv,qS,qS,ih];omega
   refine ae ?_
   cases u with
   | inl f =>
    refine(qF P w).pyHash (k:=f) h1 ?_
    first
     | exact ao ⟨q++[.inl f],r',by simp,t,by simp[hb];rfl,by rw[G];simp[aK0,c7]⟩
     | exact ae (ao (ao ⟨q++[.inl f],r',by simp,t,by simp[hb];rfl,by rw[G];simp[aK0,c7]⟩))
   | inr l =>
    obtain⟨Y,rfl,J⟩:=h1
    refine wpAny_pyHash_tuple (knd:=qF P w) (ks:=l) (s:={ s with toks:=s.toks+qS q }) (show A.units+1<cLine from hu) J ?_
    first
     | exact ao ⟨q++[.inr l],r',by simp,t,by simp[hb];rfl,by rw[G];simp[aK0,c7]⟩
     | exact ae (ao (ao ⟨q++[.inr l],r',by simp,t,by simp[hb];rfl,by rw[G];simp[aK0,c7]⟩))
 ·rintro b s' ⟨q,r,rfl,pr,hb,rfl⟩
  cases pr
  rw[bh]at B
  show wpAny _ _ (retInt (bB b.toList)) _ _ _
  rw[hb]
  refine wpAny_ret_mkInt ?_
  show wpAny _ _ (if(decide (-(2:Int)^63<=bB (q.map (aD7 P w)))&&decide (bB (q.map (aD7 P w))<2^63))=true then _ else _) Q E _
  unfold kr at B
  by_cases hr:(decide (-(2:Int)^63<=bB (q.map (aD7 P w)))&&decide (bB (q.map (aD7 P w))<2^63))=true
  ·rw[if_pos hr]at B ⊢
   exact ao (by simpa [c7]using B)
  ·rw[if_neg hr]at B ⊢
   exact ae (gH (ao (by simpa [c7]using B)))
theorem aF5 {l:List FK}{b:Addr}(x:dS (qF P w) h l b):∃ its,h.IsTuple b its:=let⟨o,its,n,e,c,d,_⟩:=x;⟨its,o,e,c,n,d⟩
theorem ItemsAre.cg {F:az}{B:World}:∀ {l:List FK} {vs:List Value},ItemsAre (qF P w) l vs->ItemsAre (qF F B) l vs
 | _,_,.nil=>.nil
 | _,_,.cons h t=>.cons (show fIs _ _=true from h) (ItemsAre.cg t)
theorem dS.cg {B:az}{F:World}{l:List FK}{b:Addr}:dS (qF P w) h l b->dS (qF B F) h l b:=λ⟨o,i,n,e,c,d,p⟩=>⟨o,i,n,e,c,d,ItemsAre.cg p⟩
theorem NIs.cg {B:az}{F:World}{x:NI}{v:Value}(hx:NIs P w h x v):NIs B F h x v:=by
 cases x with
 | inl f=>exact hx
 | inr l=>obtain⟨b,e,p⟩:=hx;exact⟨b,e,dS.cg p⟩
theorem bT7 {A:aN}{s:af}{x y:NI}{u v:Value}(hu:A.units<cLine)(hx:NIs P w s.heap x u)(hy:NIs P w s.heap y v){E:Value->af->Prop}{Q:Bool->af->Prop}(B:Q (decide (x=y)) s):wpAny (model P w) A (PySem.eqBool u v) Q E s:=by
 cases x with
 | inl f =>
  cases y with
  | inl g =>
   refine(qF P w).eqBool (a:=f) (b:=g) hx hy ?_
   have e:decide (f=g)=decide ((Sum.inl f:NI)=Sum.inl g):=by simp
   rw[e];exact B
  | inr l =>
   obtain⟨b,rfl,hb⟩:=hy
   obtain⟨its,F⟩:=aF5 hb
   cases f with
   | none=>cases zP hx;exact ie F hu _ _ _ _ B
   | some k =>
    rcases zg hx with⟨i,t,rfl,rfl⟩|⟨z,t,rfl,rfl⟩
    ·exact iz i t F hu _ _ _ _ B
    ·exact iA z t F hu _ _ _ _ B
 | inr l =>
  obtain⟨b,rfl,hb⟩:=hx
  cases y with
  | inl f =>
   obtain⟨its,F⟩:=aF5 hb
   cases f with
   | none=>cases zP hy;exact ig F hu _ _ _ _ B
   | some k =>
    rcases zg hy with⟨i,t,rfl,rfl⟩|⟨z,t,rfl,rfl⟩
    ·exact iB i t F hu _ _ _ _ B
    ·exact iC z t F hu _ _ _ _ B
  | inr m =>
   obtain⟨c,rfl,hc⟩:=hy
   refine wpAny_eqBool_tuple hu hb hc ?_
   have e:decide (l=m)=decide ((Sum.inr l:NI)=Sum.inr m):=by simp
   rw[e];exact B
theorem aQ9:∀(x y:List NI),((aU (min x.length y.length)).all (λ j=>decide (x[j]?=y[j]?))&&x.length==y.length)=decide (x=y)
 | [],[]=>rfl
 | [],_::_=>by simp
 | _::_,[]=>by simp
 | a::x,b::y=>by
  have B:=aQ9 x y
  have F:min (a::x).length (b::y).length=min x.length y.length+1:=by simp only[bf];omega
  rw[F,d5,c8,kU]
  by_cases e:a=b
  ·subst e
   have:decide (a::x=a::y)=decide (x=y):=by simp
   rw[this,<-B]
   simp[Function.comp_def]
  ·have:decide ((a::x)[0]?=(b::y)[0]?)=false:=by simp[e]
   rw[this];simp[e]
theorem bt0 {α β:Type}{F:α->β->Prop}:∀ {B:List α} {l₂:List β},cN F B l₂->∀(j:Nat) (h:j<l₂.length),∃ a,B[j]?=some a/\F a l₂[j]
 | _,_,.nil,j,h=>absurd h (Nat.not_lt_zero _)
 | _,_,.cons r t,0,h=>⟨_,rfl,r⟩
 | _,_,.cons r t,j+1,h=>bt0 t j (Nat.lt_of_succ_lt_succ h)
theorem cb2 {A:aN}{E:Value->af->Prop}{s:af}{x y:List NI}{a b:Addr}{Q:Bool->af->Prop}(hu:A.units+1<cLine)(hx:bl9 P w s.heap x a)(hy:bl9 P w s.heap y b)(B:Q (decide (x=y)) s) :
  wpAny (model P w) A (PySem.eqBool (.ref a) (.ref b)) Q E s:=by
 by_cases hab:a=b
 ·subst hab
  cases hx.inj hy
  rw[decide_eq_true rfl]at B
  exact dN _ _ _ _ _ B
 ·obtain⟨o,i,n,e,c,d,p⟩:=hx
  obtain⟨o',i',Y,e',Z,d',G⟩:=hy
  have l1:x.length=i.size:=eR p
  have l2:y.length=i'.size:=eR G
  have key:=jB (A:=A) (s:=s) (e:=λ j=>decide (x[j]?=y[j]?)) ⟨o,e,c,n,d⟩ ⟨o',e',Z,Y,d'⟩ (by omega) λ j J h2 prog w' E' Q' F=>by
   obtain⟨u,q1,q2⟩:=bt0 p j (by rw[cM];exact J)
   obtain⟨v,r1,r2⟩:=bt0 G j (by rw[cM];exact h2)
   refine bT7 (P:=prog) (w:=w') (x:=u) (y:=v) (show A.units+1<cLine from hu) (NIs.cg (by simpa using q2)) (NIs.cg (by simpa using r2)) ?_
   rw[q1,r1]at F
   have e:decide (u=v)=decide (some u=some v):=by simp
   rw[e];exact F
  rw[<-l1,<-l2,aQ9]at key
  exact fG hab key P w E Q B
theorem aL3 {A:aN}{E:Value->af->Prop}{s:af}{x:NI}{v:Value}{Q:Bool->af->Prop}(hx:NIs P w s.heap x v)(B:Q true s):wpAny (model P w) A (jO 7 v) Q E s:=by
 cases x with
 | inl f=>rw[jC _ ((qF P w).byValue f _ hx)];exact ao B
 | inr l =>
  obtain⟨b,rfl,o,its,n,e,c,d,p⟩:=hx
  have hT:s.TypeIs (.ref b) "tuple":=⟨o,e,c⟩
  unfold jO
  refine ae (cX hT ka.lookup ?_)
  show wpAny _ _ (isInstance (.ref b) (.type "tuple") >>= _) _ _ s
  refine ae (jP hT ii ?_)
  simp only[dI,bC,if_false]
  refine ae (cO e d (ae ?_))
  show wpAny _ _ (forIn its _ _) _ _ s
  rw[<-fF]
  refine gu _ (λ rest r s'=>r.1=none/\s'=s/\∀ v∈rest,carriedByValue v=true) _ ?_ ?_ _ _ ⟨rfl,rfl,p.byValue⟩
  ·rintro v rest r s' ⟨hr,rfl,al⟩
   rw[jC _ (al v av)]
   refine ae (ao ?_)
   simp only[dI,bC,if_false]
   exact ao ⟨rfl,rfl,λ u q=>al u (ai _ q)⟩
  ·rintro⟨r1,r2⟩ s' ⟨hr,rfl,_⟩
   simp only at hr
   subst hr
   exact ao B
theorem bd6 {A:aN}{E:Value->af->Prop}{s:af}{k:List NI}{a:Addr}{Q:Bool->af->Prop}(hk:bl9 P w s.heap k a)(B:Q true s):wpAny (model P w) A (jO 8 (.ref a)) Q E s:=by
 obtain⟨o,its,n,e,c,d,p⟩:=hk
 have hT:s.TypeIs (.ref a) "tuple":=⟨o,e,c⟩
 unfold jO
 refine ae (cX hT ka.lookup ?_)
 show wpAny _ _ (isInstance (.ref a) (.type "tuple") >>= _) _ _ s
 refine ae (jP hT ii ?_)
 simp only[dI,bC,if_false]
 refine ae (cO e d (ae ?_))
 show wpAny _ _ (forIn its _ _) _ _ s
 rw[<-fF]
 refine gu _ (λ rest r s'=>r.1=none/\s'=s/\∃ ks,cN (NIs P w s.heap) ks rest) _ ?_ ?_ _ _ ⟨rfl,rfl,k,p⟩
 ·rintro v rest r s' ⟨hr,rfl,ks,al⟩
  cases al with
  | cons h1 t =>
   refine ae (aL3 h1 ?_)
   simp only[dI,bC,if_false]
   exact ao ⟨rfl,rfl,_,t⟩
 ·rintro⟨r1,r2⟩ s' ⟨hr,rfl,_⟩
  simp only at hr
  subst hr
  exact ao B
end
noncomputable def ao0 (P:az)(w:World):HeapKind P w (List NI) where
 is:=bl9 P w
 hash:=λ k=>kr (bB (k.map (aD7 P w)))
 draws:=λ k=>qS k+1
 room:=λ A=>A.units+1<cLine
 inj:=λ hx hy=>hx.inj hy
 keeps:=λ {h h' k a d o es ep} x ho hd hs=>by
  obtain⟨o',i,n,e,c,q,p⟩:=x
  have ne:a≠d:=by
   rintro rfl
   rw[e]at ho;cases ho
   rw[hd]at q;cases q
  exact⟨o',i,n,(hs.2 a ne).trans e,c,q,lb (λ x v z=>NIs.keep (λ b l t=>t.keeps ho hd hs) z) p⟩
 pyHash:=λ hu hk h=>bw3 hu hk h
 eqBool:=λ hu hx hy h=>cb2 hu hx hy h
 quiet:=λ hk h=>bd6 hk h
inductive V where
 | non|bl (b:Bool)|int (i:Int)|str (x:Str)|byt (b:Array UInt8)|flt (b:UInt64)|ref (a:Addr)|ty (n:String)
 deriving DecidableEq
noncomputable def RelV:V->Value->Prop
 | .non,u=>u=Value.none
 | .bl b,u=>u=Value.bool b
 | .int i,u=>∃ t,u=Value.int i t
 | .str x,u=>∃ t,u=Value.str x t
 | .byt b,u=>∃ t,u=Value.bytes b t
 | .flt b,u=>∃ t,u=Value.float b t
 | .ref a,u=>u=Value.ref a
 | .ty n,u=>u=Value.type n
abbrev Vals:List V->List Value->Prop:=cN RelV
theorem Vals.length {B:List V}{us:List Value}(r:Vals B us):B.length=us.length:=eR r
theorem Vals.get:∀ {B:List V} {us:List Value} {i:Nat} {x:V},Vals B us->B[i]?=some x->∃ u,us[i]?=some u/\RelV x u
 | _,_,_,_,.nil,e=>by simp at e
 | _,_,0,_,.cons r _,e=>by simp at e;subst e;exact⟨_,rfl,r⟩
 | _,_,i+1,x,.cons _ t,e=>by
  obtain⟨u,G,F⟩:=Vals.get (i:=i) (x:=x) t (by simpa using e)
  exact⟨u,by simpa using G,F⟩
theorem Vals.set {x:V}{u:Value}(r:RelV x u):∀ {B:List V} {us:List Value} (i:Nat),Vals B us->Vals (B.set i x) (us.set i u)
 | _,_,_,.nil=>.nil
 | _,_,0,.cons _ t=>.cons r t
 | _,_,i+1,.cons q t=>.cons q (Vals.set r i t)
theorem Vals.append:∀ {B ys:List V} {us ws:List Value},Vals B us->Vals ys ws->Vals (B++ys) (us++ws)
 | _,_,_,_,.nil,s=>s
 | _,_,_,_,.cons r t,s=>.cons r (Vals.append t s)
theorem Vals.take:∀ {B:List V} {us:List Value} (n:Nat),Vals B us->Vals (B.take n) (us.take n)
 | _,_,0,_=>.nil
 | _,_,_+1,.nil=>.nil
 | _,_,n+1,.cons r t=>.cons r (Vals.take n t)
theorem Vals.drop:∀ {B:List V} {us:List Value} (n:Nat),Vals B us->Vals (B.drop n) (us.drop n)
 | _,_,0,r=>r
 | _,_,_+1,.nil=>.nil
 | _,_,n+1,.cons _ t=>Vals.drop n t
noncomputable def aO4:Option V->Option Value->Prop
 | some v,some u=>RelV v u
 | none,none=>True
 | _,_=>False
def KV {κ:Type}:List (κ×V)->List (κ×Value)->Prop:=cN λ(p:κ×V) (q:κ×Value)=>p.1=q.1/\RelV p.2 q.2
noncomputable def kV:Key->V
 | .inl i=>.int i
 | .inr x=>.str x
inductive HO where
 | lst (xs:List V)
 | tup (xs:List V)
 | dK (kvs:List (Key×V))|dT (kvs:List (List NI×V))
 | set (S:Int->Bool) (n:Nat)
 | ins (C dx:Addr) (fs:List (Str×V))
 | own (x:Addr)
 | xd (fs:List (Str×V))
 | met (f x:Addr)
 | rng (lo hi:Int)
 | frz (o:Obj) (u:HO)
 | tbl (ps:Array Value)
 | ext (φ:Heap->Prop)
noncomputable abbrev Hp:=Addr->Option HO
noncomputable def fV:FK->V
 | none=>.non
 | some k=>kV k
noncomputable def NAt (H:Hp):NI->V->Prop
 | .inl f,v=>v=fV f
 | .inr l,v=>∃ c,v=.ref c/\H c=some (.tup (l.map fV))
def NK (H:Hp)(k:List NI)(b:Addr):Prop:=∃ xs,H b=some (.tup xs)/\cN (NAt H) k xs
theorem NAt.mono {H H':Hp}{k:NI}{v:V}(F:∀ b B,H b=some (.tup B)->H' b=some (.tup B))(h:NAt H k v):NAt H' k v:=by
 cases k with
 | inl f=>exact h
 | inr l=>obtain⟨c,e,q⟩:=h;exact⟨c,e,F _ _ q⟩
theorem NK.mono {H H':Hp}{k:List NI}{b:Addr}(F:∀ b B,H b=some (.tup B)->H' b=some (.tup B))(h:NK H k b):NK H' k b:=let⟨B,e,p⟩:=h;⟨B,F _ _ e,lb (λ _ _ z=>z.mono F) p⟩
noncomputable def upd (H:Hp)(a:Addr)(o:HO):Hp:=λ b=>if b=a then some o else H b
theorem zu {H:Hp}{a:Addr}{o:HO}:upd H a o a=some o:=by unfold upd;rw[if_pos rfl]
theorem zn {H:Hp}{a b:Addr}{o:HO}(h:b≠a):upd H a o b=H b:=by unfold upd;rw[if_neg h]
theorem bE6 {H:Hp}{a b:Addr}{o u:HO}(h:H a=some o)(h':H b=some u)(d:o≠u):a≠b:=by
 intro e;subst e;rw[h]at h';exact d (ax h')
theorem zo {H:Hp}{a b:Addr}{o:HO}(h:H a=some o)(h':H b=none):a≠b:=by
 intro e;subst e;rw[h]at h';cases h'
section
variable (P:az) (w:World)
noncomputable def ac4 (H:Hp)(h:Heap)(a:Addr):HO->Prop
 | .lst xs=>xs.length<=aJ/\∃(its:List Value) (n:Nat),Vals xs its/\h.get? a=some { cls:=.type "list",data:=.seq its.toArray n }
 | .tup xs=>xs.length<=aJ/\∃ its:List Value,Vals xs its/\IsTup h a its.toArray
 | .dK kvs=>kvs.length<=aJ/\(a==dq)=false/\∃ vs,KV kvs vs/\h.DictOf (zT P w) a vs
 | .dT kvs=>kvs.length<=aJ/\(a==dq)=false/\∃ xs:List (List NI×Addr×Value),
   cN (λ(p:List NI×V) (q:List NI×Addr×Value)=>p.1=q.1/\NK H p.1 q.2.1/\RelV p.2 q.2.2) kvs xs /\
   ∃ o es ep,h.get? a=some o/\o.ExactDict/\o.data=.dict es ep/\es.toList=xs.map (entryOfKey (ao0 P w))/\(xs.map (·.1)).Nodup
 | .set S n=>h.SetOf (intKind P w) a S n
 | .ins C dx fs=>H dx=some (.own a)/\fs.length<=1000/\dx≠a/\h.get? a=some (g8 C dx) /\
   ∃ mA,h.Ns1 dx mA/\(∀ f,aO4 (fs.lookup f) (mA f))/\PySem.Within mA (fs.map (·.1))
 | .own _=>∃ o,h.get? a=some o
 | .xd fs=>∃ mA,h.Ns1 a mA/\∀ f,aO4 (fs.lookup f) (mA f)
 | .rng lo hi=>∃ t u v,h.get? a=some { cls:=.type "range",data:=.fields #[.int lo t,.int hi u,.int 1 v] }
 | .frz o u=>h.get? a=some o/\ac4 H h a u
 | .tbl ps=>h.get? a=some { cls:=.none,data:=.fields ps }
 | .met f x=>h.get? a=some (fQ (.ref f) (.ref x))
 | .ext φ=>φ h/\(∃ o,h.get? a=some o)/\∀ h1 h2:Heap,φ h1->(∀ o,h1.get? a=some o->h2.get? a=some o)->φ h2
def HOk (H:Hp)(h:Heap):Prop:=∀ a o,H a=some o->ac4 P w H h a o
end
section
variable {P:az} {w:World} {H H':Hp} {h h':Heap} {a:Addr} {o:HO}
theorem ac4.lt (x:ac4 P w H h a o):a<h.objs.size:=by
 cases o with
 | lst xs=>obtain⟨_,_,_,_,e⟩:=x;exact aD e
 | tup xs=>obtain⟨_,_,_,p⟩:=x;exact p.lt
 | dK kvs=>obtain⟨_,_,_,_,o,_,_,e,_⟩:=x;exact aD e
 | dT kvs=>obtain⟨_,_,_,_,o,_,_,e,_⟩:=x;exact aD e
 | set S n=>obtain⟨o,_,_,_,e,_⟩:=x;exact aD e
 | ins C dx fs=>obtain⟨_,_,_,e,_⟩:=x;exact aD e
 | own y=>obtain⟨_,e⟩:=x;exact aD e
 | xd fs=>obtain⟨_,⟨_,_,_,e,_⟩,_⟩:=x;exact aD e
 | rng lo hi=>obtain⟨_,_,_,e⟩:=x;exact aD e
 | frz ob u=>obtain⟨e,_⟩:=x;exact aD e
 | tbl ps=>exact aD (show h.get? a=some _ from x)
 | met f y=>exact aD (show h.get? a=some _ from x)
 | ext φ=>obtain⟨_,⟨_,e⟩,_⟩:=x;exact aD e
theorem cN.mapP {α β:Type}{F G:α->β->Prop}:∀ {B:List α} {l₂:List β},cN F B l₂->(∀ a b,F a b->G a b)->cN G B l₂
 | _,_,.nil,_=>.nil
 | _,_,.cons r t,f=>.cons (f _ _ r) (cN.mapP t f)
theorem ac4.stay (x:ac4 P w H h a o)(k:∀ b u,(b=a\/H b=some (.own a))->h.get? b=some u->h'.get? b=some u)
  (ho:∀ b,H b=some (.own a)->H' b=some (.own a)) (G:∀ b B,H b=some (.tup B)->H' b=some (.tup B)):ac4 P w H' h' a o:=by
 induction o with
 | lst B=>obtain⟨z,its,n,r,e⟩:=x;exact⟨z,its,n,r,k _ _ (.inl rfl) e⟩
 | tup B=>obtain⟨z,its,r,ob,e,c⟩:=x;exact⟨z,its,r,ob,k _ _ (.inl rfl) e,c⟩
 | dK kvs=>obtain⟨z,y,vs,r,ob,es,ep,e,c⟩:=x;exact⟨z,y,vs,r,ob,es,ep,k _ _ (.inl rfl) e,c⟩
 | dT kvs =>
  obtain⟨z,y,B,r,ob,es,ep,e,c⟩:=x
  exact⟨z,y,B,cN.mapP r λ p q z=>⟨z.1,z.2.1.mono G,z.2.2⟩,ob,es,ep,k _ _ (.inl rfl) e,c⟩
 | set S n=>obtain⟨ob,es,ep,t,e,c⟩:=x;exact⟨ob,es,ep,t,k _ _ (.inl rfl) e,c⟩
 | ins C dx fs =>
  obtain⟨d,z,ne,e,F,⟨od,es,ep,e2,c⟩,r⟩:=x
  exact⟨ho _ d,z,ne,k _ _ (.inl rfl) e,F,⟨od,es,ep,k _ _ (.inr d) e2,c⟩,r⟩
 | own y=>obtain⟨ob,e⟩:=x;exact⟨ob,k _ _ (.inl rfl) e⟩
 | xd fs=>obtain⟨F,⟨od,es,ep,e,c⟩,r⟩:=x;exact⟨F,⟨od,es,ep,k _ _ (.inl rfl) e,c⟩,r⟩
 | rng lo hi=>obtain⟨t,u,v,e⟩:=x;exact⟨t,u,v,k _ _ (.inl rfl) e⟩
 | frz ob u ih=>obtain⟨e,q⟩:=x;exact⟨k _ _ (.inl rfl) e,ih q⟩
 | tbl ps =>
  have e:h.get? a=some { cls:=.none,data:=.fields ps }:=x
  show h'.get? a=some { cls:=.none,data:=.fields ps }
  exact k a _ (.inl rfl) e
 | met f y =>
  have e:h.get? a=some (fQ (.ref f) (.ref y)):=x
  show h'.get? a=some (fQ (.ref f) (.ref y))
  exact k a _ (.inl rfl) e
 | ext φ=>obtain⟨p,⟨o,e⟩,st⟩:=x;exact⟨st _ _ p λ o q=>k _ _ (.inl rfl) q,⟨o,k _ _ (.inl rfl) e⟩,st⟩
theorem HOk.lt (x:HOk P w H h)(e:H a=some o):a<h.objs.size:=(x a o e).lt
theorem HOk.fresh (x:HOk P w H h)(e:h.objs.size<=a):H a=none:=by
 cases q:H a with
 | none=>rfl
 | some u=>exact absurd (ay (x.lt q) e) (bz _)
theorem HOk.kept (x:HOk P w H h)(k:∀ b u,h.get? b=some u->h'.get? b=some u):HOk P w H h':=λ a o e =>
 (x a o e).stay (λ b u _ q=>k b u q) (λ _ q=>q) λ _ _ q=>q
theorem HOk.laid (x:HOk P w H h)(k:∀ b u,h.get? b=some u->h'.get? b=some u)(hp:h.objs.size<=a)(new:ac4 P w (upd H a o) h' a o):HOk P w (upd H a o) h':=λ b u e=>by
 have hn:=x.fresh hp
 by_cases hb:b=a
 ·subst hb;rw[zu]at e;cases e;exact new
 ·rw[zn hb]at e
  exact(x b u e).stay (λ c v _ q=>k c v q) (λ c q=>by rw[zn (zo q hn)];exact q) λ c B q=>by rw[zn (zo q hn)];exact q
end
def Rd (H:Hp)(a:Addr)(u:HO):Prop:=H a=some u\/∃ o,H a=some (.frz o u)
theorem Rd.ok {P:az}{w:World}{H:Hp}{h:Heap}{a:Addr}{u:HO}(r:Rd H a u)(x:HOk P w H h):ac4 P w H h a u:=by
 rcases r with r|⟨o,r⟩
 ·exact x a u r
 ·obtain⟨_,q⟩:=x a _ r
  exact q
noncomputable def Mut:Option HO->Prop
 | some (.lst _)=>True
 | some (.dK _)=>True
 | some (.dT _)=>True
 | some (.set _ _)=>True
 | some (.ins _ _ _)=>True
 | some (.ext _)=>True
 | _=>False
section
variable {P:az} {w:World} {H:Hp} {h h':Heap} {x e:Addr} {o':HO}
theorem HOk.write (ok:HOk P w H h)(mu:Mut (H x))(he:e=x\/H e=some (.own x))(k:∀ b u,b≠e->h.get? b=some u->h'.get? b=some u)(J:∃ u,h'.get? e=some u)
  (new:ac4 P w (upd H x o') h' x o'):HOk P w (upd H x o') h':=λ b u q=>by
 have B:∀ c y,H c=some (.own y)->c≠x:=λ c y r z=>by subst z;rw[r]at mu;exact mu
 have F:∀ c G,H c=some (.tup G)->c≠x:=λ c G r z=>by subst z;rw[r]at mu;exact mu
 by_cases hb:b=x
 ·subst hb;rw[zu]at q;cases q;exact new
 ·rw[zn hb]at q
  by_cases hbe:b=e
  ·have Y:H b=some (.own x):=by
    rcases he with z|z
    ·exact absurd (hbe.trans z) hb
    ·rw[hbe];exact z
   rw[q]at Y;cases Y
   obtain⟨v,hv⟩:=J
   exact⟨v,by rw[hbe];exact hv⟩
  ·refine(ok b u q).stay (λ c v hc r=>k c v ?_ r) (λ c r=>by rw[zn (B c b r)];exact r) λ c G r=>by rw[zn (F c G r)];exact r
   rcases hc with rfl|hc
   ·exact hbe
   ·rintro rfl
    rcases he with z|z
    ·exact B c b hc z
    ·rw[hc]at z;cases z;exact hb rfl
end
structure Un (fs ex:List Addr)(H H':Hp)(h h':Heap):Prop where
 keep:∀ b o,h.get? b=some o->H b=none->b ∉ fs->b ∉ ex->h'.get? b=some o
 slot:∀ b o,h.get? b=some o->H b=none->b∈fs->b ∉ ex->∃ sl,h'.get? b=some { o with slots:=sl }
 free:∀ b o,h.get? b=some o->H b=none->b ∉ ex->H' b=none
 there:∀ b o,h.get? b=some o->b ∉ ex->∃ o',h'.get? b=some o'
 tups:∀ b xs,H b=some (.tup xs)->H' b=some (.tup xs)
 frzs:∀ b o u,H b=some (.frz o u)->H' b=some (.frz o u)
 tbls:∀ b ps,H b=some (.tbl ps)->∃ more,H' b=some (.tbl (ps++more))
section
variable {fs fs' ex ex':List Addr} {H H1 H2:Hp} {h h1 h2 h':Heap} {a x e:Addr} {o:HO}
theorem Un.any (u:Un fs ex H H1 h h1){b:Addr}{ob:Obj}(q:h.get? b=some ob)(n:H b=none)(hx:b ∉ ex):∃ sl,h1.get? b=some { ob with slots:=sl }:=by
 by_cases hb:b∈fs
 ·exact u.slot b ob q n hb hx
 ·exact⟨ob.slots,u.keep b ob q n hb hx⟩
theorem Un.kept (k:∀ b u,h.get? b=some u->h'.get? b=some u):Un fs ex H H h h' :=
 ⟨λ b ob q _ _ _=>k b ob q,λ b ob q _ _ _=>⟨ob.slots,k b ob q⟩,λ _ _ _ n _=>n,λ b ob q _=>⟨ob,k b ob q⟩,λ _ _ q=>q,λ _ _ _ q=>q,λ _ ps q=>⟨#[],by rw[q];simp⟩⟩
theorem Un.refl:Un fs ex H H h h:=Un.kept λ _ _ q=>q
theorem Un.laid (k:∀ b u,h.get? b=some u->h'.get? b=some u)(hp:h.objs.size<=a)(hn:H a=none):Un fs ex H (upd H a o) h h' where
 keep:=λ b u q _ _ _=>k b u q
 slot:=λ b u q _ _ _=>⟨u.slots,k b u q⟩
 free:=λ b u q n _=>by rw[zn (aC (ay (aD q) hp))];exact n
 there:=λ b u q _=>⟨u,k b u q⟩
 tups:=λ b B q=>by rw[zn (zo q hn)];exact q
 frzs:=λ b u B q=>by rw[zn (zo q hn)];exact q
 tbls:=λ b ps q=>⟨#[],by rw[zn (zo q hn),q];simp⟩
theorem Un.write (mu:Mut (H x))(he:e=x\/H e=some (.own x))(k:∀ b u,b≠e->h.get? b=some u->h'.get? b=some u)(F:∃ u,h'.get? e=some u):Un fs ex H (upd H x o) h h':=by
 have hx:∀ b,H b=none->b≠x:=λ b n z=>by subst z;rw[n]at mu;exact mu
 have hb:∀ b,H b=none->b≠e:=λ b n z=>by
  subst z
  rcases he with r|r
  ·exact hx b n r
  ·rw[n]at r;cases r
 have B:∀ b u,H b=some u->¬ Mut (some u)->b≠x:=λ b u q nm z=>by subst z;rw[q]at mu;exact nm mu
 refine⟨λ b u q n _ _=>k b u (hb b n) q,λ b u q n _ _=>⟨u.slots,k b u (hb b n) q⟩,λ b u q n _=>by rw[zn (hx b n)];exact n,λ b u q _=>?_,
  λ b G q=>by rw[zn (B b _ q λ z=>z)];exact q,λ b u G q=>by rw[zn (B b _ q λ z=>z)];exact q,λ b ps q=>⟨#[],by rw[zn (B b _ q λ z=>z),q];simp⟩⟩
 by_cases hbe:b=e
 ·subst hbe;exact F
 ·exact⟨u,k b u hbe q⟩
end
noncomputable def trk (h:Heap)(H:Hp):List Addr:=(aU h.objs.size).filter λ a=>(H a).isSome
noncomputable def aZ5 (h:Heap)(H:Hp):Heap:=PySem.W.hideAll h (trk h H)
theorem aQ3 (h:Heap)(H:Hp):(aZ5 h H).objs.size=h.objs.size:=PySem.W.hideAll_size _ _
theorem ai8 {h:Heap}{H:Hp}{b:Addr}{o:Obj}(e:h.get? b=some o)(n:H b=none):(aZ5 h H).get? b=some o :=
 PySem.W.hideAll_get _ e λ B=>by
  have q:(H b).isSome=true:=(dP.mp B).2
  rw[n]at q;simp at q
theorem bv9 {h:Heap}{H:Hp}{b:Addr}{o:Obj}(e:(aZ5 h H).get? b=some o):h.get? b=some o/\H b=none:=by
 have e':h.get? b=some o:=PySem.W.of_hideAll (trk h H) e
 refine⟨e',?_⟩
 cases q:H b with
 | none=>rfl
 | some x =>
  have B:b∈trk h H:=dP.mpr ⟨cA.mpr (aD e'),by simp[q]⟩
  have z:(aZ5 h H).get? b=none:=PySem.W.hideAll_none (trk h H) B
  rw[z]at e;cases e
noncomputable def bt5 (g h:Heap)(L:Addr):List (Addr×Obj):=(aU h.objs.size).filterMap λ a=>if a=L\/(g.get? a).isSome=true then none else(h.get? a).map λ o=>(a,o)
noncomputable def rest (g h:Heap)(L d:Addr):List (Addr×Obj):=(bt5 g h L).filter λ p=>decide (p.1≠d)
structure Mod (K:ac)(mg:Str->Option Value)(base:Heap):Prop where
 kin:K.In base
 glob:base.Ns be mg
 blt:∃ mb,base.Ns gI mb/\∀ x:Str,x ≠ "__name__"->mb x=bv x
 nolimit:base.NoLimit
structure Cx where
 prog:az
 w:World
 K:ac
 mg:Str->Option Value
 base:Heap
 A:aN
 N:List Str
 s₀:af
 H₀:Hp
 env:Env
 outer:List Env
 stack:List Env
 ex:List Addr
 fn:Str->Bool
 calm:Bool
 pn:List (Addr×Obj)
 xe:Value->af->Prop
noncomputable def frs (l:List Env):List Addr:=l.filterMap (·.frame)
noncomputable abbrev Cx.fs (X:Cx):List Addr:=frs X.outer
def Vis (sc:Scope)(x:Str):Prop:=sc.names.lookup x=some .local\/sc.names.lookup x=some .cell\/sc.names.lookup x=some .free
def Loc (sc:Scope)(x:Str):Prop:=sc.names.lookup x=some .local\/sc.names.lookup x=some .cell
def Look (env:Env)(h:Heap)(m:Str->Option Value)(x:Str)(u:Value):Prop :=
 (env.kindOf x=some .local/\m x=some u)\/((env.kindOf x=some .cell\/env.kindOf x=some .free)/\∃ c,env.cells.lookup x=some c/\h.IsCell c (some u))
structure Cx.Ok (X:Cx):Prop where
 mod:Mod X.K X.mg X.base
 kind:X.env.scope.kind=.function
 glob:X.env.globals=be
 blt:X.env.builtins=gI
 above:X.s₀.heap.objs.size<=X.env.locals
 inj:∀ x y c,X.env.cells.lookup x=some c->X.env.cells.lookup y=some c->x=y
 has:∀ x,(X.env.kindOf x=some .cell\/X.env.kindOf x=some .free)->∃ c,X.env.cells.lookup x=some c
 cab:∀ x c,X.fn x=true->X.env.cells.lookup x=some c->X.s₀.heap.objs.size<=c
 hd:X.calm=true->X.A.handled=none
 frames:X.A.frames=some X.stack
 stk:X.stack=X.outer\/(X.stack=X.env::X.outer/\X.env.frame=some X.env.locals)
 exf:∀ b∈X.ex,b≠X.env.locals/\∀ x c,X.env.cells.lookup x=some c->c≠b
 bs:∀ b o,X.base.get? b=some o->X.s₀.heap.get? b=some o/\X.H₀ b=none
 bsz:X.base.objs.size<=X.s₀.heap.objs.size
 noex:∀ b o,X.base.get? b=some o->b ∉ X.ex
 exfs:∀ b∈X.ex,b ∉ X.fs
 funs:X.s₀.heap.FunFrames X.base X.outer
 frf:∀ b∈X.fs,X.H₀ b=none
structure Inv (X:Cx)(pins:List (Addr×Obj))(σ:List (Option V))(H:Hp)(s:af):Prop where
 ok:X.Ok
 os:s.os=X.s₀.os
 bare:fu s.gens
 base:Un X.fs X.ex X.H₀ H X.s₀.heap s.heap
 loc:∃ m,s.heap.Ns X.env.locals m/\∀(i:Nat) (x:Str) (v:V),X.N[i]?=some x->σ[i]?=some (some v)->Vis X.env.scope x->∃ u,RelV v u/\Look X.env s.heap m x u
 cell:∀ x c,X.env.cells.lookup x=some c->∃ v,s.heap.IsCell c v
 free:H X.env.locals=none
 freeC:∀ x c,X.env.cells.lookup x=some c->H c=none
 pin:∀ p∈X.pn++pins,s.heap.get? p.1=some p.2/\H p.1=none/\p.1≠X.env.locals/\p.1 ∉ X.fs/\∀ v,p.2.data≠.cell v
 hok:HOk X.prog X.w H s.heap
 len:σ.length=X.N.length
section
variable {X:Cx} {pins:List (Addr×Obj)} {σ:List (Option V)} {H H':Hp} {s:af} {h':Heap}
theorem Cx.Ok.nofr (ok:X.Ok){b:Addr}{o:Obj}(e:X.base.get? b=some o):b ∉ X.fs:=λ hb=>by
 have:=(ok.funs.mem hb).1
 rw[e]at this;cases this
theorem Inv.bs (I:Inv X pins σ H s):∀ b o,X.base.get? b=some o->s.heap.get? b=some o/\H b=none:=λ b o e =>
 ⟨I.base.keep b o (I.ok.bs b o e).1 (I.ok.bs b o e).2 (I.ok.nofr e) (I.ok.noex b o e),I.base.free b o (I.ok.bs b o e).1 (I.ok.bs b o e).2 (I.ok.noex b o e)⟩
theorem Inv.bk (I:Inv X pins σ H s):∀ b o,X.base.get? b=some o->s.heap.get? b=some o:=λ b o e=>(I.bs b o e).1
theorem Inv.mod (I:Inv X pins σ H s):Mod X.K X.mg X.base:=I.ok.mod
theorem Inv.kIn (I:Inv X pins σ H s):X.K.In s.heap:=I.ok.mod.kin.keeps I.bk
theorem Inv.nolimit (I:Inv X pins σ H s):s.heap.NoLimit:=I.ok.mod.nolimit.keeps I.bk
theorem Inv.lt (I:Inv X pins σ H s):X.env.locals<s.heap.objs.size:=let⟨_,hn,_⟩:=I.loc;hn.lt
theorem Inv.sz (I:Inv X pins σ H s):X.s₀.heap.objs.size<=s.heap.objs.size:=am I.ok.above (fv I.lt)
theorem Inv.nofs (I:Inv X pins σ H s){a:Addr}(h:s.heap.objs.size<=a):a ∉ X.fs:=λ hb=>by
 obtain⟨_,o,ho,_⟩:=I.ok.funs.mem hb
 exact absurd (ay (aD ho) (am I.sz h)) (bz _)
theorem Inv.cne (I:Inv X pins σ H s):∀ x c,X.env.cells.lookup x=some c->c≠X.env.locals:=λ x c e z=>by
 obtain⟨v,o,ho,hd⟩:=I.cell x c e
 obtain⟨m,⟨G,es,ep,F,B,_⟩,_⟩:=I.loc
 rw[z,F]at ho;cases ho;rw[B]at hd;cases hd
theorem Inv.funs (I:Inv X pins σ H s):s.heap.FunFrames X.base X.outer:=by
 have all:∀(l:List Env),(∀ b∈frs l,b∈X.fs)->X.s₀.heap.FunFrames X.base l->s.heap.FunFrames X.base l:=by
  intro l
  induction l with
  | nil=>intro _ _;trivial
  | cons env r ih =>
   intro hs hl
   obtain⟨hk,⟨L,o,B,hn,ho,hd⟩,hr⟩:=hl
   have F:L∈X.fs:=hs L (by unfold frs;rw[aQ,B];exact av)
   obtain⟨sl,e⟩:=I.base.slot L o ho (I.ok.frf L F) F λ z=>I.ok.exfs L z F
   exact⟨hk,⟨L,_,B,hn,e,hd⟩,ih (λ b hb=>hs b (by unfold frs;rw[aQ,B];exact ai _ hb)) hr⟩
 exact all X.outer (λ _ hb=>hb) I.ok.funs
theorem Inv.stack (I:Inv X pins σ H s):s.heap.FunFrames X.base X.stack:=by
 rcases I.ok.stk with e|⟨e,B⟩
 ·rw[e];exact I.funs
 ·rw[e]
  obtain⟨m,hn,_⟩:=I.loc
  refine .cons (by rw[I.ok.kind];decide) B hn ?_ I.funs
  exact Heap.get?_none_of_le (am I.ok.bsz I.ok.above)
theorem Inv.stkSub (I:Inv X pins σ H s):∀ b∈frs X.stack,b∈X.env.locals::X.fs:=λ b hb=>by
 rcases I.ok.stk with e|⟨e,B⟩
 ·rw[e]at hb;exact ai _ hb
 ·rw[e]at hb
  unfold frs at hb
  rw[aQ,B]at hb
  exact hb
theorem Inv.stkFree (I:Inv X pins σ H s):∀ b∈frs X.stack,H b=none:=λ b hb=>by
 rcases aA.mp (I.stkSub b hb)with e|hb
 ·rw[e];exact I.free
 ·obtain⟨_,o,ho,_⟩:=I.ok.funs.mem hb
  exact I.base.free b o ho (I.ok.frf b hb) λ z=>I.ok.exfs b z hb
theorem Inv.step {g':Array GenState}{t':Nat}{d':Drawn}{ch:List Addr}(I:Inv X pins σ H s)
  (G:∀ b∈ch,(b∈X.ex\/X.s₀.heap.objs.size<=b)/\b≠X.env.locals/\(∀ x c,X.env.cells.lookup x=some c->c≠b)/\∀ p∈X.pn++pins,p.1≠b)
  (keep:∀ b o,b≠X.env.locals->b ∉ X.fs->b ∉ ch->s.heap.get? b=some o->H b=none->h'.get? b=some o)
  (slot:∀ b o,b≠X.env.locals->b∈X.fs->b ∉ ch->s.heap.get? b=some o->H b=none->∃ sl,h'.get? b=some { o with slots:=sl }) (free:∀ b o,b ∉ ch->s.heap.get? b=some o->H b=none->H' b=none)
  (there:∀ b o,b ∉ ch->s.heap.get? b=some o->∃ o',h'.get? b=some o')
  (tups:∀ b Y,H b=some (.tup Y)->H' b=some (.tup Y)) (frzs:∀ b o u,H b=some (.frz o u)->H' b=some (.frz o u)) (tbls:∀ b ps,H b=some (.tbl ps)->∃ a0,H' b=some (.tbl (ps++a0)))
  (ns:∀ m,s.heap.Ns X.env.locals m->h'.Ns X.env.locals m) (hok:HOk X.prog X.w H' h') (hg:fu g') :
  Inv X pins σ H' { s with heap:=h',gens:=g',drawn:=d',toks:=t' }:=by
 have Z:∀ b o,X.s₀.heap.get? b=some o->b≠X.env.locals:=λ b o e=>aC (ay (aD e) I.ok.above)
 have J:∀ b o,X.s₀.heap.get? b=some o->b ∉ X.ex->b ∉ ch:=λ b o e hx hb=>by
  rcases(G b hb).1 with z|z
  ·exact hx z
  ·exact absurd (ay (aD e) z) (bz _)
 have B:∀ x c,X.env.cells.lookup x=some c->∀ v,s.heap.IsCell c v->h'.IsCell c v:=λ x c e v ⟨o,ho,hd⟩=>by
  have F:c ∉ ch:=λ z=>(G c z).2.2.1 x c e rfl
  by_cases hc:c∈X.fs
  ·obtain⟨sl,q⟩:=slot c o (I.cne x c e) hc F ho (I.freeC x c e)
   exact⟨_,q,hd⟩
  ·exact⟨o,keep c o (I.cne x c e) hc F ho (I.freeC x c e),hd⟩
 refine⟨I.ok,I.os,hg,⟨λ b o e n hb hx=>?_,λ b o e n hb hx=>?_,λ b o e n hx=>?_,λ b o e hx=>?_,λ b Y e=>tups b Y (I.base.tups b Y e),λ b o Y e=>frzs b o Y (I.base.frzs b o Y e),λ b ps e=>?_⟩,?_,λ x c e=>?_,?_,λ x c e=>?_,λ p hp=>?_,hok,I.len⟩
 ·exact keep b o (Z b o e) hb (J b o e hx) (I.base.keep b o e n hb hx) (I.base.free b o e n hx)
 ·obtain⟨sl,e1⟩:=I.base.slot b o e n hb hx
  obtain⟨a1,e2⟩:=slot b _ (Z b o e) hb (J b o e hx) e1 (I.base.free b o e n hx)
  exact⟨a1,e2⟩
 ·obtain⟨o',e1⟩:=I.base.there b o e hx
  exact free b o' (J b o e hx) e1 (I.base.free b o e n hx)
 ·obtain⟨o',e1⟩:=I.base.there b o e hx
  exact there b o' (J b o e hx) e1
 ·obtain⟨m1,e1⟩:=I.base.tbls b ps e
  obtain⟨m2,e2⟩:=tbls b _ e1
  exact⟨m1++m2,by rw[e2,jo]⟩
 ·obtain⟨m,hn,hl⟩:=I.loc
  refine⟨m,ns m hn,λ i x v e1 e2 e3=>?_⟩
  obtain⟨u,r,l⟩:=hl i x v e1 e2 e3
  refine⟨u,r,?_⟩
  rcases l with l|⟨k,c,e,z⟩
  ·exact .inl l
  ·exact .inr ⟨k,c,e,B x c e _ z⟩
 ·obtain⟨v,z⟩:=I.cell x c e
  exact⟨v,B x c e v z⟩
 ·obtain⟨m,⟨o,_,_,ho,_⟩,_⟩:=I.loc
  exact free _ o (λ z=>(G _ z).2.1 rfl) ho I.free
 ·obtain⟨v,o,ho,hd⟩:=I.cell x c e
  exact free c o (λ z=>(G c z).2.2.1 x c e rfl) ho (I.freeC x c e)
 ·obtain⟨e,n,ne,nf,d⟩:=I.pin p hp
  have F:p.1 ∉ ch:=λ z=>(G p.1 z).2.2.2 p hp rfl
  exact⟨keep p.1 p.2 ne nf F e n,free p.1 p.2 F e n,ne,nf,d⟩
theorem Inv.un {t':Nat}(I:Inv X pins σ H s)(u:Un X.fs [] H H' s.heap h')(hok:HOk X.prog X.w H' h'):Inv X pins σ H' { s with heap:=h',toks:=t' }:=by
 obtain⟨m,⟨o,es,ep,ho,r⟩,_⟩:=id I.loc
 obtain⟨sl,Y⟩:=u.any ho I.free (by simp)
 exact I.step (g':=s.gens) (d':=s.drawn) (ch:=[]) (λ _ z=>nomatch z) (λ b o _ hb _ e n=>u.keep b o e n hb (by simp)) (λ b o _ hb _ e n=>u.slot b o e n hb (by simp)) (λ b o _ e n=>u.free b o e n (by simp)) (λ b o _ e=>u.there b o e (by simp)) u.tups u.frzs u.tbls (λ m' J=>by
  obtain⟨o',G,F,B,Z⟩:=J
  rw[ho]at B;cases B
  exact⟨_,G,F,Y,Z⟩) hok I.bare
theorem Inv.call {g':Array GenState}{t':Nat}{d':Drawn}{ch:List Addr}(I:Inv X pins σ H s)(u:Un (frs X.stack) ch H H' s.heap h')(hok:HOk X.prog X.w H' h')(hg:fu g')
  (F:∀ b∈ch,(b∈X.ex\/X.s₀.heap.objs.size<=b)/\b≠X.env.locals/\(∀ x c,X.env.cells.lookup x=some c->c≠b)/\∀ p∈X.pn++pins,p.1≠b) :
  Inv X pins σ H' { s with heap:=h',gens:=g',drawn:=d',toks:=t' }:=by
 obtain⟨m,⟨o,es,ep,ho,r⟩,_⟩:=id I.loc
 obtain⟨sl,G⟩:=u.any ho I.free λ z=>(F _ z).2.1 rfl
 exact I.step (ch:=ch) F (λ b o G hb hc e n=>u.keep b o e n (λ z=>(aA.mp (I.stkSub b z)).elim G hb) hc) (λ b o _ _ hc e n=>u.any e n hc) (λ b o hc e n=>u.free b o e n hc) (λ b o hc e=>u.there b o e hc) u.tups u.frzs u.tbls (λ m' hm=>by
  obtain⟨o',Y,J,B,Z⟩:=hm
  rw[ho]at B;cases B
  exact⟨_,Y,J,G,Z⟩) hok hg
theorem Inv.turned {t':Nat}{it:Addr}(I:Inv X pins σ H s)(k:∀ b o,b≠it->s.heap.get? b=some o->h'.get? b=some o)(hn:H it=none)(F:it≠X.env.locals)
  (G:it∈X.ex\/X.s₀.heap.objs.size<=it) (J:∀ x c,X.env.cells.lookup x=some c->c≠it) (h3:∀ p∈X.pn++pins,p.1≠it):Inv X pins σ H { s with heap:=h',toks:=t' }:=by
 have B:∀ b u,H b=some u->b≠it:=λ b u e z=>by rw[z,hn]at e;cases e
 refine I.step (g':=s.gens) (d':=s.drawn) (ch:=[it]) (λ b hb=>?_) (λ b o _ _ hc e _=>k b o (λ z=>hc (by simp[z])) e) (λ b o _ _ hc e _=>⟨o.slots,k b o (λ z=>hc (by simp[z])) e⟩) (λ _ _ _ _ n=>n)
  (λ b o hc e=>⟨o,k b o (λ z=>hc (by simp[z])) e⟩) (λ _ _ e=>e) (λ _ _ _ e=>e) (λ b ps e=>⟨#[],by rw[e];simp⟩) (λ m Y=>?_) (λ b u e=>?_) I.bare
 ·have e:b=it:=by simpa using hb
  subst e
  exact⟨G,F,J,h3⟩
 ·obtain⟨o,es,ep,ho,r⟩:=Y
  exact⟨o,es,ep,k _ o (cw F) ho,r⟩
 ·refine(I.hok b u e).stay (λ c v hc q=>k c v ?_ q) (λ _ q=>q) λ _ _ q=>q
  rcases hc with z|z
  ·rw[z];exact B b u e
  ·exact B c _ z
theorem Inv.tok (I:Inv X pins σ H s)(t:Nat):Inv X pins σ H { s with toks:=t }:=I.un (h':=s.heap) (t':=t) Un.refl I.hok
theorem Inv.kept {t':Nat}(I:Inv X pins σ H s)(k:∀ b u,s.heap.get? b=some u->h'.get? b=some u):Inv X pins σ H { s with heap:=h',toks:=t' }:=I.un (Un.kept k) (I.hok.kept k)
theorem Inv.laid {a:Addr}{o:HO}{t':Nat}(I:Inv X pins σ H s)(k:∀ b u,s.heap.get? b=some u->h'.get? b=some u)(hp:s.heap.objs.size<=a)(new:ac4 X.prog X.w (upd H a o) h' a o) :
  Inv X pins σ (upd H a o) { s with heap:=h',toks:=t' }:=I.un (Un.laid k hp (I.hok.fresh hp)) (I.hok.laid k hp new)
theorem Inv.write {x e:Addr}{o:HO}{t':Nat}(I:Inv X pins σ H s)(mu:Mut (H x))(he:e=x\/H e=some (.own x))(k:∀ b u,b≠e->s.heap.get? b=some u->h'.get? b=some u)(B:∃ u,h'.get? e=some u)
  (new:ac4 X.prog X.w (upd H x o) h' x o):Inv X pins σ (upd H x o) { s with heap:=h',toks:=t' }:=I.un (Un.write mu he k B) (I.hok.write mu he k B new)
theorem Inv.pins_of {B:List (Addr×Obj)}(I:Inv X pins σ H s)(h:∀ p∈B,s.heap.get? p.1=some p.2/\H p.1=none/\p.1≠X.env.locals/\p.1 ∉ X.fs/\∀ v,p.2.data≠.cell v):Inv X B σ H s :=
 ⟨I.ok,I.os,I.bare,I.base,I.loc,I.cell,I.free,I.freeC,λ p hp=>(aW.mp hp).elim (λ z=>I.pin p (cb _ z)) (h p),I.hok,I.len⟩
theorem aq5 {N:List Str}(hN:N.Nodup){i j:Nat}{x:Str}(a:N[i]?=some x)(b:N[j]?=some x):i=j:=by
 obtain⟨F,e1⟩:=ah.mp a
 obtain⟨B,e2⟩:=ah.mp b
 exact(List.getElem_inj hN).mp (e1.trans e2.symm)
theorem ax5 {M:Model}{A:aN}{E:Value->af->Prop}{i:Nat}{x:Str}{v:V}{u:Value}{Q:Unit->af->Prop}(I:Inv X pins σ H s)(hN:X.N.Nodup)(hi:X.N[i]?=some x)(hx:Loc X.env.scope x)(r:RelV v u)
  (h:∀ s',Inv X pins (σ.set i (some v)) H s'->(∃ a,d6 a s.heap s'.heap/\(a=X.env.locals\/X.env.cells.lookup x=some a))->Q () s') (hf:X.fn x=true\/X.env.scope.names.lookup x=some .local:=by first|exact .inl rfl|exact .inr rfl|assumption):wpAny M A (fD X.env x u) Q E s:=by
 obtain⟨m,hn,hl⟩:=id I.loc
 have a0:(X.env.scope.kind==.class||(X.env.scope.kind==.module&&X.env.locals != X.env.globals))=false:=by rw[I.ok.kind];rfl
 have Y:i < σ.length:=by rw[I.len];exact(ah.mp hi).1
 have cne:=I.cne
 have B:∀ {a:Addr} {h':Heap},(∃ o,s.heap.get? a=some o/\H a=none)->d6 a s.heap h'->HOk X.prog X.w H h':=λ {a h'} ha hs b ob e=>by
  obtain⟨_,_,F⟩:=ha
  refine(I.hok b ob e).stay (λ c w' hc q=>(hs.2 c ?_).trans q) (λ _ q=>q) λ _ _ q=>q
  rintro rfl
  rcases hc with rfl|hc
  ·rw[F]at e;cases e
  ·rw[F]at hc;cases hc
 rcases hx with hk|hk
 ·refine ik hk hn (λ h' a3 hs=>?_) a0
  obtain⟨oL,_,_,a2,_⟩:=id hn
  refine h _ ⟨I.ok,I.os,I.bare,⟨λ b o e n hb hx=>?_,λ b o e n hb hx=>?_,I.base.free,λ b o e hx=>?_,I.base.tups,I.base.frzs,I.base.tbls⟩,⟨_,a3,λ j y v' e1 e2 e3=>?_⟩,λ y c e=>?_,I.free,I.freeC,λ p hp=>?_,B ⟨oL,a2,I.free⟩ hs,by simpa using I.len⟩ ⟨_,hs,.inl rfl⟩
  ·exact(hs.2 b (aC (ay (aD e) I.ok.above))).trans (I.base.keep b o e n hb hx)
  ·obtain⟨sl,e1⟩:=I.base.slot b o e n hb hx
   exact⟨sl,(hs.2 b (aC (ay (aD e) I.ok.above))).trans e1⟩
  ·obtain⟨o',e1⟩:=I.base.there b o e hx
   exact⟨o',(hs.2 b (aC (ay (aD e) I.ok.above))).trans e1⟩
  ·by_cases hj:j=i
   ·subst hj
    rw[hi]at e1;cases e1
    rw[aO Y]at e2
    cases e2
    exact⟨u,r,.inl ⟨hk,by simp⟩⟩
   ·rw[aZ (cw hj)]at e2
    obtain⟨u',r',q⟩:=hl j y v' e1 e2 e3
    refine⟨u',r',?_⟩
    rcases q with⟨k,e⟩|⟨k,c,e,z⟩
    ·refine .inl ⟨k,?_⟩
     have:y≠x:=λ e=>hj (aq5 hN e1 (e▸hi))
     simp[this,e]
    ·exact .inr ⟨k,c,e,z.sameBut hs (cne y c e)⟩
  ·obtain⟨w',z⟩:=I.cell y c e
   exact⟨w',z.sameBut hs (cne y c e)⟩
  ·obtain⟨e,n,ne,nf,d⟩:=I.pin p hp
   exact⟨(hs.2 p.1 ne).trans e,n,ne,nf,d⟩
 ·have G:X.fn x=true:=by
   rcases hf with z|z
   ·exact z
   ·rw[z]at hk;cases hk
  obtain⟨c,hc⟩:=I.ok.has x (.inl hk)
  obtain⟨w',z⟩:=I.cell x c hc
  refine iD I.ok.kind hk hc z (λ h' Z hs=>?_)
  obtain⟨oc,a1,J⟩:=id z
  refine h { s with heap:=h' } ⟨I.ok,I.os,I.bare,⟨λ b o e n hb hx=>?_,λ b o e n hb hx=>?_,I.base.free,λ b o e hx=>?_,I.base.tups,I.base.frzs,I.base.tbls⟩,⟨m,hn.sameBut hs (cw (cne x c hc)),λ j y v' e1 e2 e3=>?_⟩,λ y c' e=>?_,I.free,I.freeC,λ p hp=>?_,B ⟨oc,a1,I.freeC x c hc⟩ hs,by simpa using I.len⟩ ⟨c,hs,.inr hc⟩
  ·exact(hs.2 b (aC (ay (aD e) (I.ok.cab x c G hc)))).trans (I.base.keep b o e n hb hx)
  ·obtain⟨sl,e1⟩:=I.base.slot b o e n hb hx
   exact⟨sl,(hs.2 b (aC (ay (aD e) (I.ok.cab x c G hc)))).trans e1⟩
  ·obtain⟨o',e1⟩:=I.base.there b o e hx
   exact⟨o',(hs.2 b (aC (ay (aD e) (I.ok.cab x c G hc)))).trans e1⟩
  ·by_cases hj:j=i
   ·subst hj
    rw[hi]at e1;cases e1
    rw[aO Y]at e2
    cases e2
    exact⟨u,r,.inr ⟨.inl hk,c,hc,Z⟩⟩
   ·rw[aZ (cw hj)]at e2
    obtain⟨u',r',q⟩:=hl j y v' e1 e2 e3
    refine⟨u',r',?_⟩
    rcases q with q|⟨k,c',e,z'⟩
    ·exact .inl q
    ·refine .inr ⟨k,c',e,z'.sameBut hs ?_⟩
     rintro rfl
     exact hj (aq5 hN e1 (I.ok.inj _ _ _ e hc▸hi))
  ·by_cases hcc:c'=c
   ·subst hcc;exact⟨_,Z⟩
   ·obtain⟨w2,z2⟩:=I.cell y c' e
    exact⟨w2,z2.sameBut hs hcc⟩
  ·obtain⟨e,n,ne,nf,d⟩:=I.pin p hp
   refine⟨(hs.2 p.1 ?_).trans e,n,ne,nf,d⟩
   intro q
   rw[q,a1]at e
   have q':oc=p.2:=ax e
   exact d w' (by rw[<-q'];exact J)
theorem af4 {M:Model}{A:aN}{E:Value->af->Prop}{i:Nat}{x:Str}{v:V}{u:Value}{Q:Unit->af->Prop}(I:Inv X pins σ H s)(hN:X.N.Nodup)(B:X.N[i]?=some x)(hx:Loc X.env.scope x)(r:RelV v u)
  (h:∀ s',Inv X pins (σ.set i (some v)) H s'->Q () s') (F:X.fn x=true\/X.env.scope.names.lookup x=some .local:=by first|exact .inl rfl|exact .inr rfl|assumption):wpAny M A (fD X.env x u) Q E s :=
 ax5 I hN B hx r (λ s' G _=>h s' G) F
theorem Inv.call' {s':af}{ch:List Addr}(I:Inv X pins σ H s)(ho:s'.os=s.os)(u:Un (frs X.stack) ch H H' s.heap s'.heap)(hok:HOk X.prog X.w H' s'.heap)(hg:fu s'.gens)
  (B:∀ b∈ch,(b∈X.ex\/X.s₀.heap.objs.size<=b)/\b≠X.env.locals/\(∀ x c,X.env.cells.lookup x=some c->c≠b)/\∀ p∈X.pn++pins,p.1≠b):Inv X pins σ H' s':=by
 obtain⟨h',g',d',t',F⟩:=s'
 have e:F=s.os:=ho
 subst e
 exact I.call (g':=g') (t':=t') (d':=d') u hok hg B
end
abbrev XK:=Value->Option Addr->Hp->Prop
noncomputable abbrev St:=List (Option V)
abbrev VK:=V->Hp->Prop
abbrev TE:=St->Hp->VK->Prop
abbrev TT:=St->Hp->(Bool->Hp->Prop)->Prop
abbrev TA:=St->Hp->(List V->Hp->Prop)->Prop
structure Ends where
 nx:St->Hp->Prop
 rt:VK
 bk:St->Hp->Prop:=λ _ _=>False
 ct:St->Hp->Prop:=λ _ _=>False
abbrev TS:=Ends->St->Hp->Prop
def EP (X:Cx)(pins:List (Addr×Obj))(σ:St)(Q:VK)(u:Value)(s':af):Prop:=∃ v H',Inv X pins σ H' s'/\RelV v u/\Q v H'
def TP (X:Cx)(pins:List (Addr×Obj))(σ:St)(Q:Bool->Hp->Prop)(b:Bool)(s':af):Prop:=∃ H',Inv X pins σ H' s'/\Q b H'
def AP (X:Cx)(pins:List (Addr×Obj))(σ:St)(Q:List V->Hp->Prop)(us:List Value)(s':af):Prop:=∃ vs H',Inv X pins σ H' s'/\Vals vs us/\Q vs H'
def SP (X:Cx)(pins:List (Addr×Obj))(D:Ends)(f:Flow)(s':af):Prop :=
 match f with
 | .next=>∃ σ' H',Inv X pins σ' H' s'/\D.nx σ' H'
 | .brk=>∃ σ' H',Inv X pins σ' H' s'/\D.bk σ' H'
 | .cont=>∃ σ' H',Inv X pins σ' H' s'/\D.ct σ' H'
 | .ret u=>∃ v σ' H',Inv X pins σ' H' s'/\RelV v u/\D.rt v H'
def PE (X:Cx)(e:Expr)(t:TE):Prop :=
 ∀(pins:List (Addr×Obj)) (s:af) (σ:St) (H:Hp) (Q:VK),Inv X pins σ H s->t σ H Q->wpAny (model X.prog X.w) X.A (eval e X.env) (EP X pins σ Q) X.xe s
def PT (X:Cx)(e:Expr)(t:TT):Prop :=
 ∀(pins:List (Addr×Obj)) (s:af) (σ:St) (H:Hp) (Q:Bool->Hp->Prop),Inv X pins σ H s->t σ H Q->wpAny (model X.prog X.w) X.A (dU e X.env (eval e X.env)) (TP X pins σ Q) X.xe s
def PW (X:Cx)(e:Expr)(t:TT):Prop :=
 ∀(whole:Sem Value) (pins:List (Addr×Obj)) (s:af) (σ:St) (H:Hp) (Q:Bool->Hp->Prop),Inv X pins σ H s->t σ H Q->wpAny (model X.prog X.w) X.A (dU e X.env whole) (TP X pins σ Q) X.xe s
theorem PW.pt {X:Cx}{e:Expr}{t:TT}(h:PW X e t):PT X e t:=h _
def PA (X:Cx)(es:List Expr)(t:TA):Prop :=
 ∀(pos:Pos) (pins:List (Addr×Obj)) (s:af) (σ:St) (H:Hp) (Q:List V->Hp->Prop),Inv X pins σ H s->t σ H Q->wpAny (model X.prog X.w) X.A (spliced (d7 pos (br es X.env))) (AP X pins σ Q) X.xe s
def PS (X:Cx)(st:Stmt)(t:TS):Prop :=
 ∀(pins:List (Addr×Obj)) (s:af) (σ:St) (H:Hp) (D:Ends),Inv X pins σ H s->t D σ H->wpAny (model X.prog X.w) X.A (exec st X.env) (SP X pins D) X.xe s
def PSs (X:Cx)(st:List Stmt)(t:TS):Prop :=
 ∀(pins:List (Addr×Obj)) (s:af) (σ:St) (H:Hp) (D:Ends),Inv X pins σ H s->t D σ H->wpAny (model X.prog X.w) X.A (execs st X.env) (SP X pins D) X.xe s
theorem thn {α:Type}{t:Sem α}{Q B:α->af->Prop}{M:Model}{A:aN}{E:Value->af->Prop}{s:af}(h:wpAny M A t Q E s)(F:∀ a s,Q a s->B a s):wpAny M A t B E s:=a8 h F λ _ _ x=>x
section
variable {X:Cx}
theorem bin {a b:Expr}{J tb:TE}(ha:PE X a J)(hb:PE X b tb){B:List (Addr×Obj)}{s:af}{σ:St}{H:Hp}{R:V->V->Hp->Prop}(I:Inv X B σ H s)(h:J σ H λ x G=>tb σ G λ y F=>R x y F)
  {α:Type} {Q:α->af->Prop} {f:Value->Value->Sem α}
  (Y:∀ v u s2 x y F,Inv X B σ F s2->RelV x v->RelV y u->R x y F->wpAny (model X.prog X.w) X.A (f v u) Q X.xe s2) :
  wpAny (model X.prog X.w) X.A (eval a X.env) (λ v s₁=>wpAny (model X.prog X.w) X.A (eval b X.env) (λ u s₂=>wpAny (model X.prog X.w) X.A (f v u) Q X.xe s₂) X.xe s₁) X.xe s:=by
 refine thn (ha B s σ H _ I h) λ v s1 ⟨x,G,I1,r1,Z⟩=>?_
 refine thn (hb B s1 σ G _ I1 Z) λ u s2 ⟨y,F,I2,r2,q2⟩=>?_
 exact Y v u s2 x y F I2 r1 r2 q2
def bM6 (i:Nat):TE:=λ σ H Q=>∃ v,σ[i]?=some (some v)/\Q v H
def tC (v:V):TE:=λ _ H Q=>Q v H
theorem aG4 {i:Nat}{x:Str}{pos:Pos}(hN:X.N[i]?=some x)(hv:Vis X.env.scope x)(hd:(x==("__debug__":Str))=false:=by decide)(F:(x==("__classdict__":Str))=false:=by decide):PE X (.Name x pos) (bM6 i):=by
 intro B s σ H Q I h
 obtain⟨v,e,h⟩:=h
 obtain⟨m,hn,hl⟩:=I.loc
 obtain⟨u,r,l⟩:=hl i x v hN e hv
 have fin:EP X B σ Q u s:=⟨v,H,I,r,h⟩
 rcases l with⟨hk,G⟩|⟨hk,c,hc,hcell⟩
 ·exact kt (iE I.ok.kind hk hn G fin) hd
 ·rcases hk with hk|hk
  ·exact kt (i8 I.ok.kind hk hc hcell fin) hd
  ·exact kt (wpAny_loadName_free I.ok.kind hk hc hcell fin F) hd
theorem bC8 {i j pos}:PE X (.Constant (.int i) j pos) (tC (.int i)):=λ _ _ _ H _ I h=>wpAny_Constant_int ⟨.int i,H,I.tok _,⟨_,rfl⟩,h⟩
theorem bZ1 {b j pos}:PE X (.Constant (.bool b) j pos) (tC (.bl b)):=λ _ _ _ H _ I h=>Constant_bool ⟨.bl b,H,I,rfl,h⟩
theorem aW2 {j pos}:PE X (.Constant .none j pos) (tC .non):=λ _ _ _ H _ I h=>je ⟨.non,H,I,rfl,h⟩
theorem bm0 {x j pos}:PE X (.Constant (.str x) j pos) (tC (.str x)):=λ _ _ _ H _ I h=>Calls.Constant_str ⟨.str x,H,I.tok _,⟨_,rfl⟩,h⟩
def Gl (X:Cx)(x:Str):Prop:=X.env.kindOf x=some .globalImplicit
theorem aB2 {E:Value->af->Prop}{B:List (Addr×Obj)}{s:af}{σ:St}{H:Hp}{x:Str}{u:Value}{pos:Pos}{Q:Value->af->Prop}(I:Inv X B σ H s)(hg:Gl X x)(F:X.mg x=some u)(h:Q u s)
  (hd:(x==("__debug__":Str))=false:=by decide):wpAny (model X.prog X.w) X.A (eval (.Name x pos) X.env) Q E s :=
 fI I.ok.kind hg (Calls.loadGlobal_global (by rw[I.ok.glob];exact I.mod.glob.keeps I.bk) F h) hd
theorem ay1 {E:Value->af->Prop}{B:List (Addr×Obj)}{s:af}{σ:St}{H:Hp}{x:Str}{u:Value}{pos:Pos}{Q:Value->af->Prop}(I:Inv X B σ H s)(hg:Gl X x)(J:X.mg x=none)(hv:bv x=some u)(h:Q u s)
  (hn:x ≠ "__name__":=by decide) (hd:(x==("__debug__":Str))=false:=by decide):wpAny (model X.prog X.w) X.A (eval (.Name x pos) X.env) Q E s:=by
 obtain⟨mb,G,F⟩:=I.mod.blt
 exact fI I.ok.kind hg (Calls.loadGlobal_builtin (by rw[I.ok.glob];exact I.mod.glob.keeps I.bk) J (by rw[I.ok.blt];exact G.keeps I.bk) ((F x hn).trans hv) h) hd
theorem al7 {x:Str}{v:V}{u:Value}{pos:Pos}(hg:Gl X x)(B:X.mg x=some u)(r:RelV v u)(hd:(x==("__debug__":Str))=false:=by decide):PE X (.Name x pos) (tC v) :=
 λ _ _ _ H _ I h=>aB2 I hg B ⟨v,H,I,r,h⟩ hd
theorem bA9 {x:Str}{v:V}{u:Value}{pos:Pos}(hg:Gl X x)(B:X.mg x=none)(hv:bv x=some u)(r:RelV v u)(hn:x ≠ "__name__":=by decide)(hd:(x==("__debug__":Str))=false:=by decide):PE X (.Name x pos) (tC v) :=
 λ _ _ _ H _ I h=>ay1 I hg B hv ⟨v,H,I,r,h⟩ hn hd
variable {a b:Expr} {ta tb:TE} {pos:Pos}
def PC (X:Cx)(op:CmpOp)(a b:Expr)(t:TE):Prop :=
 ∀(pins:List (Addr×Obj)) (s:af) (σ:St) (H:Hp) (Q:VK),Inv X pins σ H s->t σ H Q ->
  wpAny (model X.prog X.w) X.A (eval a X.env) (λ v s₁=>wpAny (model X.prog X.w) X.A (eval b X.env) (λ u s₂=>wpAny (model X.prog X.w) X.A (dA op v u) (EP X pins σ Q) X.xe s₂) X.xe s₁) X.xe s
theorem aG8 (b:Expr){op:CmpOp}(h:op≠.In)(B:op≠.NotIn):c9 op b=false:=by
 have e1:(op==CmpOp.In)=false:=by cases op<;>first|rfl|exact absurd rfl h
 have e2:(op==CmpOp.NotIn)=false:=by cases op<;>first|rfl|exact absurd rfl B
 cases b<;>simp[c9,e1,e2]
def cc5 (ta:TE):TE:=λ σ H Q=>ta σ H λ x H1=>Q (.bl (decide (x=.non))) H1
def bL0 (ta:TE):TE:=λ σ H Q=>ta σ H λ x H1=>Q (.bl (!decide (x=.non))) H1
theorem RelV.none_iff {x:V}{v:Value}(r:RelV x v):(v==Value.none)=decide (x=.non):=by
 cases x with
 | non=>cases r;rfl
 | bl _=>cases r;rfl
 | int _=>obtain⟨t,rfl⟩:=r;rfl
 | str _=>obtain⟨t,rfl⟩:=r;rfl
 | byt _=>obtain⟨t,rfl⟩:=r;rfl
 | flt _=>obtain⟨t,rfl⟩:=r;rfl
 | ref _=>cases r;rfl
 | ty _=>cases r;rfl
theorem bi4 {j pos'}(ha:PE X a ta):PC X .Is a (.Constant .none j pos') (cc5 ta):=by
 intro B s σ H Q I h
 refine thn (ha B s σ H _ I h) λ v s1 ⟨x,F,G,r1,J⟩=>?_
 exact je (is_none_gen ⟨.bl _,F,G,by rw[r1.none_iff];rfl,J⟩)
theorem aT8 {j pos'}(ha:PE X a ta):PC X .IsNot a (.Constant .none j pos') (bL0 ta):=by
 intro B s σ H Q I h
 refine thn (ha B s σ H _ I h) λ v s1 ⟨x,F,G,r1,J⟩=>?_
 exact je (isnot_none_gen ⟨.bl _,F,G,by rw[r1.none_iff];rfl,J⟩)
def tB (t:TE):TT:=λ σ H Q=>t σ H λ x H1=>∃ c,x=.bl c/\Q c H1
theorem bj6 {op:CmpOp}{t:TE}(h:PC X op a b t)(F:c9 op b=false:=by first|exact aG8 _ (by decide) (by decide)|rfl):PE X (.Compare a [op] [b] pos) t:=λ B s σ H Q I hw=>wpAny_Compare1 (h B s σ H Q I hw) F
theorem bm8 {op:CmpOp}{t:TE}(h:PC X op a b t)(F:c9 op b=false:=by first|exact aG8 _ (by decide) (by decide)|rfl):PT X (.Compare a [op] [b] pos) (tB t):=by
 intro B s σ H Q I hw
 refine il (thn (h B s σ H _ I hw) λ v s1 F=>thn F λ u s2 G=>thn G λ c s3 ⟨x,J,Y,r1,Z⟩=>?_) F
 obtain⟨d,rfl,q⟩:=Z
 cases r1
 exact ci ⟨J,Y,q⟩
theorem aJ8 {e:Expr}{t:TE}(h:PE X e t)(he:∀ B,dU e X.env B=(do let v <- B;standAt e.pos;jD [v] (truthy v)):=by intro _;rfl):PT X e (tB t):=by
 intro F s σ H Q I hw
 refine isTrue_plain (thn (h F s σ H _ I hw) λ v s1 ⟨x,G,J,r1,Y⟩=>?_) (he _)
 obtain⟨d,rfl,q⟩:=Y
 cases r1
 exact ci ⟨G,J,q⟩
variable {tA tB':TT} {rest:List Expr}
def cd7 (t u:TT):TT:=λ σ H Q=>t σ H λ c H1=>if c=true then u σ H1 Q else Q false H1
def tOr (t u:TT):TT:=λ σ H Q=>t σ H λ c H1=>if c=true then Q true H1 else u σ H1 Q
def cd6 (t:TT):TT:=λ σ H Q=>t σ H λ c H1=>Q (!c) H1
theorem bA2 (ha:PT X a tA):PW X (.BoolOp .And [a] pos) tA:=by
 intro F B s σ H Q I h
 refine isTrue_and (thn (ha B s σ H Q I h) λ c s1 e=>?_)
 cases c with
 | true=>exact isTrue_and_nil e
 | false=>exact e
theorem bQ8 (ha:PT X a tA):PW X (.BoolOp .Or [a] pos) tA:=by
 intro F B s σ H Q I h
 refine isTrue_or (thn (ha B s σ H Q I h) λ c s1 e=>?_)
 cases c with
 | false=>exact isTrue_or_nil e
 | true=>exact e
theorem bm7 (ha:PT X a tA)(hb:PW X (.BoolOp .And (b::rest) pos) tB'):PW X (.BoolOp .And (a::b::rest) pos) (cd7 tA tB'):=by
 intro Y B s σ H Q I h
 refine isTrue_and (thn (ha B s σ H _ I h) λ c s1 ⟨F,G,J⟩=>?_)
 cases c with
 | true=>exact hb Y B s1 σ F Q G J
 | false=>exact⟨F,G,J⟩
theorem bD0 (ha:PT X a tA)(hb:PW X (.BoolOp .Or (b::rest) pos) tB'):PW X (.BoolOp .Or (a::b::rest) pos) (tOr tA tB'):=by
 intro Y B s σ H Q I h
 refine isTrue_or (thn (ha B s σ H _ I h) λ c s1 ⟨F,G,J⟩=>?_)
 cases c with
 | true=>exact⟨F,G,J⟩
 | false=>exact hb Y B s1 σ F Q G J
theorem bI8 (ha:PT X a tA):PT X (.UnaryOp .Not a pos) (cd6 tA):=by
 intro B s σ H Q I h
 exact isTrue_not (ha B s σ H (λ c F=>Q (!c) F) I h)
def bP6 (ta tb:TE):TE:=λ σ H Q=>ta σ H λ x H1=>∃ c,x=.bl c/\if c=true then tb σ H1 Q else Q (.bl false) H1
def ce3 (ta tb:TE):TE:=λ σ H Q=>ta σ H λ x H1=>∃ c,x=.bl c/\if c=true then Q (.bl true) H1 else tb σ H1 Q
def bP1 (ta:TE):TE:=λ σ H Q=>ta σ H λ x H1=>∃ c,x=.bl c/\Q (.bl (!c)) H1
theorem aI6 {op}{t:TE}(h:PE X a t):PE X (.BoolOp op [a] pos) t:=λ B s σ H Q I hw=>BoolOp_one (h B s σ H Q I hw)
theorem aS2 (ha:PE X a ta)(hb:PE X (.BoolOp .And (b::rest) pos) tb):PE X (.BoolOp .And (a::b::rest) pos) (bP6 ta tb):=by
 intro B s σ H Q I h
 refine BoolOp_and (thn (ha B s σ H _ I h) λ v s1 ⟨x,G,J,r1,F⟩=>?_)
 obtain⟨c,rfl,F⟩:=F
 cases r1
 refine ci ?_
 cases c with
 | true=>exact hb B s1 σ G Q J F
 | false=>exact⟨.bl false,G,J,rfl,F⟩
theorem bz1 (ha:PE X a ta)(hb:PE X (.BoolOp .Or (b::rest) pos) tb):PE X (.BoolOp .Or (a::b::rest) pos) (ce3 ta tb):=by
 intro B s σ H Q I h
 refine BoolOp_or (thn (ha B s σ H _ I h) λ v s1 ⟨x,G,J,r1,F⟩=>?_)
 obtain⟨c,rfl,F⟩:=F
 cases r1
 refine ci ?_
 cases c with
 | false=>exact hb B s1 σ G Q J F
 | true=>exact⟨.bl true,G,J,rfl,F⟩
theorem bQ3 (ha:PE X a ta):PE X (.UnaryOp .Not a pos) (bP1 ta):=by
 intro B s σ H Q I h
 refine UnaryOp_ (thn (ha B s σ H _ I h) λ v s1 ⟨x,G,J,r1,F⟩=>?_)
 obtain⟨c,rfl,F⟩:=F
 cases r1
 exact not_of (ci ⟨.bl (!c),G,J,rfl,F⟩)
def tIf (t:TT)(ta tb:TE):TE:=λ σ H Q=>t σ H λ c H1=>if c=true then ta σ H1 Q else tb σ H1 Q
theorem bg2 {c:Expr}(hc:PT X c tA)(ha:PE X a ta)(hb:PE X b tb):PE X (.IfExp c a b pos) (tIf tA ta tb):=by
 intro B s σ H Q I h
 refine wpAny_IfExp (thn (hc B s σ H _ I h) λ d s1 ⟨F,G,J⟩=>?_)
 cases d with
 | true=>exact ha B s1 σ F Q G J
 | false=>exact hb B s1 σ F Q G J
end
def SqL (K:ac)(H:Hp)(a:Addr)(xs:List V):Prop :=
 Rd H a (.lst xs) \/
  ∃(o:Obj) (its:Array Value) (n:Nat),K.lookup a=some o/\o.cls=.type "list"/\o.dict=none/\o.data=.seq its n/\its.size<=aJ/\Vals xs its.toList
def SqT (K:ac)(H:Hp)(a:Addr)(xs:List V):Prop :=
 Rd H a (.tup xs) \/
  ∃(o:Obj) (its:Array Value) (n:Nat),K.lookup a=some o/\o.cls=.type "tuple"/\o.data=.seq its n/\its.size<=aJ/\Vals xs its.toList
noncomputable def cg6:Value->Option V
 | .none=>some .non
 | .bool b=>some (.bl b)
 | .int i _=>some (.int i)
 | .str x _=>some (.str x)
 | .bytes b _=>some (.byt b)
 | .float b _=>some (.flt b)
 | .ref a=>some (.ref a)
 | .type n=>some (.ty n)
 | _=>none
theorem RelV.abs {x:V}{u:Value}(r:RelV x u):cg6 u=some x:=by
 cases x with
 | non=>cases r;rfl
 | bl _=>cases r;rfl
 | int _=>obtain⟨t,rfl⟩:=r;rfl
 | str _=>obtain⟨t,rfl⟩:=r;rfl
 | byt _=>obtain⟨t,rfl⟩:=r;rfl
 | flt _=>obtain⟨t,rfl⟩:=r;rfl
 | ref _=>cases r;rfl
 | ty _=>cases r;rfl
theorem RelV.inj {x y:V}{u:Value}(r:RelV x u)(q:RelV y u):x=y:=ax (r.abs.symm.trans q.abs)
theorem Vals.inj:∀ {B ys:List V} {us:List Value},Vals B us->Vals ys us->B=ys
 | _,_,_,.nil,.nil=>rfl
 | _,_,_,.cons r t,.cons r' t'=>by rw[r.inj r',Vals.inj t t']
section
variable {X:Cx} {pins:List (Addr×Obj)} {σ:St} {H:Hp} {s:af} {a:Addr} {xs ys:List V}
theorem SqL.of {K:ac}(h:H a=some (.lst xs)):SqL K H a xs:=.inl (.inl h)
theorem SqT.of {K:ac}(h:H a=some (.tup xs)):SqT K H a xs:=.inl (.inl h)
theorem Inv.list (I:Inv X pins σ H s)(h:SqL X.K H a xs):∃ its:List Value,Vals xs its/\PlainL s.heap a its.toArray/\xs.length<=aJ:=by
 rcases h with h|⟨o,its,n,hk,hc,hd,hs,hz,r⟩
 ·obtain⟨z,its,n,r,e⟩:=h.ok I.hok
  exact⟨its,r,⟨_,n,e,rfl,rfl,rfl⟩,z⟩
 ·refine⟨its.toList,r,⟨o,n,I.kIn a o hk,hc,hd,by simpa using hs⟩,?_⟩
  have e:=r.length
  simp only[cM]at e
  omega
theorem Inv.tuple (I:Inv X pins σ H s)(h:SqT X.K H a xs):∃ its:List Value,Vals xs its/\IsTup s.heap a its.toArray/\xs.length<=aJ:=by
 rcases h with h|⟨o,its,n,hk,hc,hs,hz,r⟩
 ·obtain⟨z,its,r,p⟩:=h.ok I.hok
  exact⟨its,r,p,z⟩
 ·refine⟨its.toList,r,⟨o,I.kIn a o hk,hc,n,by simpa using hs⟩,?_⟩
  have e:=r.length
  simp only[cM]at e
  omega
theorem Inv.list_inj (I:Inv X pins σ H s)(h:SqL X.K H a xs)(h':SqL X.K H a ys):xs=ys:=by
 obtain⟨its,r,⟨o,n,e,_,_,d⟩,_⟩:=I.list h
 obtain⟨its',B,⟨F,G,e',_,_,d'⟩,_⟩:=I.list h'
 rw[e]at e';cases e'
 rw[d]at d'
 injection d' with d1 _
 have:its=its':=by simpa using congrArg jE d1
 subst this
 exact r.inj B
theorem Inv.tuple_inj (I:Inv X pins σ H s)(h:SqT X.K H a xs)(h':SqT X.K H a ys):xs=ys:=by
 obtain⟨its,r,⟨o,e,_,n,d⟩,_⟩:=I.tuple h
 obtain⟨its',B,⟨F,e',_,G,d'⟩,_⟩:=I.tuple h'
 rw[e]at e';cases e'
 rw[d]at d'
 injection d' with d1 _
 have:its=its':=by simpa using congrArg jE d1
 subst this
 exact r.inj B
end
noncomputable abbrev Cx.wish (X:Cx)(E:Value->af->Prop):Cx:={ X with xe:=E }
noncomputable abbrev Cx.nox (X:Cx):Cx:=X.wish λ _ _=>False
theorem Cx.Ok.wish {X:Cx}(ok:X.Ok)(E:Value->af->Prop):(X.wish E).Ok :=
 ⟨ok.mod,ok.kind,ok.glob,ok.blt,ok.above,ok.inj,ok.has,ok.cab,ok.hd,ok.frames,ok.stk,ok.exf,ok.bs,ok.bsz,ok.noex,ok.exfs,ok.funs,ok.frf⟩
theorem Cx.Ok.unwish {X:Cx}{E:Value->af->Prop}(ok:(X.wish E).Ok):X.Ok :=
 ⟨ok.mod,ok.kind,ok.glob,ok.blt,ok.above,ok.inj,ok.has,ok.cab,ok.hd,ok.frames,ok.stk,ok.exf,ok.bs,ok.bsz,ok.noex,ok.exfs,ok.funs,ok.frf⟩
section
variable {X:Cx} {pins:List (Addr×Obj)} {σ:St} {H:Hp} {s:af} {E:Value->af->Prop}
theorem Inv.wish (I:Inv X pins σ H s)(E:Value->af->Prop):Inv (X.wish E) pins σ H s:=⟨I.ok.wish E,I.os,I.bare,I.base,I.loc,I.cell,I.free,I.freeC,I.pin,I.hok,I.len⟩
theorem Inv.unwish (I:Inv (X.wish E) pins σ H s):Inv X pins σ H s:=⟨I.ok.unwish,I.os,I.bare,I.base,I.loc,I.cell,I.free,I.freeC,I.pin,I.hok,I.len⟩
theorem SP.unwish {D:Ends}{f:Flow}{s':af}(h:SP (X.wish E) pins D f s'):SP X pins D f s':=by
 cases f with
 | next=>obtain⟨σ',H',I,q⟩:=h;exact⟨σ',H',I.unwish,q⟩
 | brk=>obtain⟨σ',H',I,q⟩:=h;exact⟨σ',H',I.unwish,q⟩
 | cont=>obtain⟨σ',H',I,q⟩:=h;exact⟨σ',H',I.unwish,q⟩
 | ret u=>obtain⟨v,σ',H',I,r,q⟩:=h;exact⟨v,σ',H',I.unwish,r,q⟩
theorem PT.nox {e:Expr}{t:TT}(h:PT X.nox e t):PT X e t:=λ B s σ H Q I hw =>
 a8 (h B s σ H Q (I.wish _) hw) (λ _ _ ⟨H',F,q⟩=>⟨H',F.unwish,q⟩) λ _ _ z=>bj z
theorem PSs.nox {st:List Stmt}{t:TS}(h:PSs X.nox st t):PSs X st t:=λ B s σ H D I hw =>
 a8 (h B s σ H D (I.wish _) hw) (λ _ _ q=>q.unwish) λ _ _ z=>bj z
end
section
variable {X:Cx} {st:Stmt} {rest:List Stmt} {t u:TS} {e:Expr} {te:TE} {pos:Pos}
def bQ2:TS:=λ D σ H=>D.nx σ H
noncomputable def cc3 (t u:TS):TS:=λ D σ H=>t { D with nx:=u D } σ H
theorem as7:PSs X [] bQ2:=λ _ _ σ H _ I h=>cY ⟨σ,H,I,h⟩
theorem zF (J:PS X st t)(G:PSs X rest u):PSs X (st::rest) (cc3 t u):=by
 intro B s σ H D I h
 refine jQ (thn (J B s σ H { D with nx:=u D } I h) λ f s1 q=>?_)
 cases f with
 | next =>
  obtain⟨σ',H',F,q⟩:=q
  exact G B s1 σ' H' D F q
 | ret v=>exact q
 | brk=>exact q
 | cont=>exact q
theorem aY5 (F:PS X st t):PSs X [st] t:=by
 intro B s σ H D I h
 refine jQ (thn (F B s σ H D I h) λ f s1 q=>?_)
 cases f with
 | next=>exact cY q
 | ret v=>exact q
 | brk=>exact q
 | cont=>exact q
def bF4:TS:=λ D σ H=>D.ct σ H
theorem aD6:PS X (.Continue pos) bF4:=λ _ _ σ H _ I h=>wpAny_Continue ⟨σ,H,I,h⟩
theorem Inv.quiet {B:List (Addr×Obj)}{σ:St}{H:Hp}{s:af}(I:Inv X B σ H s):interactive X.env=false:=by simp[interactive,I.ok.kind]
def bK6 (te:TE):TS:=λ D σ H=>te σ H λ _ H1=>D.nx σ H1
theorem aY0 (he:PE X e te)(hs:eK e none pos.line X.env=pure false:=by rfl):PS X (.Expr e pos) (bK6 te):=by
 intro B s σ H D I h
 exact wpAny_Expr_any (thn (he B s σ H _ I h) λ v s1 ⟨x,F,G,r1,J⟩=>⟨σ,F,G,J⟩) I.quiet hs
def ce0 (te:TE):TS:=λ D σ H=>te σ H D.rt
theorem aH3 (he:PE X e te):PS X (.Return (some e) pos) (ce0 te):=by
 intro B s σ H D I h
 exact wpAny_Return_some (thn (he B s σ H _ I h) λ v s1 ⟨x,F,G,r1,J⟩=>⟨x,σ,F,G,r1,J⟩)
def bF8:TS:=λ D _ H=>D.rt .non H
theorem bt8:PS X (.Return none pos) bF8:=λ _ _ σ H _ I h=>wpAny_Return_none ⟨.non,σ,H,I,rfl,h⟩
def cd9 (c:TT)(t u:TS):TS:=λ D σ H=>c σ H λ b H1=>if b=true then t D σ H1 else u D σ H1
theorem ba7 {c:Expr}{a b:List Stmt}{J:TT}(hc:PT X c J)(ha:PSs X a t)(hb:PSs X b u):PS X (.If c a b pos) (cd9 J t u):=by
 intro B s σ H D I h
 refine wpAny_If (thn (hc B s σ H _ I h) λ d s1 ⟨F,G,Y⟩=>?_)
 cases d with
 | true=>exact ha B s1 σ F D G Y
 | false=>exact hb B s1 σ F D G Y
def bm5:TS:=λ _ _ _=>False
theorem bf7:PS X st bm5:=λ _ _ _ _ _ _ h=>h.elim
theorem z9 {B:List Stmt}:PSs X B bm5:=λ _ _ _ _ _ _ h=>h.elim
end
abbrev TG:=V->St->Hp->(St->Hp->Prop)->Prop
abbrev TGs:=List V->St->Hp->(St->Hp->Prop)->Prop
def PG (X:Cx)(target:Expr)(t:TG):Prop :=
 ∀(pins:List (Addr×Obj)) (s:af) (σ:St) (H:Hp) (v:V) (u:Value) (Q:St->Hp->Prop),Inv X pins σ H s->RelV v u->t v σ H Q ->
  wpAny (model X.prog X.w) X.A (gJ target X.env u) (λ _ s'=>∃ σ' H',Inv X pins σ' H' s'/\Q σ' H') X.xe s
def PGs (X:Cx)(ts:List Expr)(t:TGs):Prop :=
 ∀(pins:List (Addr×Obj)) (s:af) (σ:St) (H:Hp) (vs:List V) (us:List Value) (Q:St->Hp->Prop),Inv X pins σ H s->Vals vs us->t vs σ H Q ->
  wpAny (model X.prog X.w) X.A (assignInOrder ((cB ts X.env).map (·.2)) us) (λ _ s'=>∃ σ' H',Inv X pins σ' H' s'/\Q σ' H') X.xe s
abbrev bS8:=V->V->V->Hp->(Hp->Prop)->Prop
def bT8 (X:Cx)(t:bS8):Prop :=
 ∀(pins:List (Addr×Obj)) (s:af) (σ:St) (H:Hp) (o i v:V) (ov iv u:Value) (Q:Hp->Prop),Inv X pins σ H s->RelV o ov->RelV i iv->RelV v u->t o i v H Q ->
  wpAny (model X.prog X.w) X.A (setItem ov iv u) (λ _ s'=>∃ H',Inv X pins σ H' s'/\Q H') X.xe s
abbrev TIp:=V->V->Hp->VK->Prop
def PIp (X:Cx)(op:ku)(t:TIp):Prop :=
 ∀(pins:List (Addr×Obj)) (s:af) (σ:St) (H:Hp) (x y:V) (v u:Value) (Q:VK),Inv X pins σ H s->RelV x v->RelV y u->t x y H Q ->
  wpAny (model X.prog X.w) X.A (inplaceOp op v u) (EP X pins σ Q) X.xe s
section
variable {X:Cx} {pos:Pos}
def av9 (i:Nat):TG:=λ v σ H Q=>Q (σ.set i (some v)) H
theorem aR0 {i:Nat}{x:Str}(hN:X.N.Nodup)(F:X.N[i]?=some x)(hx:Loc X.env.scope x)(G:X.fn x=true\/X.env.scope.names.lookup x=some .local:=by first|exact .inl rfl|exact .inr rfl|assumption):PG X (.Name x pos) (av9 i):=by
 intro B s σ H v u Q I r h
 exact jF (af4 I hN F hx r (λ s' J=>⟨_,H,J,h⟩) G)
def cd4:TGs:=λ vs σ H Q=>vs=[]/\Q σ H
def bE8 (t:TG)(u:TGs):TGs:=λ vs σ H Q=>∃ v r,vs=v::r/\t v σ H λ σ' H'=>u r σ' H' Q
theorem bB3:PGs X [] cd4:=by
 intro B s σ H vs us Q I r h
 obtain⟨e,h⟩:=h
 subst e
 cases r
 exact assignInOrder_nil ⟨σ,H,I,h⟩
theorem bh5 {e:Expr}{es:List Expr}{t:TG}{u:TGs}(F:PG X e t)(J:PGs X es u)
  (hs:(cB (e::es) X.env).map (·.2)=gJ e X.env::(cB es X.env).map (·.2):=by rfl):PGs X (e::es) (bE8 t u):=by
 intro B s σ H vs us Q I r h
 obtain⟨v,vr,e1,h⟩:=h
 subst e1
 cases r with
 | cons r rr =>
  rw[hs]
  refine assignInOrder_cons (thn (F B s σ H _ _ _ I r h) λ _ s1 ⟨σ1,Y,Z,G⟩=>?_)
  exact J B s1 σ1 Y _ _ Q Z rr G
def bX6 (K:ac)(n:Nat)(t:TGs):TG:=λ v σ H Q=>∃ a xs,v=.ref a/\SqT K H a xs/\xs.length=n/\t xs σ H Q
theorem bG2 {es:List Expr}{k:Nat}{t:TGs}{n:Nat}(hc:X.calm=true)(h:PGs X es t)
  (hn:(cB es X.env).length=n:=by rfl) (F:(cB es X.env).findIdx? (·.1)=none:=by rfl):PG X (.Tuple es k pos) (bX6 X.K n t):=by
 intro B s σ H v u Q I r hw
 obtain⟨a,Y,e1,Z,hl,hw⟩:=hw
 subst e1
 cases r
 obtain⟨its,G,J,hz⟩:=I.tuple Z
 refine assign_Tuple_tuple (I.ok.hd hc) J (by simp[hn,<-hl,G.length]) F λ h' hx=>?_
 have I1:Inv X B σ H { s with heap:=h' }:=I.kept (t':=s.toks) λ b o e=>hx b o (aC (aD e)) e
 exact h B _ σ H Y _ Q I1 (by simpa using G) hw
def ce4 (to ti:TE)(t:bS8):TG:=λ v σ H Q=>to σ H λ o H1=>ti σ H1 λ i H2=>t o i v H2 λ H3=>Q σ H3
theorem bI0 {o i:Expr}{Y J:TE}{t:bS8}(ho:PE X o Y)(hi:PE X i J)(hs:bT8 X t)
  (ha:∀ v,gJ (.Subscript o i pos) X.env v=(do
   let F <- jD [v] (eval o X.env)
   let G <- jD [v,F] (eval i X.env)
   standAt pos
   jD [v,F,G] (setItem F G v)
   release [v,F,G] []):=by intro _;rfl):PG X (.Subscript o i pos) (ce4 Y J t):=by
 intro B s σ H v u Q I r h
 rw[ha]
 refine ae (b8 (thn (ho B s σ H _ I h) λ F s1 ⟨x,H1,I1,r1,Z⟩=>?_))
 refine ae (b8 (thn (hi B s1 σ H1 _ I1 Z) λ G s2 ⟨y,H2,I2,r2,q2⟩=>?_))
 refine ae (jf (ae (b8 (thn (hs B s2 σ H2 x y v F G u _ I2 r1 r2 r q2) λ _ s3 ⟨H3,I3,q3⟩=>?_))))
 exact wpAny_release ⟨σ,H3,I3,q3⟩
def bc5 (te:TE)(g:TG):TS:=λ D σ H=>te σ H λ x H1=>g x σ H1 D.nx
theorem aX5 {tg e:Expr}{F:TE}{g:TG}(he:PE X e F)(hg:PG X tg g)(hs:swapsWithSole [tg] e pos.line X.env=pure false:=by rfl)(hw:gf [tg] e X.env=pure none:=by rfl)
  (G:(cB [tg] X.env).map (·.2)=[gJ tg X.env]:=by rfl):PS X (.Assign [tg] e pos) (bc5 F g):=by
 intro B s σ H D I h
 refine wpAny_Assign_stores (thn (he B s σ H _ I h) λ v s1 ⟨x,J,Y,r1,Z⟩=>?_) hs hw
 rw[G]
 exact thn (hg B s1 σ J x v _ Y r1 Z) λ _ s2 q=>q
theorem bn0 {i:Nat}{x:Str}{e:Expr}{G:TE}{B:Pos}(hN:X.N.Nodup)(Z:X.N[i]?=some x)(hx:Loc X.env.scope x)(he:PE X e G)(hs:eK e (some (.Name x B)) pos.line X.env=pure false:=by rfl)(J:X.fn x=true\/X.env.scope.names.lookup x=some .local:=by first|exact .inl rfl|exact .inr rfl|assumption) :
  PS X (.Assign [.Name x B] e pos) (bc5 G (av9 i)):=by
 intro F s σ H D I h
 refine wpAny_Assign_Name (thn (he F s σ H _ I h) λ v s1 ⟨y,H1,I1,r1,Y⟩=>?_) hs
 exact af4 I1 hN Z hx r1 (λ s2 I2=>⟨_,H1,I2,Y⟩) J
def cb9 (i:Nat)(te:TE)(ti:TIp):TS:=λ D σ H=>∃ x,σ[i]?=some (some x)/\te σ H λ y H1=>ti x y H1 λ z H2=>D.nx (σ.set i (some z)) H2
theorem bD3 {i:Nat}{x:Str}{e:Expr}{Y:TE}{op:ku}{G:TIp}{F:Pos}(hN:X.N.Nodup)(J:X.N[i]?=some x)(hx:Loc X.env.scope x)(he:PE X e Y)(ho:PIp X op G)(Z:X.fn x=true\/X.env.scope.names.lookup x=some .local:=by first|exact .inl rfl|exact .inr rfl|assumption) :
  PS X (.AugAssign (.Name x F) op e pos) (cb9 i Y G):=by
 intro B s σ H D I h
 obtain⟨v,e1,h⟩:=h
 obtain⟨m,hn,hl⟩:=I.loc
 have vis:Vis X.env.scope x:=by rcases hx with k|k;exact .inl k;exact .inr (.inl k)
 obtain⟨u,r,l⟩:=hl i x v J e1 vis
 refine wpAny_AugAssign_Name ?_
 have go:wpAny (model X.prog X.w) X.A (eval e X.env) (λ w s₂=>wpAny (model X.prog X.w) X.A (inplaceOp op u w) (λ r s₃=>wpAny (model X.prog X.w) X.A (fD X.env x r) (λ _=>SP X B D .next) X.xe s₃) X.xe s₂) X.xe s:=by
  refine thn (he B s σ H _ I h) λ w s1 ⟨y,H1,I1,r1,q1⟩=>?_
  refine thn (ho B s1 σ H1 v y u w _ I1 r r1 q1) λ z s2 ⟨zv,H2,I2,r2,q2⟩=>?_
  exact af4 I2 hN J hx r2 (λ s3 I3=>⟨_,H2,I3,q2⟩) Z
 rcases l with⟨hk,hm⟩|⟨hk,c,hc,hcell⟩
 ·exact iE I.ok.kind hk hn hm go
 ·rcases hk with hk|hk
  ·exact i8 I.ok.kind hk hc hcell go
  ·rcases hx with k|k
   ·have:X.env.scope.names.lookup x=some .free:=hk
    rw[k]at this;cases this
   ·have:X.env.scope.names.lookup x=some .free:=hk
    rw[k]at this;cases this
def ipI (f:Int->Int->Int):TIp:=λ x y H Q=>∃ i j,x=.int i/\y=.int j/\Q (.int (f i j)) H
theorem bM9:PIp X .Add (ipI λ i j=>i+j):=by
 intro B s σ H x y v u Q I r1 r2 h
 obtain⟨i,j,e1,e2,q⟩:=h
 subst e1;subst e2
 obtain⟨t,rfl⟩:=r1
 obtain⟨t',rfl⟩:=r2
 exact iadd_int ⟨.int _,H,I.tok _,⟨_,rfl⟩,q⟩
end
section
variable {X:Cx} {pos:Pos}
def aZ0 (c:TT)(tb:TS):TS:=λ D σ H=>∃ W:Nat->St->Hp->Prop,(∃ m,W m σ H)/\∀ m σ H,W m σ H ->
 c σ H λ b H1=>if b=true then ∃ N:St->Hp->Prop,(∀ σ' H',N σ' H'->∃ m',m'<m/\W m' σ' H')/\tb { D with nx:=N,ct:=N,bk:=D.nx } σ H1 else D.nx σ H1
theorem aJ2 {c:Expr}{body:List Stmt}{tc:TT}{tb:TS}(hp:iW (model X.prog X.w) X.A X.env X.xe)(hc:PT X c tc)(hb:PSs X body tb):PS X (.While c body [] pos) (aZ0 tc tb):=by
 intro B s σ H D I h
 obtain⟨W,⟨m0,w0⟩,turn⟩:=h
 refine wpAny_While (codeAny_whileLoop (λ n s'=>∃ σ' H',Inv X B σ' H' s'/\W n σ' H') ?_ m0 ⟨σ,H,I,w0⟩)
 rintro n s1 ⟨σ1,H1,I1,w1⟩
 refine cH hp (thn (hc B s1 σ1 H1 _ I1 (turn n σ1 H1 w1)) λ b s2 ⟨H2,I2,q2⟩=>?_)
 cases b with
 | true =>
  obtain⟨N,hN,q2⟩:=q2
  rw[if_pos rfl]
  refine cH hp (thn (hb B s2 σ1 H2 _ I2 q2) λ f s3 q3=>?_)
  cases f with
  | next =>
   obtain⟨σ3,F,J,Y⟩:=q3
   obtain⟨m',Z,G⟩:=hN σ3 F Y
   exact⟨m',Z,σ3,F,J,G⟩
  | cont =>
   obtain⟨σ3,F,J,Y⟩:=q3
   obtain⟨m',Z,G⟩:=hN σ3 F Y
   exact⟨m',Z,σ3,F,J,G⟩
  | brk=>exact q3
  | ret v=>exact q3
 | false =>
  rw[if_neg aR]
  exact cY ⟨σ1,H2,I2,q2⟩
end
structure It where
 go:Nat->Hp->Prop
 yld:Nat->Hp->V->Hp->Prop
 stop:Nat->Hp->Prop
def FpOk (X:Cx)(pins:List (Addr×Obj))(H:Hp)(b:Addr):Prop :=
 H b=none/\b≠X.env.locals/\b ∉ X.fs/\(b∈X.ex\/X.s₀.heap.objs.size<=b)/\(∀ x c,X.env.cells.lookup x=some c->c≠b)/\∀ p∈X.pn++pins,p.1≠b
theorem Inv.fpOk {X:Cx}{B:List (Addr×Obj)}{σ:St}{H H':Hp}{s:af}{b:Addr}(I:Inv X B σ H s)(hb:s.heap.objs.size<=b)(hn:H' b=none):FpOk X B H' b:=by
 refine⟨hn,jG (ay I.lt hb),I.nofs hb,.inr (am I.sz hb),λ x c e z=>?_,λ p hp z=>?_⟩
 ·obtain⟨v,q⟩:=I.cell x c e
  exact absurd (ay q.lt (by rw[z];exact hb)) (bz _)
 ·exact absurd (ay (aD (I.pin p hp).1) (by rw[z];exact hb)) (bz _)
structure Turn (P:az)(w:World)(K:ac)(tg:Expr)(J:It)(fp:List Addr)(it:Addr)(tn:Nat->Heap->Prop):Prop where
 mem:it∈fp
 obj:∀ i h,tn i h->∀ b∈fp,∃ o,h.get? b=some o/\∀ v,o.data≠.cell v
 keep:∀ i h h',tn i h->(∀ b∈fp,∀ o,h.get? b=some o->h'.get? b=some o)->tn i h'
 item:∀(X:Cx),X.prog=P->X.w=w->X.K=K->X.calm=true->∀(i:Nat) (pins:List (Addr×Obj)) (s:af) (σ:St) (H:Hp) (E:Value->af->Prop),Inv X pins σ H s->(∀ b∈fp,FpOk X pins H b)->tn i s.heap->J.go i H ->
  wpAny (model P w) X.A (jR (.ref it)) (λ r s1=>∃ u,r=some u /\
   wpAny (model P w) X.A (e8 tg (.ref it) u) (λ _ s2=>∃ x H',Inv X pins σ H' s2/\RelV x u/\J.yld i H x H'/\tn (i+1) s2.heap/\∀ b∈fp,H' b=none) E s1) E s
 done:∀(X:Cx),X.prog=P->X.w=w->X.K=K->X.calm=true->∀(i:Nat) (pins:List (Addr×Obj)) (s:af) (σ:St) (H:Hp) (E:Value->af->Prop),Inv X pins σ H s->(∀ b∈fp,FpOk X pins H b)->tn i s.heap->J.stop i H ->
  wpAny (model P w) X.A (jR (.ref it)) (λ r s1=>r=none/\Inv X pins σ H s1) E s
 self:∀(A:aN) (i:Nat) (s:af) (Q:Value->af->Prop) (E:Value->af->Prop),tn i s.heap->Q (.ref it) s->wpAny (model P w) A (kW (.ref it)) Q E s
abbrev TI:=St->Hp->(It->Hp->Prop)->Prop
def PIE (X:Cx)(pins:List (Addr×Obj))(σ:St)(tg:Expr)(R:It->Hp->Prop)(itv:Value)(s2:af):Prop :=
 ∃(it:Addr) (fp:List Addr) (tn:Nat->Heap->Prop) (J:It) (H':Hp),itv=.ref it/\Inv X pins σ H' s2/\Turn X.prog X.w X.K tg J fp it tn/\tn 0 s2.heap/\(∀ b∈fp,FpOk X pins H' b)/\R J H'
def PI (X:Cx)(tg iter:Expr)(wi:TI):Prop :=
 ∀(pins:List (Addr×Obj)) (s:af) (σ:St) (H:Hp) (R:It->Hp->Prop),Inv X pins σ H s->wi σ H R ->
  wpAny (model X.prog X.w) X.A (eval iter X.env) (λ v s1=>wpAny (model X.prog X.w) X.A (kW v) (PIE X pins σ tg R) X.xe s1) X.xe s
theorem ba9 {M : Model} {A : Around} {E : Value -> Shared -> Prop} {s : Shared} {tg : Expr} {it : Addr} {u : Value} {o : Obj} {n : String} {vs : Array Value} {Q : Unit -> Shared -> Prop} (ho : s.heap.get? it = some o) (hc : o.cls = .type n) (hd : o.data = .fields vs)
    (hn : ["enumerate", "zip", "dict_itemiterator", "dict_reverseitemiterator", "odict_iterator", "itertools.zip_longest", "itertools.pairwise"].contains n = false) (hQ : Q () s) : wpAny M A (e8 tg (.ref it) u) Q E s := by
  unfold e8
  cases tg <;> first
    | exact ao hQ
    | (cases u <;> first
        | exact ao hQ
        | (refine ae (wpAny_load ho ?_)
           rw[hc, hd]
           show wpAny M A (if(["enumerate", "zip", "dict_itemiterator", "dict_reverseitemiterator", "odict_iterator", "itertools.zip_longest", "itertools.pairwise"].contains n && vs[0]? == some (rawInt _)) = true then _ else _) Q E s
           rw[if_neg (by intro h; rw[hn, kz]at h; cases h)]
           exact ao hQ))
noncomputable def Itl (K:ac)(a:Addr):It :=
 ⟨λ i H=>∃ xs x,SqL K H a xs/\xs[i]?=some x,λ i H x H'=>H'=H/\∀ xs,SqL K H a xs->xs[i]?=some x,λ i H=>∃ xs,SqL K H a xs/\xs.length<=i⟩
noncomputable def Itt (K:ac)(a:Addr):It :=
 ⟨λ i H=>∃ xs x,SqT K H a xs/\xs[i]?=some x,λ i H x H'=>H'=H/\∀ xs,SqT K H a xs->xs[i]?=some x,λ i H=>∃ xs,SqT K H a xs/\xs.length<=i⟩
noncomputable def Itr (lo:Int)(n:Nat):It:=⟨λ i _=>i<n,λ i H x H'=>H'=H/\x=.int (lo+i),λ i _=>n<=i⟩
theorem aP5 {P:az}{w:World}{K:ac}{tg:Expr}(a it:Addr):Turn P w K tg (Itl K a) [it] it (λ i h=>h.IsListIter it a i) where
 mem:=by simp
 obj:=λ i h st b hb=>by
  have e:b=it:=by simpa using hb
  subst e
  obtain⟨o,e,c,d⟩:=st
  exact⟨o,e,λ v z=>by rw[d]at z;cases z⟩
 keep:=λ i h h' st k=>st.at λ o e=>k it (by simp) o e
 item:=by
  intro X hP hw hK hc i B s σ H E I G st hg
  subst hP hw hK
  obtain⟨xs,x,J,hx⟩:=hg
  obtain⟨its,Y,p,hz⟩:=I.list J
  obtain⟨u,hu,ru⟩:=Y.get hx
  obtain⟨f0,f1,f2,Z,f4,f5⟩:=G it (by simp)
  refine wpAny_pyNext_list_item st p.isList (x:=u) (by simpa using hu) λ h' F sb=>?_
  have I1:Inv X B σ H { s with heap:=h' }:=I.turned (t':=s.toks) (λ b o hb e=>(sb.2 b hb).trans e) f0 f1 Z f4 f5
  obtain⟨o,e,c,d⟩:=id F
  exact⟨u,rfl,ba9 (s:={ s with heap:=h' }) e c d (by decide) ⟨x,H,I1,ru,⟨rfl,λ ys hy=>by rw[I.list_inj hy J];exact hx⟩,F,λ b hb=>(G b hb).1⟩⟩
 done:=by
  intro X hP hw hK hc i B s σ H E I G st hg
  subst hP hw hK
  obtain⟨xs,J,hx⟩:=hg
  obtain⟨its,Y,p,hz⟩:=I.list J
  obtain⟨f0,f1,f2,Z,f4,f5⟩:=G it (by simp)
  have hl:=Y.length
  exact wpAny_pyNext_list_end (I.ok.hd hc) st p.isList (by simp;omega) λ h' eb=>⟨rfl,I.turned (t':=s.toks) (λ b o hb e=>eb b o hb e) f0 f1 Z f4 f5⟩
 self:=λ _ _ _ _ _ st h=>wpAny_pyIter_listiter st h
theorem aM8 {P:az}{w:World}{K:ac}{tg:Expr}(a it:Addr):Turn P w K tg (Itt K a) [it] it (λ i h=>h.IsTupleIter it a i) where
 mem:=by simp
 obj:=λ i h st b hb=>by
  have e:b=it:=by simpa using hb
  subst e
  obtain⟨o,e,c,d⟩:=st
  exact⟨o,e,λ v z=>by rw[d]at z;cases z⟩
 keep:=λ i h h' st k=>st.at λ o e=>k it (by simp) o e
 item:=by
  intro X hP hw hK hc i B s σ H E I G st hg
  subst hP hw hK
  obtain⟨xs,x,J,hx⟩:=hg
  obtain⟨its,Y,p,hz⟩:=I.tuple J
  obtain⟨u,hu,ru⟩:=Y.get hx
  obtain⟨f0,f1,f2,Z,f4,f5⟩:=G it (by simp)
  refine wpAny_pyNext_tuple_item st (show s.heap.IsTuple a its.toArray from p) (x:=u) (by simpa using hu) λ h' F sb=>?_
  have I1:Inv X B σ H { s with heap:=h' }:=I.turned (t':=s.toks) (λ b o hb e=>(sb.2 b hb).trans e) f0 f1 Z f4 f5
  obtain⟨o,e,c,d⟩:=id F
  exact⟨u,rfl,ba9 (s:={ s with heap:=h' }) e c d (by decide) ⟨x,H,I1,ru,⟨rfl,λ ys hy=>by rw[I.tuple_inj hy J];exact hx⟩,F,λ b hb=>(G b hb).1⟩⟩
 done:=by
  intro X hP hw hK hc i B s σ H E I G st hg
  subst hP hw hK
  obtain⟨xs,J,hx⟩:=hg
  obtain⟨its,Y,p,hz⟩:=I.tuple J
  obtain⟨f0,f1,f2,Z,f4,f5⟩:=G it (by simp)
  have hl:=Y.length
  exact wpAny_pyNext_tuple_end (I.ok.hd hc) st (show s.heap.IsTuple a its.toArray from p) (by simp;omega) λ h' eb=>⟨rfl,I.turned (t':=s.toks) (λ b o hb e=>eb b o hb e) f0 f1 Z f4 f5⟩
 self:=λ _ _ _ _ _ st h=>wpAny_pyIter_tupleiter st h
theorem aL9 {P:az}{w:World}{K:ac}{tg:Expr}(it:Addr)(J:Int)(n:Nat):Turn P w K tg (Itr J n) [it] it (λ i h=>IsRangeIter h it (J+(i:Nat)*1) ((n:Int) - (i:Nat)) 1) where
 mem:=by simp
 obj:=λ i h st b hb=>by
  have e:b=it:=by simpa using hb
  subst e
  exact⟨_,st,λ v z=>by
   have z':Data.fields _=Data.cell v:=z
   cases z'⟩
 keep:=λ i h h' st k=>k it (by simp) _ st
 item:=by
  intro X hP hw hK hc i B s σ H E I G st hg
  subst hP hw hK
  obtain⟨f0,f1,f2,Y,Z,f5⟩:=G it (by simp)
  have W:=Walks.range (prog:=X.prog) (w:=X.w) (I.ok.hd hc) it J 1 n
  refine W.item i s _ _ hg st λ v h' tk hv F kk=>?_
  obtain⟨t,rfl⟩:=hv
  have I1:Inv X B σ H { s with heap:=h',toks:=tk }:=I.turned (λ b o hb e=>kk b o (by simpa using hb) e) f0 f1 Y Z f5
  refine⟨_,rfl,ba9 (s:={ s with heap:=h',toks:=tk }) (n := "range_iterator") F rfl rfl (by decide) ⟨.int (J+i),H,I1,⟨t,?_⟩,⟨rfl,rfl⟩,F,λ b hb=>(G b hb).1⟩⟩
  rw[Int.mul_one]
 done:=by
  intro X hP hw hK hc i B s σ H E I G st hg
  subst hP hw hK
  obtain⟨f0,f1,f2,Y,Z,f5⟩:=G it (by simp)
  exact wpAny_pyNext_range_end (I.ok.hd hc) st (by have:n<=i:=hg;omega) λ h' eb=>⟨rfl,I.turned (t':=s.toks) (λ b o hb e=>eb b o hb e) f0 f1 Y Z f5⟩
 self:=λ _ _ _ _ _ st h=>wpAny_pyIter_rangeiter st h
section
variable {X:Cx} {tg:Expr}
def bu1 (K:ac)(tl:TE):TI:=λ σ H R=>tl σ H λ x H1=>∃ a,x=.ref a/\(∃ xs,SqL K H1 a xs)/\R (Itl K a) H1
def bY4 (K:ac)(tl:TE):TI:=λ σ H R=>tl σ H λ x H1=>∃ a,x=.ref a/\(∃ xs,SqT K H1 a xs)/\R (Itt K a) H1
theorem bu3 {l:Expr}{G:TE}(hl:PE X l G):PI X tg l (bu1 X.K G):=by
 intro B s σ H R I h
 refine thn (hl B s σ H _ I h) λ v s1 ⟨x,Z,F,r1,Y⟩=>?_
 obtain⟨a,e,⟨xs,J⟩,q⟩:=Y
 subst e
 cases r1
 obtain⟨its,rv,p,hz⟩:=F.list J
 refine d8 p.isList ?_
 refine⟨s1.heap.objs.size,[s1.heap.objs.size],_,_,Z,rfl,F.kept (t':=s1.toks) λ b o e=>au _ e,aP5 a _,⟨_,aX _ rfl,rfl,rfl⟩,λ b hb=>?_,q⟩
 have e:b=s1.heap.objs.size:=by simpa using hb
 subst e
 exact F.fpOk (ak _) (F.hok.fresh (ak _))
theorem bR0 {l:Expr}{G:TE}(hl:PE X l G):PI X tg l (bY4 X.K G):=by
 intro B s σ H R I h
 refine thn (hl B s σ H _ I h) λ v s1 ⟨x,Z,F,r1,Y⟩=>?_
 obtain⟨a,e,⟨xs,J⟩,q⟩:=Y
 subst e
 cases r1
 obtain⟨its,rv,p,hz⟩:=F.tuple J
 refine jp (show s1.heap.IsTuple a its.toArray from p) ?_
 refine⟨s1.heap.objs.size,[s1.heap.objs.size],_,_,Z,rfl,F.kept (t':=s1.toks) λ b o e=>au _ e,aM8 a _,⟨_,aX _ rfl,rfl,rfl⟩,λ b hb=>?_,q⟩
 have e:b=s1.heap.objs.size:=by simpa using hb
 subst e
 exact F.fpOk (ak _) (F.hok.fresh (ak _))
theorem be1 {G:List (Addr×Obj)}{σ:St}{H:Hp}{s:af}{R:It->Hp->Prop}{E:Value->af->Prop}{B F:Int}{t u v:Tok}{tk:Nat}(I:Inv X G σ H s)(Z:-(2^62)<=B)(h2:B<2^62)(h3:-(2^62)<=F)(Y:F<2^62)
  (q:R (Itr B (F - B).toNat) H):wpAny (model X.prog X.w) X.A (kW (.ref s.heap.objs.size)) (PIE X G σ tg R) E { s with heap:=s.heap.push { cls:=.type "range",data:=.fields #[.int B t,.int F u,.int 1 v] },toks:=tk }:=by
 refine wpAny_pyIter_range (IsRange.new ..) (small_one Z h2 h3 Y) ?_
 have J:Inv X G σ H { s with heap:=s.heap.push { cls:=.type "range",data:=.fields #[.int B t,.int F u,.int 1 v] },toks:=tk }:=I.kept λ b o e=>au _ e
 refine⟨(s.heap.push { cls:=.type "range",data:=.fields #[.int B t,.int F u,.int 1 v] }).objs.size,[(s.heap.push { cls:=.type "range",data:=.fields #[.int B t,.int F u,.int 1 v] }).objs.size],_,_,H,rfl,
  J.kept (t':=tk) λ b o e=>au _ e,aL9 _ B (F - B).toNat,?_,λ b hb=>?_,q⟩
 ·have e1:B+((0:Nat):Int)*1=B:=by simp
  have e2:(((F - B).toNat:Nat):Int) - ((0:Nat):Int)=kS B F 1:=by rw[rangeSize_one];split<;>omega
  show IsRangeIter _ _ (B+((0:Nat):Int)*1) ((((F - B).toNat:Nat):Int) - ((0:Nat):Int)) 1
  rw[e1,e2]
  exact aX _ rfl
 ·have e:b=(s.heap.push { cls:=.type "range",data:=.fields #[.int B t,.int F u,.int 1 v] }).objs.size:=by simpa using hb
  subst e
  exact J.fpOk (ak _) (J.hok.fresh (ak _))
def bN1 (ta:TA):TI:=λ σ H R=>ta σ H λ vs H1=>∃ j:Int,vs=[.int j]/\-(2^62)<=j/\j<2^62/\R (Itr 0 j.toNat) H1
theorem aS7 {a:Expr}{G:TA}{p pos:Pos}(hg:Gl X "range")(Y:X.mg "range"=none)(ha:PA X [a] G)(hs:br [a] X.env=[(false,eval a X.env)]:=by rfl):PI X tg (.Call (.Name "range" p) [a] [] pos) (bN1 G):=by
 intro B s σ H R I h
 refine Call_ (ay1 I hg Y boot_range (fw (thn (ha pos B s σ H _ I h) λ us s1 ⟨vs,Z,J,r1,F⟩=>?_) hs rfl))
 obtain⟨j,e,F,q2,q⟩:=F
 subst e
 cases r1 with
 | cons r rr =>
  cases rr
  obtain⟨t,rfl⟩:=r
  exact call_range_1 (be1 J (by omega) (by omega) F q2 (by simpa using q))
def bW7 (wi:TI)(g:TG)(tb:TS):TS:=λ D σ H=>wi σ H λ J H1=>∃ W:Nat->Nat->St->Hp->Prop,(∃ m,W 0 m σ H1)/\∀ i m σ H,W i m σ H ->
 (J.stop i H/\D.nx σ H)\/(J.go i H/\∃ N:St->Hp->Prop,(∀ σ' H',N σ' H'->∃ m',m'<m/\W (i+1) m' σ' H')/\∀ x H',J.yld i H x H'->g x σ H' λ σ2 H2=>tb { D with nx:=N,ct:=N,bk:=D.nx } σ2 H2)
noncomputable def ay2 (fp:List Addr)(h:Heap):List (Addr×Obj):=fp.filterMap λ b=>(h.get? b).map λ o=>(b,o)
theorem qK {B:List Addr}{h:Heap}{b:Addr}{o:Obj}(hb:b∈B)(e:h.get? b=some o):(b,o)∈ay2 B h:=cC.mpr ⟨b,hb,by rw[e];rfl⟩
theorem aT2 {B:List Addr}{h:Heap}{p:Addr×Obj}(hp:p∈ay2 B h):p.1∈B/\h.get? p.1=some p.2:=by
 obtain⟨b,hb,e⟩:=cC.mp hp
 cases q:h.get? b with
 | none=>rw[q]at e;cases e
 | some o =>
  rw[q]at e
  have e':(b,o)=p:=ax e
  subst e'
  exact⟨hb,q⟩
theorem Inv.pinned {B:List (Addr×Obj)}{σ:St}{H:Hp}{s:af}{F:List Addr}(I:Inv X B σ H s)(G:∀ b∈F,FpOk X B H b)(ho:∀ b∈F,∃ o,s.heap.get? b=some o/\∀ v,o.data≠.cell v):Inv X (B++ay2 F s.heap) σ H s :=
 I.pins_of λ p hp=>(aW.mp hp).elim (λ z=>I.pin p (aF _ z)) λ z=>by
  obtain⟨hb,e⟩:=aT2 z
  obtain⟨Z,J,Y,_⟩:=G p.1 hb
  obtain⟨o,e',d⟩:=ho p.1 hb
  rw[e]at e';cases e'
  exact⟨e,Z,J,Y,d⟩
theorem Inv.unpinned {B F:List (Addr×Obj)}{σ:St}{H:Hp}{s:af}(I:Inv X (B++F) σ H s):Inv X B σ H s:=I.pins_of λ p hp=>I.pin p (aF _ (cb _ hp))
theorem bk6 {iter:Expr}{body:List Stmt}{wi:TI}{g:TG}{tb:TS}{pos:Pos}(hp:iW (model X.prog X.w) X.A X.env X.xe)(hc:X.calm=true)(hi:PI X tg iter wi)(hg:PG X tg g)(hb:PSs X body tb)
  (hs:∀ x,dj iter X.env x=pure x:=by intro _;rfl):PS X (.For tg iter body [] pos) (bW7 wi g tb):=by
 intro B s σ H D I h
 refine wpAny_For (thn (hi B s σ H _ I h) λ v s1 h1=>thn h1 λ a6 s2 h2=>?_) hs
 obtain⟨it,fp,tn,J,H2,e,I2,T,a3,f2,W,⟨m0,w0⟩,turn⟩:=h2
 subst e
 have G:∀ {H':Hp},(∀ b∈fp,H' b=none)->∀ b∈fp,FpOk X B H' b:=λ hn b hb=>⟨hn b hb,(f2 b hb).2⟩
 refine codeAny_forLoop_any (λ n s'=>∃ i σ' H',Inv X B σ' H' s'/\tn i s'.heap/\(∀ b∈fp,H' b=none)/\W i n σ' H') ?_ m0 ⟨0,σ,H2,I2,a3,λ b hb=>(f2 b hb).1,w0⟩
 rintro n s3 ⟨i,σ3,H3,I3,a2,a1,w3⟩
 rcases turn i n σ3 H3 w3 with⟨stop,qn⟩|⟨go,N,hN,step⟩
 ·refine cH hp (thn (T.done X rfl rfl rfl hc i B s3 σ3 H3 X.xe I3 (G a1) a2 stop) λ r s4 ⟨hr,I4⟩=>?_)
  subst hr
  exact cY ⟨σ3,H3,I4,qn⟩
 ·refine cH hp (thn (T.item X rfl rfl rfl hc i B s3 σ3 H3 X.xe I3 (G a1) a2 go) λ r s4 ⟨u,hr,h4⟩=>?_)
  subst hr
  refine cH hp (thn h4 λ _ s5 ⟨x,H5,I5,r5,y5,a0,a5⟩=>?_)
  have a4:=I5.pinned (G a5) (T.obj _ _ a0)
  refine cH hp (thn (hg _ s5 σ3 H5 x u _ a4 r5 (step x H5 y5)) λ _ s6 ⟨σ6,H6,I6,q6⟩=>?_)
  refine cH hp (thn (hb _ s6 σ6 H6 _ I6 q6) λ f s7 Z=>?_)
  have again:∀ {σ7:St} {F:Hp},Inv X (B++ay2 fp s5.heap) σ7 F s7->N σ7 F->∃ m,m<n/\∃ i σ' H',Inv X B σ' H' s7/\tn i s7.heap/\(∀ b∈fp,H' b=none)/\W i m σ' H':=λ {σ7 F} Y n7=>by
   obtain⟨m',hm,w7⟩:=hN σ7 F n7
   refine⟨m',hm,i+1,σ7,F,Y.unpinned,T.keep _ _ _ a0 λ b hb o e=>(Y.pin (b,o) (aF _ (aF _ (qK hb e)))).1,λ b hb=>?_,w7⟩
   obtain⟨o,e,d⟩:=T.obj _ _ a0 b hb
   exact(Y.pin (b,o) (aF _ (aF _ (qK hb e)))).2.1
  cases f with
  | next=>obtain⟨σ7,F,Y,n7⟩:=Z;exact again Y n7
  | cont=>obtain⟨σ7,F,Y,n7⟩:=Z;exact again Y n7
  | brk=>obtain⟨σ7,F,Y,Z⟩:=Z;exact⟨σ7,F,Y.unpinned,Z⟩
  | ret v=>obtain⟨x7,σ7,F,Y,r7,Z⟩:=Z;exact⟨x7,σ7,F,Y.unpinned,r7,Z⟩
end
abbrev R2:=V->V->Hp->VK->Prop
def OpR (X:Cx)(f:Value->Value->Sem Value)(r:R2):Prop :=
 ∀(pins:List (Addr×Obj)) (s:af) (σ:St) (H:Hp) (x y:V) (v u:Value) (Q:VK),Inv X pins σ H s->RelV x v->RelV y u->r x y H Q ->
  wpAny (model X.prog X.w) X.A (f v u) (EP X pins σ Q) X.xe s
def UnR (X:Cx)(f:Value->Sem Value)(r:V->Hp->VK->Prop):Prop :=
 ∀(pins:List (Addr×Obj)) (s:af) (σ:St) (H:Hp) (x:V) (v:Value) (Q:VK),Inv X pins σ H s->RelV x v->r x H Q ->
  wpAny (model X.prog X.w) X.A (f v) (EP X pins σ Q) X.xe s
def ac5 (X:Cx)(f:Value)(r:List V->Hp->VK->Prop):Prop :=
 ∀(pins:List (Addr×Obj)) (s:af) (σ:St) (H:Hp) (xs:List V) (us:List Value) (Q:VK),Inv X pins σ H s->Vals xs us->r xs H Q ->
  wpAny (model X.prog X.w) X.A (call f us) (EP X pins σ Q) X.xe s
def tOp (r:R2)(ta tb:TE):TE:=λ σ H Q=>ta σ H λ x H1=>tb σ H1 λ y H2=>r x y H2 Q
def tUn (r:V->Hp->VK->Prop)(ta:TE):TE:=λ σ H Q=>ta σ H λ x H1=>r x H1 Q
def rI (C:Int->Int->Prop)(g:Int->Int->V):R2:=λ x y H Q=>∃ i j,x=.int i/\y=.int j/\C i j/\Q (g i j) H
def rI0 (g:Int->Int->V):R2:=λ x y H Q=>∃ i j,x=.int i/\y=.int j/\Q (g i j) H
def rU (g:Int->V):V->Hp->VK->Prop:=λ x H Q=>∃ i,x=.int i/\Q (g i) H
section
variable {X:Cx} {a b c:Expr} {ta tb tc:TE} {pos:Pos}
theorem bY6 (ha:PE X a ta)(hb:PE X b tb){B:List (Addr×Obj)}{s:af}{σ:St}{H:Hp}{R:V->V->Hp->Prop}(I:Inv X B σ H s)
  (h:ta σ H λ x G=>tb σ G λ y F=>R x y F) {Q:Value->af->Prop} {f:Value->Value->Sem Value}
  (J:∀ v u s2 x y F,Inv X B σ F s2->RelV x v->RelV y u->R x y F->wpAny (model X.prog X.w) X.A (f v u) Q X.xe s2) :
  wpAny (model X.prog X.w) X.A (eval a X.env) (λ v s₁=>wpAny (model X.prog X.w) X.A (eval b X.env) (λ u Z=>wpAny (model X.prog X.w) X.A (f v u) Q X.xe Z) X.xe s₁) X.xe s:=by
 refine thn (ha B s σ H _ I h) λ v s1 ⟨x,G,I1,r1,Y⟩=>?_
 refine thn (hb B s1 σ G _ I1 Y) λ u s2 ⟨y,F,I2,r2,q2⟩=>?_
 exact J v u s2 x y F I2 r1 r2 q2
theorem ca9 {op:ku}{r:R2}(ho:OpR X (cr op) r)(ha:PE X a ta)(hb:PE X b tb):PE X (.BinOp a op b pos) (tOp r ta tb):=by
 intro B s σ H Q I h
 exact wpAny_BinOp (bY6 ha hb I h λ v u s2 x y F Y G J q=>ho B s2 σ F x y v u Q Y G J q)
theorem bW4 {op:UnaryOp}{r:V->Hp->VK->Prop}(ho:UnR X (unaryOp op) r)(ha:PE X a ta):PE X (.UnaryOp op a pos) (tUn r ta):=by
 intro B s σ H Q I h
 exact UnaryOp_ (thn (ha B s σ H _ I h) λ v s1 ⟨x,F,G,r1,J⟩=>ho B s1 σ F x v Q G r1 J)
theorem opI {f:Value->Value->Sem Value}{C:Int->Int->Prop}{g:Int->Int->Int}
  (rule:∀(i j:Int) (t u:Tok) (s:af) (Q:Value->af->Prop) (E:Value->af->Prop),C i j->Q (.int (g i j) s.toks) { s with toks:=s.toks+1 }->wpAny (model X.prog X.w) X.A (f (.int i t) (.int j u)) Q E s) :
  OpR X f (rI C λ i j=>.int (g i j)):=by
 intro B s σ H x y v u Q I F G h
 obtain⟨i,j,rfl,rfl,hc,q⟩:=h
 obtain⟨t,rfl⟩:=F
 obtain⟨t',rfl⟩:=G
 exact rule i j t t' s _ _ hc ⟨.int (g i j),H,I.tok _,⟨_,rfl⟩,q⟩
theorem cf6 {f:Value->Value->Sem Value}{g:Int->Int->Int}
  (rule:∀(i j:Int) (t u:Tok) (s:af) (Q:Value->af->Prop) (E:Value->af->Prop),Q (.int (g i j) s.toks) { s with toks:=s.toks+1 }->wpAny (model X.prog X.w) X.A (f (.int i t) (.int j u)) Q E s) :
  OpR X f (rI0 λ i j=>.int (g i j)):=by
 intro B s σ H x y v u Q I F G h
 obtain⟨i,j,rfl,rfl,q⟩:=h
 obtain⟨t,rfl⟩:=F
 obtain⟨t',rfl⟩:=G
 exact rule i j t t' s _ _ ⟨.int (g i j),H,I.tok _,⟨_,rfl⟩,q⟩
theorem bU4 {f:Value->Value->Sem Value}{g:Int->Int->Bool}
  (rule:∀(i j:Int) (t u:Tok) (s:af) (Q:Value->af->Prop) (E:Value->af->Prop),Q (.bool (g i j)) s->wpAny (model X.prog X.w) X.A (f (.int i t) (.int j u)) Q E s) :
  OpR X f (rI0 λ i j=>.bl (g i j)):=by
 intro B s σ H x y v u Q I F G h
 obtain⟨i,j,rfl,rfl,q⟩:=h
 obtain⟨t,rfl⟩:=F
 obtain⟨t',rfl⟩:=G
 exact rule i j t t' s _ _ ⟨.bl (g i j),H,I,rfl,q⟩
def ce1 (i j:Int):Prop:=0<=j/\j<=1000000/\i.natAbs<2^64
def bS6 (i j:Int):Prop:=(-(2^64)<i/\i<2^64)\/(-(2^64)<j/\j<2^64)
theorem bS6.ok {i j:Int}(h:bS6 i j):IntMulOk i j:=by
 rcases h with⟨F,B⟩|⟨F,B⟩
 ·exact .of_left (intBits_le_64 F B)
 ·exact .of_right (intBits_le_64 F B)
theorem bK1:OpR X (cr .Add) (rI0 λ i j=>.int (i+j)):=cf6 λ _ _ _ _ _ _ _ q=>add_int q
theorem bD9:OpR X (cr .Mod) (rI (λ _ j=>0<j) λ i j=>.int (i % j)):=opI λ i j _ _ _ _ _ hc q=>by
 have B:(0:Int)<j:=hc
 exact mod_int' (by omega) (by rw[Int.fmod_eq_emod_of_nonneg i (by omega)];exact q)
theorem bE5:OpR X (cr .Pow) (rI ce1 λ i j=>.int (i^j.toNat)):=opI λ _ _ _ _ _ _ _ hc q=>pow_int_small hc.1 hc.2.1 hc.2.2 q
theorem bR7:OpR X (cr .LShift) (rI ce1 λ i j=>.int (i*2^j.toNat)):=opI λ _ _ _ _ _ _ _ hc q=>lshift_int_small hc.1 hc.2.1 hc.2.2 q
theorem unI {f:Value->Sem Value}{g:Int->Int}
  (rule:∀(i:Int) (t:Tok) (s:af) (Q:Value->af->Prop) (E:Value->af->Prop),Q (.int (g i) s.toks) { s with toks:=s.toks+1 }->wpAny (model X.prog X.w) X.A (f (.int i t)) Q E s) :
  UnR X f (rU λ i=>.int (g i)):=by
 intro B s σ H x v Q I F h
 obtain⟨i,rfl,q⟩:=h
 obtain⟨t,rfl⟩:=F
 exact rule i t s _ _ ⟨.int (g i),H,I.tok _,⟨_,rfl⟩,q⟩
theorem bF5:UnR X (unaryOp .USub) (rU λ i=>.int (-i)):=unI λ _ _ _ _ _ q=>neg_int q
end
section
variable {X:Cx} {a b c:Expr} {ta tb tc:TE} {pos:Pos}
theorem bU6:OpR X (dA .Lt) (rI0 λ i j=>.bl (decide (i<j))):=bU4 λ _ _ _ _ _ _ _ q=>lt_int q
theorem bZ0:OpR X (dA .LtE) (rI0 λ i j=>.bl (decide (i<=j))):=bU4 λ _ _ _ _ _ _ _ q=>le_int q
theorem bX2:OpR X (dA .Gt) (rI0 λ i j=>.bl (decide (j<i))):=bU4 λ _ _ _ _ _ _ _ q=>gt_int q
theorem bn4 {op:CmpOp}{r:R2}(ho:OpR X (dA op) r)(ha:PE X a ta)(hb:PE X b tb)(Y:c9 op b=false):PE X (.Compare a [op] [b] pos) (tOp r ta tb):=by
 intro B s σ H Q I h
 exact wpAny_Compare1 (bY6 ha hb I h λ v u s2 x y F Z G J q=>ho B s2 σ F x y v u Q Z G J q) Y
def bI5 (t:TE):TT:=λ σ H Q=>t σ H λ x H'=>∃ k,x=.bl k/\Q k H'
theorem bx1 {op:CmpOp}{r:R2}(ho:OpR X (dA op) r)(ha:PE X a ta)(hb:PE X b tb)(hm:c9 op b=false):PT X (.Compare a [op] [b] pos) (bI5 (tOp r ta tb)):=by
 intro B s σ H Q I h
 refine il (thn (ha B s σ H _ I h) λ v s1 ⟨x,H1,I1,r1,G⟩=>thn (hb B s1 σ H1 _ I1 G) λ u s2 ⟨y,Z,Y,r2,q2⟩ =>
  thn (ho B s2 σ Z x y v u _ Y r1 r2 q2) λ c s3 ⟨z,H3,J,F,k,e,q3⟩=>?_) hm
 subst e
 cases F
 exact ci ⟨H3,J,q3⟩
theorem ak3:(aJ:Nat)<2^63:=by rw[fR];decide
theorem aN4:OpR X (cr .Add) (λ x y H Q=>∃ i j,x=.str i/\y=.str j/\i.length+j.length<=aJ/\Q (.str (i++j)) H):=by
 intro B s σ H x y v u Q I F G h
 obtain⟨i,j,rfl,rfl,hz,q⟩:=h
 obtain⟨t,rfl⟩:=F
 obtain⟨t',rfl⟩:=G
 exact add_str (λ t' tk=>⟨.str (i++j),H,I.tok _,⟨_,rfl⟩,q⟩) hz
theorem af6 {x:V}{us:List Value}(r:Vals [x] us):∃ u,us=[u]/\RelV x u:=by
 cases r with
 | cons r1 r2=>cases r2;exact⟨_,rfl,r1⟩
theorem by0 {x y:V}{us:List Value}(r:Vals [x,y] us):∃ u B,us=[u,B]/\RelV x u/\RelV y B:=by
 cases r with
 | cons r1 r2 =>
  cases r2 with
  | cons r3 r4=>cases r4;exact⟨_,_,rfl,r1,r3⟩
theorem bg3:ac5 X (.builtin "abs") (λ F H Q=>∃ i,F=[.int i]/\Q (.int (if i<0 then -i else i)) H):=by
 intro B s σ H F us Q I r h
 obtain⟨i,rfl,q⟩:=h
 obtain⟨u,rfl,t,rfl⟩:=af6 r
 exact call_abs_int λ u tk=>⟨.int (if i<0 then -i else i),H,I.tok _,⟨_,rfl⟩,q⟩
theorem aR5 (hc:X.calm=true):ac5 X (.builtin "min") (λ F H Q=>∃ i j,F=[.int i,.int j]/\Q (.int (if j<i then j else i)) H):=by
 intro B s σ H F us Q I r h
 obtain⟨i,j,rfl,q⟩:=h
 obtain⟨u,G,rfl,⟨t,rfl⟩,⟨t',rfl⟩⟩:=by0 r
 refine min_two_ints (I.ok.hd hc) λ h' tk k=>⟨_,H,I.kept k,?_,q⟩
 by_cases hj:j<i
 ·rw[if_pos hj,if_pos hj];exact⟨_,rfl⟩
 ·rw[if_neg hj,if_neg hj];exact⟨_,rfl⟩
theorem aU2:ac5 X (.type "int") (λ B H Q=>(∃ i,B=[.int i]/\Q (.int i) H)\/∃ k,B=[.bl k]/\Q (.int (if k then 1 else 0)) H):=by
 intro F s σ H B us Q I r h
 rcases h with⟨i,rfl,q⟩|⟨k,rfl,q⟩
 ·obtain⟨u,rfl,t,rfl⟩:=af6 r
  exact call_int_int ⟨.int i,H,I,⟨_,rfl⟩,q⟩
 ·obtain⟨u,rfl,r1⟩:=af6 r
  cases r1
  exact call_int_bool ⟨.int (if k then 1 else 0),H,I.tok _,⟨_,rfl⟩,q⟩
end
structure ObjM (h:Heap)(x dx C:Addr)(mA:Str->Option Value):Prop where
 obj:h.get? x=some (g8 C dx)
 ns:h.Ns1 dx mA
 ne:dx≠x
theorem aT4 {h:Heap}{G:Addr}{F:Str->Option Value}(n:h.Ns1 G F):∃ od,h.get? G=some od/\∀ name,iG name od=some (F name):=by
 obtain⟨o,es,ep,ho,hd,hk,_,Y⟩:=n
 refine⟨o,ho,λ name=>?_⟩
 have e:=Y name
 unfold nsFind findBy at e
 rw[<-Array.find?_toList]at e
 unfold iG
 rw[hd]
 dsimp only
 split
 ·rename_i y q
  rw[q]at e
  exact congrArg some e
 ·rename_i q
  rw[q]at e
  have a:es.toList.any (·.refKey)=false:=by
   rw[List.any_eq_false]
   intro y hy
   obtain⟨z,t,B⟩:=hk y (Array.mem_toList_iff.mp hy)
   simp[DictEntry.refKey,B]
  have J:¬ es.toList.any (·.refKey)=true:=by rw[a];exact aR
  rw[if_neg J]
  exact congrArg some e
theorem ObjM.look {h:Heap}{x F C:Addr}{B:Str->Option Value}(I:ObjM h x F C B):∃ od,PySem.W.InstAt h x (g8 C F) C (some od)/\∀ name,iG name od=some (B name) :=
 let⟨od,ho,hl⟩:=aT4 I.ns
 ⟨od,⟨I.obj,rfl,rfl,ho⟩,hl⟩
section
variable {prog:az} {w:World} {A:aN} {E:Value->af->Prop} {s:af} {K:ac} {x dx C f:Addr} {mA:Str->Option Value} {name:Str} {v:Value}
end
theorem aO4.some_of {v:V}{o:Option Value}(r:aO4 (some v) o):∃ u,o=some u/\RelV v u:=by
 cases o with
 | none=>exact(show False from r).elim
 | some u=>exact⟨u,rfl,r⟩
section
variable {P:az} {w:World} {H H':Hp} {h h':Heap} {a C dx:Addr} {fs fs':List (Str×V)}
end
structure Cls (K:ac)(C:Addr):Prop where
 pg:jS K C Str.empty=true
 hd:PySem.W.hasDictIn K C=true
 po:PySem.W.plainOver K C=true
 sa:bQ K (.ref C) "__setattr__"=some (some (.builtin "object.__setattr__"))
theorem Cls.get {K:ac}{C:Addr}(c:Cls K C)(f:Str):jS K C f=true:=c.pg
section
variable {X:Cx} {pins:List (Addr×Obj)} {σ:St} {H:Hp} {s:af} {a C dx:Addr} {fs:List (Str×V)} {f:Str} {v:V} {A:aN} {E:Value->af->Prop}
end
section
variable {X:Cx} {o e value:Expr} {f:Str} {pos pos' tpos:Pos} {ta tv:TE}
end
section
variable {X:Cx} {pins:List (Addr×Obj)} {σ:St} {H:Hp} {s:af} {A:aN} {E:Value->af->Prop} {Q:Value->af->Prop} {c:Value} {b:Bool}
end
structure Room (k:Nat)(A:aN):Prop where
 hd:A.handled=none
 dp:A.depth+3*k+5<recursionLimit
 un:A.units+16*k+200<cLine
theorem Room.mono {j k:Nat}{A:aN}(r:Room k A)(h:j<=k):Room j A:=⟨r.hd,by have:=r.dp;omega,by have:=r.un;omega⟩
theorem Room.deeper {k:Nat}{A:aN}(r:Room (k+1) A)(env:Env):Room k (A.deeper env) :=
 ⟨r.hd,by have:=r.dp;show A.depth+1+3*k+5<_;omega,by have:=r.un;show A.units+3+16*k+200<_;omega⟩
theorem Room.in1 {k:Nat}{A:aN}(r:Room (k+1) A):Room k A.in1 :=
 ⟨r.hd,by have:=r.dp;show A.depth+3*k+5<_;omega,by have:=r.un;show A.units+1+16*k+200<_;omega⟩
theorem Room.depth {k:Nat}{A:aN}(r:Room k A):A.depth<recursionLimit:=by have:=r.dp;omega
theorem Room.units {k:Nat}{A:aN}(r:Room k A):A.units+64<cLine:=by have:=r.un;omega
theorem Room.units0 {k:Nat}{A:aN}(r:Room k A):A.units<cLine:=by have:=r.un;omega
def bl0:TA:=λ _ H Q=>Q [] H
def aN3 (ta:TE)(tr:TA):TA:=λ σ H Q=>ta σ H λ x H1=>tr σ H1 λ xs H2=>Q (x::xs) H2
section
variable {X:Cx} {e:Expr} {es:List Expr} {te:TE} {t:TA} {pos:Pos}
theorem ad3:PA X [] bl0:=λ _ _ _ _ H Q I h=>Calls.spliced_nil ⟨[],H,I,.nil,h⟩
theorem zJ (ha:PE X e te)(hr:PA X es t)(hs:br (e::es) X.env=(false,eval e X.env)::br es X.env:=by rfl):PA X (e::es) (aN3 te t):=by
 intro pos B s σ H Q I h
 rw[hs]
 show wpAny _ _ (spliced ((false,eval e X.env)::d7 pos (br es X.env))) _ _ s
 refine Calls.spliced_cons (thn (ha B s σ H _ I h) λ u s1 ⟨x,G,J,r1,q1⟩=>?_)
 exact thn (hr pos B s1 σ G _ J q1) λ us s2 ⟨Z,F,Y,r2,q2⟩=>⟨x::Z,F,Y,.cons r1 r2,q2⟩
def cd2 (t:TA):TE:=λ σ H Q=>t σ H λ xs H1=>xs.length<=aJ/\∀ p,H1 p=none->Q (.ref p) (upd H1 p (.tup xs))
def cf3 (t:TA):TE:=λ σ H Q=>t σ H λ xs H1=>xs.length<=aJ/\∀ p,H1 p=none->Q (.ref p) (upd H1 p (.lst xs))
theorem bl7 {x1}(h:PA X es t):PE X (.Tuple es x1 pos) (cd2 t):=by
 intro B s σ H Q I Z
 refine wpAny_Tuple_spliced (thn (h pos B s σ H _ I Z) λ us s1 ⟨Y,F,G,r,z,q⟩=>⟨by rw[<-r.length];exact z,?_⟩)
 have J:F s1.heap.objs.size=none:=G.hok.fresh (ak _)
 refine⟨.ref s1.heap.objs.size,upd F s1.heap.objs.size (.tup Y),G.laid (t':=s1.toks) (λ b u e=>au _ e) (ak _) ?_,rfl,q _ J⟩
 exact⟨z,us,r,⟨_,aX _ rfl,rfl,_,rfl⟩⟩
theorem bm6 (h:PA X es t):PE X (.List es pos) (cf3 t):=by
 intro B s σ H Q I Z
 refine wpAny_List_spliced (thn (h pos B s σ H _ I Z) λ us s1 ⟨Y,F,G,r,z,q⟩=>⟨by rw[<-r.length];exact z,?_⟩)
 have J:F s1.heap.objs.size=none:=G.hok.fresh (ak _)
 refine⟨.ref s1.heap.objs.size,upd F s1.heap.objs.size (.lst Y),G.laid (t':=s1.toks) (λ b u e=>au _ e) (ak _) ?_,rfl,q _ J⟩
 exact⟨z,us,0,r,aX _ rfl⟩
end
abbrev Sp:=List V->Hp->VK->XK->Prop
abbrev CXT:=List Env->Hp->af->XK->Value->af->Prop
structure Env0 (P:az)(w:World)(K:ac)(mg:Str->Option Value)(base:Heap)(A:aN)(outer:List Env)(s:af)(H:Hp):Prop where
 frames:A.frames=some outer
 mod:Mod K mg base
 bs:∀ b o,base.get? b=some o->s.heap.get? b=some o/\H b=none
 bsz:base.objs.size<=s.heap.objs.size
 funs:s.heap.FunFrames base outer
 frf:∀ b∈frs outer,H b=none
 hok:HOk P w H s.heap
 bare:fu s.gens
def CE (outer:List Env)(P:az)(w:World)(H:Hp)(s:af)(Q:VK)(u:Value)(s':af):Prop :=
 ∃ v H',s'.os=s.os/\fu s'.gens/\Un (frs outer) [] H H' s.heap s'.heap/\HOk P w H' s'.heap/\RelV v u/\Q v H'
def CR (CX:CXT)(outer:List Env)(P:az)(w:World)(H:Hp)(s:af)(Q:VK)(E:XK)(r:jT)(s':af):Prop :=
 match r with
 | .ok (.ret u)=>CE outer P w H s Q u s'
 | .ok _=>False
 | .error e=>CX outer H s E e s'
structure FnOk (P:az)(w:World)(K:ac)(mg:Str->Option Value)(base:Heap)(CX:CXT)(k:Nat)(f:Addr)(fd:bI)(ps:List Str)(sp:Sp):Prop where
 len:∀ vs H Q E,sp vs H Q E->vs.length=ps.length
 run:∀(A:aN) (outer:List Env) (s:af) (H:Hp) (args:Args) (us:List Value) (vs:List V) (Q:VK) (E:XK),Room k A->Env0 P w K mg base A outer s H->kn s fd args (ps.zip us)->Vals vs us->sp vs H Q E ->
  fy (model P w) A (.call (.ref f) args) (CR CX outer P w H s Q E) s
theorem FnOk.imp {P:az}{w:World}{K:ac}{J:Str->Option Value}{base:Heap}{Y:CXT}{k:Nat}{f:Addr}{Z:bI}{ps:List Str}{sp G:Sp}(F:FnOk P w K J base Y k f Z ps sp)
  (h:∀ vs H Q E,G vs H Q E->sp vs H Q E):FnOk P w K J base Y k f Z ps G :=
 ⟨λ vs H Q E q=>F.len vs H Q E (h _ _ _ _ q),λ A B s H args us vs Q E hr he hb hv hs=>F.run A B s H args us vs Q E hr he hb hv (h _ _ _ _ hs)⟩
section
variable {X:Cx} {pins:List (Addr×Obj)} {σ:St} {H:Hp} {s s':af}
theorem Inv.env0 (I:Inv X pins σ H s):Env0 X.prog X.w X.K X.mg X.base X.A X.stack s H :=
 ⟨I.ok.frames,I.ok.mod,I.bs,am I.ok.bsz I.sz,I.stack,I.stkFree,I.hok,I.bare⟩
theorem Inv.after {Q:VK}{u:Value}(I:Inv X pins σ H s)(h:CE X.stack X.prog X.w H s Q u s'):EP X pins σ Q u s':=by
 obtain⟨v,H',os,bare,un,hok,r,q⟩:=h
 obtain⟨hh,g,d,t,B⟩:=s'
 obtain rfl:B=s.os:=os
 exact⟨v,H',I.call (h':=hh) (g':=g) (d':=d) (t':=t) (ch:=[]) un hok bare (λ b z=>absurd z (by simp)),r,q⟩
end
def aK2 (sp:Sp)(dvs:List V)(E:XK)(t:TA):TE:=λ σ H Q=>t σ H λ vs H1=>sp (vs++dvs) H1 Q E
def Binds (K:ac)(fd:bI)(ps:List Str)(ds:List Value):Prop :=
 ∀(s:af) (us:List Value),K.In s.heap->(us++ds).length=ps.length->kn s fd ⟨us,[]⟩ (ps.zip (us++ds))
theorem Binds.all {K:ac}{B:bI}{ps:List Str}(h:∀ us:List Value,us.length=ps.length->d9 B ⟨us,[]⟩=pure (ps.zip us)):Binds K B ps []:=λ s us _ hl=>by
 rw[bh]at hl ⊢
 exact .of_eq (h us hl)
def ag3 (CX:CXT)(X:Cx)(E:XK):Prop:=∀(pins:List (Addr×Obj)) (σ:St) (H:Hp) (s:af) (e:Value) (s':af),Inv X pins σ H s->CX X.stack H s E e s'->X.xe e s'
section
variable {X:Cx} {CX:CXT} {k:Nat} {f C:Addr} {fd:bI} {ps:List Str} {sp:Sp} {dvs:List V} {ds:List Value} {E:XK} {x m:Str} {p pos apos:Pos} {e o:Expr} {es:List Expr} {ta:TE} {t:TA}
theorem bk9 {B:List (Addr×Obj)}{σ:St}{H:Hp}{s:af}{Q:VK}{us:List Value}{vs:List V}(F:FnOk X.prog X.w X.K X.mg X.base CX k f fd ps sp)(hr:Room k X.A)(hb:Binds X.K fd ps ds)(hd:Vals dvs ds)(hx:ag3 CX X E)
  (I:Inv X B σ H s) (r:Vals vs us) (h:sp (vs++dvs) H Q E):wpAny (model X.prog X.w) X.A (call (.ref f) us) (EP X B σ Q) X.xe s:=by
 have r2:Vals (vs++dvs) (us++ds):=r.append hd
 have hl:(us++ds).length=ps.length:=by rw[<-r2.length];exact F.len _ _ _ _ h
 refine kA (jH (F.run X.A X.stack s H ⟨us,[]⟩ (us++ds) (vs++dvs) Q E hr I.env0 (hb s us I.kIn hl) r2 h) λ r s' G=>?_)
 cases r with
 | error e=>exact hx B σ H s e s' I G
 | ok fl =>
  cases fl with
  | ret u=>exact I.after G
  | next=>exact bj G
  | brk=>exact bj G
  | cont=>exact bj G
theorem aT5 (F:FnOk X.prog X.w X.K X.mg X.base CX k f fd ps sp)(hr:Room k X.A)(hg:Gl X x)(Z:X.mg x=some (.ref f))(hk:cc X.K (.ref f)=true)(hb:Binds X.K fd ps ds)(hd:Vals dvs ds)(hx:ag3 CX X E)
  (ha:PA X (e::es) t) (J:(x==("__debug__":Str))=false:=by decide) (he:br (e::es) X.env=(false,eval e X.env)::br es X.env:=by rfl) (G:(d7 pos (br es X.env)).any (·.1)=false:=by rfl) :
  PE X (.Call (.Name x p) (e::es) [] pos) (aK2 sp dvs E t):=by
 intro B s σ H Q I h
 refine cT (aB2 I hg Z ?_ J)
 refine PySem.W.callWith_K (h₀:=X.base) I.ok.mod.kin hk (thn (ha pos B s σ H _ I h) λ us s1 ⟨vs,H1,Y,r,q⟩=>⟨Y.kIn,?_⟩) he G
 exact bk9 F hr hb hd hx Y r q
theorem aZ9 (F:FnOk X.prog X.w X.K X.mg X.base CX k f fd ps sp)(hr:Room k X.A)(hg:Gl X x)(J:X.mg x=some (.ref f))(hk:cc X.K (.ref f)=true)(hb:Binds X.K fd ps ds)(hd:Vals dvs ds)(hx:ag3 CX X E)
  (B:(x==("__debug__":Str))=false:=by decide):PE X (.Call (.Name x p) [] [] pos) (aK2 sp dvs E bl0):=by
 intro G s σ H Q I h
 refine cT (aB2 I hg J ?_ B)
 exact PySem.W.callWith_K0 I.kIn hk (bk9 (us:=[]) F hr hb hd hx I .nil h)
structure Mk (K:ac)(C f:Addr):Prop where
 makes:PySem.W.makesIn K C=true
 init:bQ K (.ref C) "__init__"=some (some (.ref f))
 fn:PySem.W.isFn K (.ref f)=true
 kp:cc K (.ref C)=true
end
section
variable {X:Cx} {CX:CXT} {k:Nat} {f C:Addr} {fd:bI} {ps ks:List Str} {sp:Sp} {E:XK} {x m:Str} {p pos apos kpos:Pos} {e o:Expr} {es:List Expr} {kws:List iX} {te ta:TE} {t tk:TA} {nm:Option Str}
variable {g:List Value->List Value->List Value} {gV:List V->List V->List V}
end
structure FnScope (N P:List Str)(sc:Scope):Prop where
 kind:sc.kind=.function
 co:sc.isCoroutine=false
 gen:sc.isGenerator=false
 nd:N.Nodup
 pre:N.take P.length=P
 par:∀ x∈P,sc.names.lookup x=some .local\/sc.names.lookup x=some .cell
 nofree:∀ y∈sc.names,y.2≠.free
theorem aw4 {eM:Str->Option cf}{x:Str}:∀ {binds:List (Str×Value)} {m:Str->Option Value},(∀ v,(x,v) ∉ binds)->bindL eM binds m x=m x
 | [],_,_=>rfl
 | (n,v)::r,m,h=>by
  unfold bindL
  rw[aw4 λ w hw=>h w (ai _ hw)]
  split
  ·have:x≠n:=by rintro rfl;exact h v av
   simp[this]
  ·rfl
theorem au2 {eM:Str->Option cf}{x:Str}:∀ {binds:List (Str×Value)} {m:Str->Option Value},(∀ v,(x,v) ∉ binds)->bindC eM binds m x=m x
 | [],_,_=>rfl
 | (n,v)::r,m,h=>by
  unfold bindC
  rw[au2 λ w hw=>h w (ai _ hw)]
  split
  ·rfl
  ·have:x≠n:=by rintro rfl;exact h v av
   simp[this]
theorem aj6 {eM:Str->Option cf}{x:Str}{v:Value}:∀ {P:List Str} {vs:List Value} {i:Nat} {m:Str->Option Value},P.Nodup->P[i]?=some x->vs[i]?=some v->eM x=some .local ->
  bindL eM (P.zip vs) m x=some v
 | [],_,_,_,_,h,_,_=>by simp at h
 | _::_,[],_,_,_,_,h,_=>by simp at h
 | p::P,w::vs,0,m,nd,h1,h2,hk=>by
  simp at h1 h2;subst h1;subst h2
  show bindL eM ((p,w)::P.zip vs) m p=_
  unfold bindL
  rw[aw4 λ v hv=>(e9.mp nd).1 (dQ hv).1,if_pos hk]
  simp
 | p::P,w::vs,i+1,m,nd,h1,h2,hk=>by
  show bindL eM ((p,w)::P.zip vs) m x=_
  unfold bindL
  exact aj6 (i:=i) (e9.mp nd).2 (by simpa using h1) (by simpa using h2) hk
theorem aj8 {eM:Str->Option cf}{x:Str}{v:Value}:∀ {P:List Str} {vs:List Value} {i:Nat} {m:Str->Option Value},P.Nodup->P[i]?=some x->vs[i]?=some v->eM x≠some .local ->
  bindC eM (P.zip vs) m x=some v
 | [],_,_,_,_,h,_,_=>by simp at h
 | _::_,[],_,_,_,_,h,_=>by simp at h
 | p::P,w::vs,0,m,nd,h1,h2,hk=>by
  simp at h1 h2;subst h1;subst h2
  show bindC eM ((p,w)::P.zip vs) m p=_
  unfold bindC
  rw[au2 λ v hv=>(e9.mp nd).1 (dQ hv).1,if_neg hk]
  simp
 | p::P,w::vs,i+1,m,nd,h1,h2,hk=>by
  show bindC eM ((p,w)::P.zip vs) m x=_
  unfold bindC
  exact aj8 (i:=i) (e9.mp nd).2 (by simpa using h1) (by simpa using h2) hk
noncomputable def qT (N:List Str)(vs:List V):St:=vs.map some++aq (N.length - vs.length) none
noncomputable def at4 (CX:CXT)(P:az)(w:World)(K:ac)(mg:Str->Option Value)(base:Heap)(N:List Str)(qual:Str)(scope:Scope)(f:Addr)(cd:Value)(A:aN)(outer:List Env)(s:af)(H:Hp)(E:XK):Cx where
 prog:=P
 w:=w
 K:=K
 mg:=mg
 base:=base
 A:=A.deeper (fe qual scope s.heap.objs.size f cd)
 N:=N
 s₀:=s
 H₀:=H
 env:=fe qual scope s.heap.objs.size f cd
 outer:=outer
 stack:=fe qual scope s.heap.objs.size f cd::outer
 ex:=[]
 calm:=true
 fn:=λ _=>true
 pn:=[]
 xe:=λ e s'=>wpAny (model P w) (A.deeper (fe qual scope s.heap.objs.size f cd)) (leaving (fe qual scope s.heap.objs.size f cd) e) (λ _ s''=>CX outer H s E e s'') (λ e' s''=>CX outer H s E e' s'') s'
theorem zQ {sc:Scope}{n:Nat}{x:Str}(h:sc.names.lookup x=some .cell):∃ c,(aK n sc.names []).lookup x=some c:=by
 have q:=gK sc.names n [] (.inl h)
 exact gh.mp q
theorem aS9 {CX:CXT}{P:az}{w:World}{K:ac}{mg:Str->Option Value}{base:Heap}{N ps:List Str}{qual:Str}{scope:Scope}{f:Addr}{cd:Value}{A:aN}{B:List Env}{s s1:af}{H:Hp}{E:XK}{us:List Value}{vs:List V}
  (S:FnScope N ps scope) (hd:A.handled=none) (G:Env0 P w K mg base A B s H) (hl:vs.length=ps.length) (r:Vals vs us)
  (x:fS s s.heap.objs.size (bindL (fe qual scope s.heap.objs.size f cd).kindOf (ps.zip us) λ _=>none) (aK (s.heap.objs.size+1) scope.names []) (bindC (fe qual scope s.heap.objs.size f cd).kindOf (ps.zip us) λ _=>none) s1) :
  Inv (at4 CX P w K mg base N qual scope f cd A B s H E) [] (qT N vs) H s1:=by
 have a0:ps.length<=N.length:=by have:=congrArg lf S.pre;rw[b7]at this;omega
 obtain⟨Z,tk,rfl,hk⟩:=x.done
 have J:∀ b:Addr,b ∉ (at4 CX P w K mg base N qual scope f cd A B s H E).ex:=λ b z=>absurd (show b∈([]:List Addr)from z) (by simp)
 refine⟨⟨G.mod,S.kind,rfl,rfl,ak _,λ y z c Z F=>?_,λ y hy=>?_,λ y c _ h=>?_,λ _=>hd,iH G.frames,.inr ⟨rfl,rfl⟩,λ b z=>absurd z (J b),G.bs,G.bsz,λ b _ _=>J b,λ b z=>absurd z (J b),G.funs,G.frf⟩,
  rfl,G.bare,Un.kept hk,⟨_,x.toInCall.ns,λ i y v Z F h3=>?_⟩,λ y c h=>⟨_,x.cell y c h⟩,G.hok.fresh (ak _),λ y c h=>?_,λ p hp=>absurd (show p∈([]:List (Addr×Obj))from hp) (by simp),G.hok.kept hk,?_⟩
 ·exact gL x.apart (aG Z) (aG F)
 ·have hy:scope.names.lookup y=some .cell\/scope.names.lookup y=some .free:=hy
  rcases hy with hy|hy
  ·exact zQ hy
  ·exact absurd rfl (S.nofree _ (aG hy))
 ·exact fv (x.above y c (aG h))
 ·have hi:i<vs.length:=by
   unfold qT at F
   by_cases hi:i<vs.length
   ·exact hi
   ·rw[aB (by simpa using hi)]at F
    rw[gy]at F
    split at F<;>cases F
  have ha:vs[i]?=some v:=by
   unfold qT at F
   rw[aL (by simpa using hi),aH]at F
   cases e:vs[i]? with
   | none=>rw[e]at F;cases F
   | some a=>rw[e]at F;cases F;rfl
  obtain⟨u,hu,rv⟩:=r.get ha
  have hp:ps[i]?=some y:=by
   rw[<-S.pre,List.getElem?_take_of_lt (by omega)];exact Z
  have Y:ps.Nodup:=by rw[<-S.pre];exact S.nd.sublist (List.take_sublist _ _)
  refine⟨u,rv,?_⟩
  rcases S.par y (a7 hp)with k|k
  ·exact .inl ⟨k,aj6 Y hp hu k⟩
  ·obtain⟨c,e⟩:=zQ (n:=s.heap.objs.size+1) k
   refine .inr ⟨.inl k,c,e,?_⟩
   have q:=x.cell y c e
   rw[aj8 Y hp hu (by show scope.names.lookup y≠_;rw[k];decide)]at q
   exact q
 ·exact G.hok.fresh (fv (x.above y c (aG h)))
 ·unfold qT
  show _=N.length
  rw[aE,aw,List.length_replicate]
  omega
theorem bA4 {CX:CXT}{P:az}{w:World}{K:ac}{mg:Str->Option Value}{base:Heap}{k:Nat}{f:Addr}{name qual:Str}{params:bW}{body:List Stmt}{scope:Scope}{dV kV Z pm F ct oc:Value}{an od:Option Addr}
  {a1:Array (Option Value)} {N ps:List Str} {sp:Sp} (lk:K.lookup f=some ⟨oc,od,.func (cU name qual params body scope dV kV Z pm an F ct),a1⟩) (a2:fJ K F qual=true) (S:FnScope N ps scope)
  (len:∀ vs H Q E,sp vs H Q E->vs.length=ps.length)
  (Y:∀(A:aN) (B:List Env) (s:af) (H:Hp) (vs:List V) (Q:VK) (E:XK),Room k (A.deeper (fe qual scope s.heap.objs.size f F))->sp vs H Q E ->
   ∃ t,PSs (at4 CX P w K mg base N qual scope f F A B s H E) body t/\t { nx:=λ _ H'=>Q .non H',rt:=Q } (qT N vs) H) :
  FnOk P w K mg base CX (k+1) f (cU name qual params body scope dV kV Z pm an F ct) ps sp:=by
 refine⟨len,λ A B s H args us vs Q E hr e0 hb r a0=>?_⟩
 have hl:=len _ _ _ _ a0
 have KX:K.In s.heap:=e0.mod.kin.keeps λ b o e=>(e0.bs b o e).1
 have a3:s.heap.NoLimit:=e0.mod.nolimit.keeps λ b o e=>(e0.bs b o e).1
 have G:∀ y∈ps.zip us,scope.names.lookup y.1=some .local\/(scope.names.lookup y.1=some .cell/\((aK (s.heap.objs.size+1) scope.names []).lookup y.1).isSome=true):=λ⟨n,v⟩ hy=>by
  rcases S.par n (dQ hy).1 with q|q
  ·exact .inl q
  ·exact .inr ⟨q,gK _ _ _ (.inl q)⟩
 refine io hr.depth (KX _ _ lk) rfl S.co S.gen rfl (PySem.W.codeRec_of KX a2) (hb _ _ _ _ ?_)
 refine wpAny_newFunctionEnv_cells S.kind G λ env he s1 x=>?_
 subst he
 refine⟨a3.keeps x.toInCall.keep,codeAny_func ?_⟩
 obtain⟨t,ht,hq⟩:=Y A B s H vs Q E (hr.deeper _) a0
 have I:Inv (at4 CX P w K mg base N qual scope f F A B s H E) [] (qT N vs) H s1:=aS9 S hr.hd e0 hl r x
 refine a8 (ht [] s1 (qT N vs) H _ I hq) (λ fl s' hs=>?_) λ e s' hs=>hs
 have fin:∀ {σ':St} {H':Hp} {v:V} {u:Value},Inv (at4 CX P w K mg base N qual scope f F A B s H E) [] σ' H' s'->RelV v u->Q v H'->CE B P w H s Q u s' :=
  λ {σ' H' v u} J rv q=>⟨v,H',J.os,J.bare,J.base,J.hok,rv,q⟩
 cases fl with
 | ret u =>
  obtain⟨v,σ',H',J,rv,q⟩:=hs
  exact fin J rv q
 | next =>
  obtain⟨σ',H',J,q⟩:=hs
  exact fin (v:=V.non) (u:=Value.none) J rfl q
 | brk =>
  obtain⟨_,_,_,q⟩:=hs
  exact bj q
 | cont =>
  obtain⟨_,_,_,q⟩:=hs
  exact bj q
section
variable {X:Cx} {x:Str} {p pos:Pos} {e:Expr} {es:List Expr} {t:TA} {id T:String} {r:List V->Hp->VK->Prop}
def tCB (r:List V->Hp->VK->Prop)(t:TA):TE:=λ σ H Q=>t σ H λ vs H1=>r vs H1 Q
theorem ag4 (hc:ac5 X (.builtin id) r)(hg:Gl X x)(Z:X.mg x=none)(hv:bv x=some (.builtin id))(ha:PA X (e::es) t)(hn:x ≠ "__name__":=by decide)(G:(x==("__debug__":Str))=false:=by decide)
  (he:br (e::es) X.env=(false,eval e X.env)::br es X.env:=by rfl) (F:(d7 pos (br es X.env)).any (·.1)=false:=by rfl):PE X (.Call (.Name x p) (e::es) [] pos) (tCB r t):=by
 intro B s σ H Q I h
 refine cT (ay1 I hg Z hv ?_ hn G)
 exact PyProof.Rows.callWith_builtin1 (thn (ha pos B s σ H _ I h) λ us s1 ⟨vs,J,Y,r1,q1⟩=>hc B s1 σ J vs us Q Y r1 q1) he F
theorem ak7 (hc:ac5 X (.type T) r)(hg:Gl X x)(Z:X.mg x=none)(hv:bv x=some (.type T))(ha:PA X (e::es) t)(hn:x ≠ "__name__":=by decide)(G:(x==("__debug__":Str))=false:=by decide)
  (he:br (e::es) X.env=(false,eval e X.env)::br es X.env:=by rfl) (F:(d7 pos (br es X.env)).any (·.1)=false:=by rfl):PE X (.Call (.Name x p) (e::es) [] pos) (tCB r t):=by
 intro B s σ H Q I h
 refine cT (ay1 I hg Z hv ?_ hn G)
 exact fw (thn (ha pos B s σ H _ I h) λ us s1 ⟨vs,J,Y,r1,q1⟩=>hc B s1 σ J vs us Q Y r1 q1) he F
end
end L2
end
noncomputable section
namespace HT
open PySem PyProof.Rows
section
open PySem.SeqAt
open PySem.AutoSeq1 (wpAny_loadPart')
open PySem.MeetsSeq PySem.MeetsSeq2 PySem.MeetsSeq3
end
section
variable {prog:az} {w:World} {A:aN} {E:Value->af->Prop} {s:af}
theorem cat_tup {t b:Addr}{vs ws:List Value}{Q:Value->af->Prop}(ht:IsTup s.heap t vs.toArray)(hb:IsTup s.heap b ws.toArray)(hv:vs≠[])
  (h1:ws=[]->Q (.ref t) s) (h2:ws≠[]->Q (.ref s.heap.objs.size) { s with heap:=s.heap.push { cls:=.type "tuple",data:=.seq (vs++ws).toArray } })
  (hsz:vs.length+ws.length<=aJ):wpAny (model prog w) A (cr .Add (.ref t) (.ref b)) Q E s:=by
 obtain⟨⟨cls,dd,data,sl⟩,ho,hc,n,hd⟩:=id ht
 obtain⟨⟨a0,F,Z,G⟩,B,Y,n2,J⟩:=id hb
 simp only at hc hd Y J
 subst hc hd Y J
 have e:vs.toArray++ws.toArray=(vs++ws).toArray:=by simp
 by_cases hw:ws=[]
 ·exact jI ⟨_,ho,rfl⟩ ⟨_,B,rfl⟩ gz jg ed dX (dJ _ _)
   (tuple_addW1 t b vs.toArray ws.toArray n n2 dd F sl G (by simpa using hv) (by simp[hw])) ⟨ho,B,h1 hw⟩
 ·refine jI ⟨_,ho,rfl⟩ ⟨_,B,rfl⟩ gz jg ed dX (dJ _ _)
   (tuple_addW2 t b vs.toArray ws.toArray n n2 dd F sl G (by simpa using hv) (by simpa using hw) (by rw[ar,ar];exact hsz)) ⟨ho,B,?_⟩
  rw[e]
  exact h2 hw
noncomputable def sIx (n d:Nat):Option Int->Nat
 | none=>d
 | some v=>if v<0 then(v+(n:Int)).toNat else min v.toNat n
theorem sIx_le (n d:Nat)(hd:d<=n)(o:Option Int):sIx n d o<=n:=by
 cases o with
 | none=>exact hd
 | some v =>
  show(if v<0 then(v+(n:Int)).toNat else min v.toNat n)<=n
  by_cases hv:v<0
  ·rw[if_pos hv];omega
  ·rw[if_neg hv];exact Nat.min_le_right _ _
theorem clip_eq (v:Int)(n d:Nat):(if v<0 then max (v+(n:Int)) 0 else min v (n:Int))=((sIx n d (some v):Nat):Int):=by
 show(if v<0 then max (v+(n:Int)) 0 else min v (n:Int))=(((if v<0 then(v+(n:Int)).toNat else min v.toNat n):Nat):Int)
 by_cases hv:v<0
 ·simp only[if_pos hv];omega
 ·simp only[if_neg hv];omega
theorem adjust_gen (F B:Option Int)(n:Nat):dF F B 1 (n:Int)=(((sIx n 0 F:Nat):Int),((sIx n n B:Nat):Int)):=by
 have G:¬((1:Int)<0):=by omega
 unfold dF
 simp only[G,if_false]
 refine jA ?_ ?_
 ·cases F with
  | none=>rfl
  | some v=>exact clip_eq v n 0
 ·cases B with
  | none=>rfl
  | some v=>exact clip_eq v n n
theorem places_gen (i j:Nat):cG (i:Int) (j:Int) 1=j - i:=by
 unfold cG
 have B:(1:Int) > 0:=by omega
 simp only[B,if_true,Int.ediv_one]
 split<;>omega
theorem slicePart_ {v:Value}{o:Option Int}{Q:Option Int->af->Prop}(p:gi v o)(h:Q o s):wpAny (model prog w) A (ke v) Q E s:=by
 cases p with
 | none=>exact slicePart_none h
 | int i t=>exact slicePart_int h
theorem sliceApplied_gen {sl:Addr}{vl vu:Value}{B F:Option Int}{n:Nat}{Q:Int×Int×Nat->af->Prop}(hs:s.heap.IsSliceOf sl vl vu .none)(Z:gi vl B)(pu:gi vu F)
  (h:Q (((sIx n 0 B:Nat):Int),1,sIx n n F - sIx n 0 B) s):wpAny (model prog w) A (fK (.ref sl) (pure (n:Int))) Q E s:=by
 obtain⟨os,J,Y,G⟩:=id hs
 unfold fK kK
 refine ae (ae (dY J G (x:=vl) rfl (ae (dY J G (x:=vu) rfl (ae (dY J G (x:=.none) rfl (ao ?_)))))))
 refine ae (slicePart_none ?_)
 show wpAny _ _ (if((1:Int)==0)=true then _ else _) _ _ s
 rw[if_neg (by decide)]
 refine ae (slicePart_ Z (ae (slicePart_ pu (ae (ao ?_)))))
 show wpAny _ _ (match dF B F 1 (n:Int)with|(B,F)=>pure (B,(1:Int),cG B F 1)) _ _ s
 rw[adjust_gen B F n]
 show wpAny _ _ (pure (((sIx n 0 B:Nat):Int),(1:Int),cG ((sIx n 0 B:Nat):Int) ((sIx n n F:Nat):Int) 1)) _ _ s
 rw[places_gen]
 exact ao h
theorem pick_gen (B:Array Value)(i k:Nat):((aU k).filterMap λ(m:Nat)=>B[((i:Int)+(m:Int)*1).toNat]?).toArray=((B.toList.drop i).take k).toArray:=by
 have e:(λ(m:Nat)=>B[((i:Int)+(m:Int)*1).toNat]?)=λ m=>B[i+m]?:=by
  funext m
  have:((i:Int)+(m:Int)*1).toNat=i+m:=by omega
  rw[this]
 rw[e]
 have:=pick_run B i k
 rw[cD]at this
 have e2:((λ x=>B[x]?) ∘ λ x=>i+x)=λ m=>B[i+m]?:=rfl
 rw[e2]at this
 rw[this]
theorem getItem_tuple_cut {t sl:Addr}{B:Array Value}{vl vu:Value}{G J:Option Int}{Q:Value->af->Prop}(Y:IsTup s.heap t B)(hs:s.heap.IsSliceOf sl vl vu .none)(pl:gi vl G)(pu:gi vu J)
  (hw:¬(sIx B.size 0 G=0/\sIx B.size B.size J=B.size))
  (h:Q (.ref s.heap.objs.size) { s with heap:=s.heap.push { cls:=.type "tuple",data:=.seq ((B.toList.drop (sIx B.size 0 G)).take (sIx B.size B.size J - sIx B.size 0 G)).toArray } })
  (hsz:B.size<=aJ):wpAny (model prog w) A (gM (.ref t) (.ref sl)) Q E s:=by
 have F:sizeOk (.seq ((B.toList.drop (sIx B.size 0 G)).take (sIx B.size B.size J - sIx B.size 0 G)).toArray):=by
  show((B.toList.drop (sIx B.size 0 G)).take (sIx B.size B.size J - sIx B.size 0 G)).toArray.size<=aJ
  rw[ar,b7,eN,cM]
  omega
 have hj:sIx B.size B.size J<=B.size:=sIx_le _ _ (ak _) J
 obtain⟨os,a0,Z,a3⟩:=id hs
 have a2:s.TypeIs (.ref sl) "slice":=⟨os,a0,Z⟩
 unfold gM
 try with_reducible refine b8 ?_
 first|refine ae (ao ?_)|skip
 refine ae (jJ Y.typeIs (by decide) ?_)
 refine ae (cP (name:=aV "__getitem__") Y.typeIs bn
  (cx bn Y.typeIs i9 ?_ (jq _ _)))
 show wpAny _ _ (cz (.ref t) >>= _) _ _ s
 refine ae (jh Y ?_)
 refine ae (gN a2 ?_)
 rw[if_pos (by decide)]
 refine ae (sliceApplied_gen hs pl pu ?_)
 have a1:¬((((sIx B.size 0 G:Nat):Int)==0&&(1:Int)==1&&(sIx B.size B.size J - sIx B.size 0 G)==B.size)=true):=by
  intro q
  rw[ag,ag]at q
  have q1:((sIx B.size 0 G:Nat):Int)=0:=eq_of_beq q.1.1
  have q2:sIx B.size B.size J - sIx B.size 0 G=B.size:=eq_of_beq q.2
  exact hw ⟨by omega,by omega⟩
 show wpAny _ _ (if(((sIx B.size 0 G:Nat):Int)==0&&(1:Int)==1&&(sIx B.size B.size J - sIx B.size 0 G)==B.size)=true then _ else _) _ _ s
 rw[if_neg a1,pick_gen]
 first
  | exact ae (m:=cL _) (bA (ao ⟨_,rfl,ao h⟩) F)
  | exact ae (m:=cL _) (bA (ae (ao (ao ⟨_,rfl,ao h⟩))) F)
  | exact ae (ae (m:=cL _) (bA (ao (ao ⟨_,rfl,ao h⟩)) F))
  | exact ae (ae (m:=cL _) (bA (ao ⟨_,rfl,ao h⟩) F))
end
end HT
noncomputable section
namespace L2
open PySem PySem.Spec PyProof.Rows
abbrev TO:=St->Hp->(Option Int->Hp->Prop)->Prop
def PO (X:Cx)(e:Option Expr)(t:TO):Prop :=
 ∀(pins:List (Addr×Obj)) (s:af) (σ:St) (H:Hp) (Q:Option Int->Hp->Prop),Inv X pins σ H s->t σ H Q ->
  wpAny (model X.prog X.w) X.A (evalPart e X.env) (λ u s'=>∃ o H',Inv X pins σ H' s'/\gi u o/\Q o H') X.xe s
noncomputable def aA2:TO:=λ _ H Q=>Q none H
noncomputable def aZ1 (t:TE):TO:=λ σ H Q=>t σ H λ x H1=>∃ i,x=.int i/\Q (some i) H1
section
variable {X:Cx} {e:Expr} {te:TE} {lo hi:Option Expr} {tl th:TO} {pos p2:Pos}
theorem bs7:PO X none aA2:=by
 intro B s σ H Q I h
 rw[evalPart_none]
 exact ao ⟨none,H,I,.none,h⟩
theorem bo1 (h:PE X e te):PO X (some e) (aZ1 te):=by
 intro B s σ H Q I hw
 rw[evalPart_some]
 refine thn (h B s σ H _ I hw) λ u s1 ⟨x,F,G,r1,J⟩=>?_
 obtain⟨i,rfl,q⟩:=J
 obtain⟨t,rfl⟩:=r1
 exact⟨some i,F,G,.int i t,q⟩
def SlR (X:Cx)(r:V->Option Int->Option Int->Hp->VK->Prop):Prop :=
 ∀(pins:List (Addr×Obj)) (s:af) (σ:St) (H:Hp) (x:V) (v vl vu:Value) (lo hi:Option Int) (sl:Addr) (Q:VK),Inv X pins σ H s->RelV x v->s.heap.IsSliceOf sl vl vu .none->gi vl lo->gi vu hi->r x lo hi H Q ->
  ∃ T id,typeLookup (.type T) "__getitem__"=pure (some (.builtin id))/\s.TypeIs v T/\wpAny (model X.prog X.w) X.A (gM v (.ref sl)) (EP X pins σ Q) X.xe s
def tSl (r:V->Option Int->Option Int->Hp->VK->Prop)(te:TE)(tl th:TO):TE:=λ σ H Q=>te σ H λ x H1=>tl σ H1 λ l H2=>th σ H2 λ u H3=>r x l u H3 Q
theorem be4 {r:V->Option Int->Option Int->Hp->VK->Prop}(hr:SlR X r)(he:PE X e te)(hl:PO X lo tl)(hu:PO X hi th):PE X (.Subscript e (.Slice lo hi none p2) pos) (tSl r te tl th):=by
 intro B s σ H Q I h
 refine Subscript_ (thn (he B s σ H _ I h) λ v s1 ⟨x,H1,I1,r1,Y⟩=>?_)
 refine wpAny_Slice (thn (hl B s1 σ H1 _ I1 Y) λ vl s2 ⟨l,H2,I2,J,q2⟩=>thn (hu B s2 σ H2 _ I2 q2) λ vu s3 ⟨u,F,Z,pu,q3⟩=>?_)
 rw[evalPart_none]
 refine ao ?_
 have I4:Inv X B σ F { s3 with heap:=s3.heap.push { cls:=.type "slice",data:=.fields #[vl,vu,.none] } }:=Z.kept (t':=s3.toks) λ b ob q=>au _ q
 obtain⟨T,id,hT,G,hg⟩:=hr B { s3 with heap:=s3.heap.push { cls:=.type "slice",data:=.fields #[vl,vu,.none] } } σ F x v vl vu l u s3.heap.objs.size Q I4 r1 (lp ..) J pu q3
 show wpAny (model X.prog X.w) X.A (subscriptTail e (.Slice lo hi none p2) v (.ref s3.heap.objs.size)) (EP X B σ Q) X.xe { s3 with heap:=s3.heap.push { cls:=.type "slice",data:=.fields #[vl,vu,.none] } }
 exact kB (ops:=[.ref s3.heap.objs.size,v]) G hT hg (by with_unfolding_all rfl)
noncomputable def aM4 (xs:List V)(lo hi:Option Int):List V:=(xs.drop (HT.sIx xs.length 0 lo)).take (HT.sIx xs.length xs.length hi - HT.sIx xs.length 0 lo)
theorem ak8 (B:List V)(G F:Option Int):(aM4 B G F).length<=B.length:=by
 unfold aM4
 rw[b7,eN]
 omega
def cg9 (K:ac):V->Option Int->Option Int->Hp->VK->Prop:=λ x lo hi H Q=>∃ a xs,x=.ref a/\SqT K H a xs /\
 ¬(HT.sIx xs.length 0 lo=0/\HT.sIx xs.length xs.length hi=xs.length)/\∀ p,H p=none->Q (.ref p) (upd H p (.tup (aM4 xs lo hi)))
theorem bQ5:SlR X (cg9 X.K):=by
 intro Z s σ H x v vl vu G J sl Q I rx hs pl pu h
 obtain⟨a,F,rfl,hx,hw,q⟩:=h
 cases rx
 obtain⟨its,r,Y,hz⟩:=I.tuple hx
 have B:its.toArray.size=F.length:=by rw[ar];exact r.length.symm
 refine⟨"tuple",_,bn.lookup,Y.typeIs,?_⟩
 refine HT.getItem_tuple_cut Y hs pl pu (by rw[B];exact hw) ?_ (by rw[B];exact hz)
 rw[B]
 refine⟨.ref s.heap.objs.size,_,I.laid (t':=s.toks) (o:=.tup (aM4 F G J)) (λ b ob q=>au _ q) (ak _) ?_,rfl,q _ (I.hok.fresh (ak _))⟩
 exact⟨am (ak8 F G J) hz,_,(r.drop (HT.sIx F.length 0 G)).take (HT.sIx F.length F.length J - HT.sIx F.length 0 G),jU _ _⟩
def ca8 (K:ac):R2:=λ x y H Q=>∃ a b xs ys,x=.ref a/\y=.ref b/\SqT K H a xs/\SqT K H b ys/\xs≠[]/\xs.length+ys.length<=aJ /\
 (ys=[]->Q (.ref a) H)/\(ys≠[]->∀ p,H p=none->Q (.ref p) (upd H p (.tup (xs++ys))))
theorem Vals.nil_iff {B:List V}{us:List Value}(r:Vals B us):us=[]↔B=[]:=by
 cases r with
 | nil=>simp
 | cons _ _=>simp
theorem bz6:OpR X (cr .Add) (ca8 X.K):=by
 intro F s σ H x y v u Q I G ry h
 obtain⟨a,b,J,ys,rfl,rfl,ha,hb,hx,hz,Y,q2⟩:=h
 cases G
 cases ry
 obtain⟨its,r1,p1,_⟩:=I.tuple ha
 obtain⟨B,r2,Z,_⟩:=I.tuple hb
 refine HT.cat_tup p1 Z (λ z=>hx (r1.nil_iff.mp z)) (λ z=>⟨.ref a,H,I,rfl,Y (r2.nil_iff.mp z)⟩) (λ z=>?_) (by rw[<-r1.length,<-r2.length];exact hz)
 refine⟨.ref s.heap.objs.size,_,I.laid (t':=s.toks) (o:=.tup (J++ys)) (λ b ob q=>au _ q) (ak _) ?_,rfl,q2 (λ w=>z (r2.nil_iff.mpr w)) _ (I.hok.fresh (ak _))⟩
 exact⟨by rw[aE];exact hz,_,r1.append r2,jU _ _⟩
end
noncomputable def ixN (n:Nat)(i:Int):Option Nat:=if 0<=i then(if i<n then some i.toNat else none)else if -(n:Int)<=i then some (i+n).toNat else none
noncomputable def atI {α:Type}(xs:List α)(i:Int):Option α:=(ixN xs.length i).bind λ j=>xs[j]?
theorem aP2 {n:Nat}{i:Int}{j:Nat}(h:ixN n i=some j):seqIndex? i n=some j/\j<n/\-(n:Int)<=i/\i<n:=by
 unfold ixN at h
 by_cases h0:0<=i
 ·rw[if_pos h0]at h
  by_cases h1:i<n
  ·rw[if_pos h1]at h
   have e:i.toNat=j:=ax h
   exact⟨by rw[j5 h0 h1,e],by omega,by omega,h1⟩
  ·rw[if_neg h1]at h;cases h
 ·rw[if_neg h0]at h
  by_cases h1:-(n:Int)<=i
  ·rw[if_pos h1]at h
   have e:(i+n).toNat=j:=ax h
   exact⟨by rw[jK (by omega) h1,e],by omega,h1,by omega⟩
  ·rw[if_neg h1]at h;cases h
theorem aE2 {α:Type}{B:List α}{i:Int}{v:α}(h:atI B i=some v):∃ j,seqIndex? i B.length=some j/\B[j]?=some v/\j<B.length/\-(B.length:Int)<=i/\i<B.length:=by
 unfold atI at h
 cases e:ixN B.length i with
 | none=>rw[e]at h;cases h
 | some j =>
  rw[e]at h
  obtain⟨J,F,h3,G⟩:=aP2 e
  exact⟨j,J,h,F,h3,G⟩
def aS8 (b:Expr):Prop:=∀ o i,subscripted b false o i=operate [o,i] (gM o i)
def IxR (X:Cx)(r:R2):Prop :=
 ∀(value slice:Expr) (pins:List (Addr×Obj)) (s:af) (σ:St) (H:Hp) (x y:V) (v u:Value) (Q:VK),Inv X pins σ H s->RelV x v->RelV y u->r x y H Q ->
  subscripted slice false v u=operate [v,u] (gM v u)->wpAny (model X.prog X.w) X.A (subscriptTail value slice v u) (EP X pins σ Q) X.xe s
def MtR (X:Cx)(id:String)(r:V->List V->Hp->VK->Prop):Prop :=
 ∀(pins:List (Addr×Obj)) (s:af) (σ:St) (H:Hp) (x:V) (xs:List V) (v:Value) (us:List Value) (Q:VK),Inv X pins σ H s->RelV x v->Vals xs us->r x xs H Q ->
  wpAny (model X.prog X.w) X.A (call (.builtin id) (v::us)) (EP X pins σ Q) X.xe s
section
variable {X:Cx} {a b:Expr} {ta tb:TE} {pos:Pos}
theorem bK8 {r:R2}(hr:IxR X r)(ha:PE X a ta)(hb:PE X b tb)(hs:aS8 b):PE X (.Subscript a b pos) (tOp r ta tb):=by
 intro B s σ H Q I h
 exact Subscript_ (bY6 ha hb I h λ v u s2 x y F Y G J q=>hr a b B s2 σ F x y v u Q Y G J q (hs _ _))
def cd5 (K:ac):R2:=λ x y H Q=>∃ p xs i v,x=.ref p/\y=.int i/\SqL K H p xs/\atI xs i=some v/\Q v H
def cc1 (K:ac):R2:=λ x y H Q=>∃ p xs i v,x=.ref p/\y=.int i/\SqT K H p xs/\atI xs i=some v/\Q v H
def cf5:R2:=λ x y H Q=>∃ z i c,x=.str z/\y=.int i/\z.length<=aJ/\atI z.cps.toList i=some c/\Q (.str ⟨#[c]⟩) H
theorem bs9:IxR X (cd5 X.K):=by
 intro Z G B s σ H x y v u Q I rx ry h hs
 obtain⟨p,xs,i,z,rfl,rfl,hq,he,q⟩:=h
 cases rx
 obtain⟨t,rfl⟩:=ry
 obtain⟨its,r,Y,hz⟩:=I.list hq
 obtain⟨j,F,h2,h3,h4,h5⟩:=aE2 he
 obtain⟨w,ew,J⟩:=r.get h2
 have hl:=r.length
 have hn:=ak3
 have fin:EP X B σ Q w s:=⟨z,H,I,J,q⟩
 by_cases h0:0<=i
 ·have hj:i.toNat=j:=by
   rw[j5 h0 h5]at F
   exact ax F
  exact item_listR Y.isList h0 (by omega) (by rw[hj];simpa using ew) fin hs
 ·have hj:(i+(its.toArray.size:Int)).toNat=j:=by
   rw[jK (by omega) h4]at F
   rw[ar,<-hl]
   exact ax F
  exact gO (x:=w) Y.isList.typeIs jL.lookup
   (wpAny_getItem_list_neg (Q:=λ r s'=>r=w/\EP X B σ Q r s') Y.isList (by omega) (by rw[ar]<;>omega) (by omega) (by rw[hj];simpa using ew) ⟨rfl,fin⟩) hs
theorem ix_tup:IxR X (cc1 X.K):=by
 intro J F B s σ H x y v u Q I Z ry h hs
 obtain⟨p,xs,i,z,rfl,rfl,hq,he,q⟩:=h
 cases Z
 obtain⟨t,rfl⟩:=ry
 obtain⟨its,r,Y,hz⟩:=I.tuple hq
 obtain⟨j,h1,h2,h3,h4,h5⟩:=aE2 he
 obtain⟨w,ew,G⟩:=r.get h2
 have hl:=r.length
 have hn:=ak3
 have fin:EP X B σ Q w s:=⟨z,H,I,G,q⟩
 exact gO (x:=w) Y.typeIs bn.lookup
  (getItem_tuple (j:=j) (Q:=λ r s'=>r=w/\EP X B σ Q r s') Y (by omega) (by omega) (by rw[ar,<-hl];exact h1) (by simpa using ew) ⟨rfl,fin⟩) hs
theorem ix_str:IxR X cf5:=by
 intro F B J s σ H x y v u Q I Y ry h hs
 obtain⟨z,i,c,rfl,rfl,hz,he,q⟩:=h
 obtain⟨t,rfl⟩:=Y
 obtain⟨t',rfl⟩:=ry
 obtain⟨j,G,h2,h3,Z,h5⟩:=aE2 he
 have hl:z.cps.toList.length=z.length:=by simp[Str.length]
 rw[hl]at G Z h5
 have hn:=ak3
 exact kB (kC s z t) slot_str_getitem.lookup (getItem_str (c:=c) (by
  have e1:decide (i < -(2^63:Int))=false:=decide_eq_false (by omega)
  have e2:decide (i ≥ 2^63)=false:=decide_eq_false (by omega)
  rw[e1,e2,Bool.or_false]) (by rw[G];simpa using h2) ⟨.str ⟨#[c]⟩,H,I.tok _,⟨_,rfl⟩,q⟩) hs
theorem aN7 (its:List Value)(n j:Nat)(u:Value):gP (·.setIfInBounds j u) { cls:=.type "list",data:=.seq its.toArray n }={ cls:=.type "list",data:=.seq (its.set j u).toArray n }:=by
 simp[gP]
theorem Inv.lst {B:List (Addr×Obj)}{σ:St}{H:Hp}{s:af}{p:Addr}{F:List V}(I:Inv X B σ H s)(h:H p=some (.lst F)) :
  ∃(its:List Value) (n:Nat),Vals F its/\s.heap.get? p=some { cls:=.type "list",data:=.seq its.toArray n }/\F.length<=aJ:=by
 obtain⟨z,its,n,r,e⟩:=I.hok p _ h
 exact⟨its,n,r,e,z⟩
theorem Inv.lstUpd {B:List (Addr×Obj)}{σ:St}{H:Hp}{s:af}{p:Addr}{J ys:List V}{its its':List Value}{n F:Nat}{f:Obj->Obj}(I:Inv X B σ H s)(h:H p=some (.lst J))
  (ho:s.heap.get? p=some { cls:=.type "list",data:=.seq its.toArray n }) (G:f { cls:=.type "list",data:=.seq its.toArray n }={ cls:=.type "list",data:=.seq its'.toArray F }) (r:Vals ys its') (hz:ys.length<=aJ) (t:Nat) :
  Inv X B σ (upd H p (.lst ys)) { s with heap:=s.heap.update p f,toks:=t }:=by
 have e:(s.heap.update p f).get? p=some { cls:=.type "list",data:=.seq its'.toArray F }:=by
  rw[db f ho (by rw[G]<;>rfl),G]
 refine I.write (x:=p) (e:=p) (by rw[h];trivial) (.inl rfl) (λ b u hb q=>(bL _ _ (cw hb)).trans q) ⟨_,e⟩ ?_
 exact⟨hz,its',F,r,e⟩
def bZ5:V->V->V->Hp->(Hp->Prop)->Prop:=λ o i v H Q=>∃ p xs k j,o=.ref p/\i=.int k/\H p=some (.lst xs)/\ixN xs.length k=some j/\Q (upd H p (.lst (xs.set j v)))
theorem bh2:bT8 X bZ5:=by
 intro B s σ H o i v ov iv u Q I ro ri Y h
 obtain⟨p,Z,k,j,rfl,rfl,hp,hj,q⟩:=h
 cases ro
 obtain⟨t,rfl⟩:=ri
 obtain⟨its,n,r,ho,hz⟩:=I.lst hp
 obtain⟨F,h2,h3,G⟩:=aP2 hj
 have hl:=r.length
 have hn:=ak3
 have J:Inv X B σ (upd H p (.lst (Z.set j v))) { s with heap:=s.heap.update p (gP (·.setIfInBounds j u)) } :=
  I.lstUpd hp ho (aN7 its n j u) (r.set Y j) (by rw[bp];exact hz) s.toks
 by_cases h0:0<=k
 ·have hk:k.toNat=j:=by
   rw[j5 h0 G]at F
   exact ax F
  exact PySem.W.ki_setAt ho h0 (by omega) (by rw[ar,<-hl];exact G) (by rw[hk];exact⟨_,J,q⟩)
 ·have hk:(k+(its.toArray.size:Int)).toNat=j:=by
   rw[jK (by omega) h3]at F
   rw[ar,<-hl]
   exact ax F
  exact PySem.W.ki_setBack ho (by omega) (by rw[ar,<-hl];exact h3) (by omega) (by rw[hk];exact⟨_,J,q⟩)
theorem ax6 (F B:Option Int)(n:Nat):(dZ F B none n).1=((HT.sIx n 0 F:Nat):Int)/\(dZ F B none n).2.1=((HT.sIx n n B:Nat):Int)/\(dZ F B none n).2.2=1:=by
 refine⟨?_,?_,rfl⟩
 ·cases F with
  | none=>simp[dZ,HT.sIx]
  | some i =>
   simp only[dZ,HT.sIx,jV,show(1:Int) > 0 by decide,if_true]
   by_cases h:i<0
   ·simp only[h,if_true]<;>omega
   ·simp only[h,if_false]<;>omega
 ·cases B with
  | none=>simp[dZ,HT.sIx]
  | some i =>
   simp only[dZ,HT.sIx,jV,show(1:Int) > 0 by decide,if_true]
   by_cases h:i<0
   ·simp only[h,if_true]<;>omega
   ·simp only[h,if_false]<;>omega
theorem ar6 (its:List Value)(B F:Option Int):slicePick its.toArray B F none=((its.drop (HT.sIx its.length 0 B)).take (HT.sIx its.length its.length F - HT.sIx its.length 0 B)).toArray:=by
 obtain⟨J,G,h3⟩:=ax6 B F its.toArray.size
 unfold slicePick
 rw[J,G,h3]
 simp only[sliceRange_one,pick_run,ar]<;>rfl
def cc0 (K:ac):V->Option Int->Option Int->Hp->VK->Prop:=λ x lo hi H Q=>∃ a xs,x=.ref a/\SqL K H a xs/\∀ p,H p=none->Q (.ref p) (upd H p (.lst (aM4 xs lo hi)))
theorem bB0:SlR X (cc0 X.K):=by
 intro Z s σ H x v vl vu G J sl Q I rx hs pl pu h
 obtain⟨a,B,rfl,hx,q⟩:=h
 cases rx
 obtain⟨its,r,Y,hz⟩:=I.list hx
 have F:=r.length
 refine⟨"list",_,jL.lookup,Y.isList.typeIs,?_⟩
 refine wpAny_getItem_list_slice Y.isList hs pl pu .none (by simp) ?_ (by rw[ar]<;>omega)
 rw[ar6,<-F]
 refine⟨.ref s.heap.objs.size,_,I.laid (t':=s.toks) (o:=.lst (aM4 B G J)) (λ b ob q=>au _ q) (ak _) ?_,rfl,q _ (I.hok.fresh (ak _))⟩
 exact⟨am (ak8 B G J) hz,_,0,(r.drop (HT.sIx B.length 0 G)).take (HT.sIx B.length B.length J - HT.sIx B.length 0 G),aX _ rfl⟩
theorem au9:ac5 X (.builtin "len") (λ Z H Q=>∃ p ys,Z=[.ref p]/\(SqL X.K H p ys\/SqT X.K H p ys)/\Q (.int ys.length) H):=by
 intro Y s σ H Z us Q I r h
 obtain⟨p,ys,rfl,F,q⟩:=h
 obtain⟨u,rfl,rx⟩:=af6 r
 cases rx
 have hn:=ak3
 rcases F with F|F
 ·obtain⟨its,G,J,hz⟩:=I.list F
  have B:=G.length
  exact Calls.call_len_list J.isList (by simp only[ar]<;>omega) ⟨.int ys.length,H,I.tok _,⟨s.toks+1,by rw[ar,B]⟩,q⟩
 ·obtain⟨its,G,J,hz⟩:=I.tuple F
  have B:=G.length
  exact len_tuple J (by simp only[ar]<;>omega) ⟨.int ys.length,H,I.tok _,⟨s.toks+1,by rw[ar,B]⟩,q⟩
theorem au5:ac5 X (.builtin "len") (λ F H Q=>∃ z,F=[.str z]/\z.length<=aJ/\Q (.int z.length) H):=by
 intro B s σ H F us Q I r h
 obtain⟨z,rfl,hz,q⟩:=h
 obtain⟨u,rfl,t,rfl⟩:=af6 r
 have hn:=ak3
 exact len_str (by omega) ⟨.int z.length,H,I.tok _,⟨_,rfl⟩,q⟩
theorem ac5.or {f:Value}{r J:List V->Hp->VK->Prop}(h:ac5 X f r)(h':ac5 X f J):ac5 X f (λ F H Q=>r F H Q\/J F H Q):=by
 intro B s σ H F us Q I G q
 rcases q with q|q
 ·exact h B s σ H F us Q I G q
 ·exact h' B s σ H F us Q I G q
theorem aw1:ac5 X (.type "list") (λ xs H Q=>∃ p ys,xs=[.ref p]/\(SqL X.K H p ys\/SqT X.K H p ys)/\∀ l,H l=none->Q (.ref l) (upd H l (.lst ys))):=by
 intro J s σ H xs us Q I r h
 obtain⟨p,ys,rfl,G,q⟩:=h
 obtain⟨u,rfl,rx⟩:=af6 r
 cases rx
 have fin:∀(its:List Value),Vals ys its->ys.length<=aJ->∀(h':Heap) (B:Nat),(∀ b o',s.heap.get? b=some o'->h'.get? b=some o') ->
   h'.get? s.heap.objs.size=some { cls:=.type "list",dict:=none,data:=.seq its.toArray B,slots:=#[] }->EP X J σ Q (.ref s.heap.objs.size) { s with heap:=h' }:=λ its F hz h' B kp e =>
  ⟨.ref s.heap.objs.size,_,I.laid (t':=s.toks) kp (ak _) (show ac4 X.prog X.w _ h' _ (.lst ys)from⟨hz,its,B,F,e⟩),rfl,q _ (I.hok.fresh (ak _))⟩
 rcases G with G|G
 ·obtain⟨its,F,Z,hz⟩:=I.list G
  have Y:=F.length
  obtain⟨o,ho,hc,n,hd⟩:=Z.isList
  exact call_list_seq p (.inl rfl) ho hc hd (λ h' B kp e=>fin its F hz h' B kp e) (by simp only[ar]<;>omega)
 ·obtain⟨its,F,Z,hz⟩:=I.tuple G
  have Y:=F.length
  obtain⟨o,ho,hc,n,hd⟩:=Z
  exact call_list_seq p (.inr rfl) ho hc hd (λ h' B kp e=>fin its F hz h' B kp e) (by simp only[ar]<;>omega)
theorem ar3:ac5 X (.type "tuple") (λ Y H Q=>∃ p ys,Y=[.ref p]/\((SqL X.K H p ys/\∀ l,H l=none->Q (.ref l) (upd H l (.tup ys)))\/(SqT X.K H p ys/\Q (.ref p) H))):=by
 intro B s σ H Y us Q I r h
 obtain⟨p,ys,rfl,h⟩:=h
 obtain⟨u,rfl,rx⟩:=af6 r
 cases rx
 rcases h with⟨F,q⟩|⟨F,q⟩
 ·obtain⟨its,J,G,hz⟩:=I.list F
  have a0:=J.length
  refine call_tuple_list G.isList (λ h' kp=>?_) (by simp only[ar]<;>omega)
  have Z:Inv X B σ H { s with heap:=h' }:=I.kept (t':=s.toks) kp
  have I2:Inv X B σ (upd H h'.objs.size (.tup ys)) { s with heap:=h'.push { cls:=.type "tuple",data:=.seq its.toArray } } :=
   Z.laid (t':=s.toks) (λ b o e=>au _ e) (ak _) (show ac4 X.prog X.w _ _ _ (.tup ys)from⟨hz,its,J,jU _ _⟩)
  exact⟨.ref h'.objs.size,_,I2,rfl,q _ (Z.hok.fresh (ak _))⟩
 ·obtain⟨its,J,G,hz⟩:=I.tuple F
  exact call_tuple_same G ⟨.ref p,H,I,rfl,q⟩
def tyV (K:ac)(T:String)(x:V)(H:Hp):Prop:=match x with
 | .str _=>T = "str"
 | .int _=>T = "int"
 | .ref p=>(T = "list"/\∃ xs,SqL K H p xs)\/(T = "tuple"/\∃ o,K.lookup p=some o/\o.cls=.type "tuple"/\o.dict=none) \/
   (T = "dict"/\((∃ kvs,H p=some (.dK kvs))\/∃ kvs,H p=some (.dT kvs)))\/(T = "set"/\∃ S n,H p=some (.set S n))
 | _=>False
theorem bl3 {B:List (Addr×Obj)}{σ:St}{H:Hp}{s:af}{T:String}{x:V}{v:Value}(I:Inv X B σ H s)(r:RelV x v)(F:tyV X.K T x H) :
  s.TypeIs v T/\∀ a,v=.ref a->∃ ob,s.heap.get? a=some ob/\ob.dict=none:=by
 cases x with
 | str z =>
  obtain⟨t,rfl⟩:=r
  cases(show T = "str" from F)
  exact⟨kC s z t,λ _ e=>nomatch e⟩
 | int i =>
  obtain⟨t,rfl⟩:=r
  cases(show T = "int" from F)
  exact⟨gQ s i t,λ _ e=>nomatch e⟩
 | ref p =>
  cases r
  rcases F with⟨rfl,Z,Y⟩|⟨rfl,o,hk,hc,hd⟩|⟨rfl,hk⟩|⟨rfl,S,n,hk⟩
  ·obtain⟨its,_,J,_⟩:=I.list Y
   refine⟨J.isList.typeIs,λ a e=>?_⟩
   cases e
   obtain⟨o,n,e,c,hd,_⟩:=J
   exact⟨o,e,hd⟩
  ·refine⟨⟨o,I.kIn p o hk,hc⟩,λ a e=>?_⟩
   cases e
   exact⟨o,I.kIn _ o hk,hd⟩
  ·have z:∃ o,s.heap.get? p=some o/\o.ExactDict:=by
    rcases hk with⟨G,hk⟩|⟨G,hk⟩
    ·obtain⟨_,_,_,_,o,_,_,e,ex,_⟩:=I.hok p _ hk
     exact⟨o,e,ex⟩
    ·obtain⟨_,_,_,_,o,_,_,e,ex,_⟩:=I.hok p _ hk
     exact⟨o,e,ex⟩
   obtain⟨o,e,ex⟩:=z
   refine⟨⟨o,e,ex.1⟩,λ a e2=>?_⟩
   cases e2
   exact⟨o,e,ex.2.1⟩
  ·obtain⟨o,_,_,_,e,ex,_⟩:=I.hok p _ hk
   refine⟨⟨o,e,ex.1⟩,λ a e2=>?_⟩
   cases e2
   exact⟨o,e,ex.2.1⟩
 | _=>exact bj F
def cb5 (K:ac)(T:String)(r:V->List V->Hp->VK->Prop)(to:TE):TE:=λ σ H Q=>to σ H λ x H1=>tyV K T x H1/\r x [] H1 Q
def tBM (K:ac)(T:String)(r:V->List V->Hp->VK->Prop)(to:TE)(t:TA):TE:=λ σ H Q=>to σ H λ x H1=>tyV K T x H1/\t σ H1 λ xs H2=>r x xs H2 Q
variable {o e:Expr} {es:List Expr} {to:TE} {t:TA} {name:Str} {apos cpos:Pos} {T id:String} {r:V->List V->Hp->VK->Prop}
theorem bP7 (pa:kD T)(slot:Slot T name id)(J:jr (.builtin id)=pure (.type "method_descriptor"))(hm:MtR X id r)(ho:PE X o to)
  (G:eS o name X.env (eval o X.env)=eval o X.env:=by rfl) (F:(apos.endLine==cpos.line)=true:=by rfl):PE X (.Call (.Attribute o name apos) [] [] cpos) (cb5 X.K T r to):=by
 intro B s σ H Q I h
 refine wpAny_Call_method0_late G F (thn (ho B s σ H _ I h) λ v s1 ⟨x,H1,Y,r1,ty,q1⟩=>?_)
 obtain⟨h1,Z⟩:=bl3 Y r1 ty
 exact⟨T,id,pa,slot,J,h1,Z,gR rfl (PySem.evalArgs_none (hm B s1 σ H1 x [] v [] Q Y r1 .nil q1))⟩
theorem bY7 (pa:kD T)(slot:Slot T name id)(Z:jr (.builtin id)=pure (.type "method_descriptor"))(hm:MtR X id r)(ho:PE X o to)(ha:PA X (e::es) t)
  (G:eS o name X.env (eval o X.env)=eval o X.env:=by rfl)
  (Y:((d7 cpos (br (e::es) X.env)).all (λ x=>!x.1)&&(backToKw cpos (j6 [] X.env)).all (λ x=>x.1.isSome)
   && decide ((e::es).length+([]:List iX).length+(if([]:List iX).isEmpty then 0 else 1)<30))=true:=by rfl)
  (J:(apos.endLine==cpos.line)=true:=by rfl) (hs:br (e::es) X.env=(false,eval e X.env)::br es X.env:=by rfl) (F:(d7 cpos (br es X.env)).any (·.1)=false:=by rfl) :
  PE X (.Call (.Attribute o name apos) (e::es) [] cpos) (tBM X.K T r to t):=by
 intro B s σ H Q I h
 refine wpAny_Call_method_late G Y J rfl (thn (ho B s σ H _ I h) λ v s1 ⟨x,H1,I1,r1,ty,q1⟩=>?_)
 obtain⟨h1,h2⟩:=bl3 I1 r1 ty
 refine⟨T,id,pa,slot,Z,h1,h2,?_⟩
 have hA:=ha cpos B s1 σ H1 _ I1 q1
 rw[hs]at hA ⊢
 refine gR (by show(false||(d7 cpos (br es X.env)).any (·.1))=false;rw[F]<;>rfl) (iI ?_)
 exact thn hA λ us s2 ⟨vs,H2,I2,r2,q2⟩=>hm B s2 σ H2 x vs v us Q I2 r1 r2 q2
end
def MtM (X:Cx)(id:String)(r:V->List V->Hp->VK->Prop):Prop :=
 ∀(pins:List (Addr×Obj)) (s:af) (σ:St) (H:Hp) (x:V) (xs:List V) (v:Value) (us:List Value) (Q:VK),Inv X pins σ H s->RelV x v->Vals xs us->r x xs H Q ->
  wpAny (model X.prog X.w) X.A (call (.builtin id) (v::us)) (EP X pins σ Q) X.xe s
theorem Vals.one:∀ {x:V} {us:List Value},Vals [x] us->∃ u,us=[u]/\RelV x u
 | _,_,.cons r .nil=>⟨_,rfl,r⟩
theorem Vals.zero:∀ {us:List Value},Vals [] us->us=[]
 | _,.nil=>rfl
theorem Vals.dropLast {B:List V}{us:List Value}(h:Vals B us):Vals B.dropLast us.dropLast:=by
 induction h with
 | nil=>exact .nil
 | cons r t ih =>
  cases t with
  | nil=>exact .nil
  | cons q t'=>exact .cons r ih
theorem Vals.reverse {B:List V}{us:List Value}(h:Vals B us):Vals B.reverse us.reverse:=by
 induction h with
 | nil=>exact .nil
 | cons r t ih=>rw[ee,ee];exact Vals.append ih (.cons r .nil)
theorem Vals.rep {B:List V}{us:List Value}(h:Vals B us):∀ k:Nat,Vals (aq k B).flatten (aq k us).flatten
 | 0=>.nil
 | k+1=>by
  rw[bG,bG,cJ,cJ]
  exact Vals.append h (Vals.rep h k)
theorem aw5 (its:List Value):∀(k:Nat) (B:List Value),
  kE (λ x1 F=>x1++F) B.toArray (aq k its.toArray)=(B++(aq k its).flatten).toArray
 | 0,B=>by simp
 | k+1,B=>by
  have e:B.toArray++its.toArray=(B++its).toArray:=by simp
  have e2:(B++its)++(aq k its).flatten=B++(aq (k+1) its).flatten:=by
   rw[bG,cJ,dk]
  rw[<-e2,<-aw5 its k (B++its),<-e,bG,cZ]
section
variable {X:Cx} {pins:List (Addr×Obj)} {σ:St} {H:Hp} {s:af} {l b:Addr} {xs ys zs:List V}
theorem Inv.lset {its its':List Value}{n:Nat}{f:Array Value->Array Value}{t':Nat}(I:Inv X pins σ H s)(F:H l=some (.lst xs))
  (e:s.heap.get? l=some { cls:=.type "list",data:=.seq its.toArray n }) (B:f its.toArray=its'.toArray) (hv:Vals ys its') (hz:ys.length<=aJ) :
  Inv X pins σ (upd H l (.lst ys)) { s with heap:=s.heap.update l (gP f),toks:=t' }:=by
 have q:=PySem.IsL.update e f
 rw[B]at q
 refine I.write (x:=l) (e:=l) (by rw[F];exact trivial) (.inl rfl) (λ G u hb hu=>(bL s.heap (gP f) (cw hb)).trans hu) ⟨_,q⟩ ?_
 exact⟨hz,its',_,hv,q⟩
theorem Inv.lnew {its:List Value}{t':Nat}(I:Inv X pins σ H s)(hv:Vals ys its)(hz:ys.length<=aJ) :
  Inv X pins σ (upd H s.heap.objs.size (.lst ys)) { s with heap:=s.heap.push { cls:=.type "list",data:=.seq its.toArray },toks:=t' } :=
 I.laid (λ _ _ q=>au _ q) (ak _) ⟨hz,its,0,hv,aX _ rfl⟩
theorem Inv.fresh (I:Inv X pins σ H s):H s.heap.objs.size=none:=I.hok.fresh (ak _)
theorem Inv.lstM (I:Inv X pins σ H s)(B:H l=some (.lst xs)):xs.length<=aJ/\∃(its:List Value) (n:Nat),Vals xs its/\xs.length=its.length/\s.heap.get? l=some { cls:=.type "list",data:=.seq its.toArray n }:=by
 obtain⟨z,its,n,r,e⟩:=I.hok l _ B
 exact⟨z,its,n,r,r.length,e⟩
theorem bh9 {n:Nat}(h:n<=aJ):dL n=false:=by
 unfold dL
 exact decide_eq_false (by omega)
end
section
variable {X:Cx}
def bq4:V->List V->Hp->VK->Prop:=λ x vs H Q=>∃ l xs y,x=.ref l/\vs=[y]/\H l=some (.lst xs)/\xs.length<aJ/\Q .non (upd H l (.lst (xs++[y])))
theorem av8:MtM X "list.append" bq4:=by
 intro B s σ H x vs v us Q I J Y h
 obtain⟨l,xs,y,rfl,rfl,G,hz,q⟩:=h
 cases J
 obtain⟨u,rfl,Z⟩:=Y.one
 obtain⟨z,its,n,r,hl,e⟩:=I.lstM G
 refine js ip ⟨_,e,rfl⟩ F.entry_list_append (F.args_list_append_2 _ _) (PySem.list_append l its.toArray n u (by rw[ar];omega)) ⟨e,?_⟩
 refine⟨.non,_,I.lset (its':=its++[u]) G e (by simp) (r.append (.cons Z .nil)) ?_,rfl,q⟩
 rw[aE,dg]
 omega
def cf9:R2:=λ x y H Q=>∃ l b xs zs,x=.ref l/\y=.ref b/\H l=some (.lst xs)/\H b=some (.lst zs)/\xs.length+zs.length<=aJ/\∀ p,H p=none->Q (.ref p) (upd H p (.lst (xs++zs)))
theorem bM3:OpR X (cr .Add) cf9:=by
 intro F s σ H x y v u Q I G Z h
 obtain⟨l,b,xs,zs,rfl,rfl,hH,hB,hz,q⟩:=h
 cases G
 cases Z
 obtain⟨z,its,n,r,hl,e⟩:=I.lstM hH
 obtain⟨z2,B,n2,r2,Y,e2⟩:=I.lstM hB
 refine PySem.P.add_list e e2 ?_ (by rw[ar,ar];omega)
 have J:its.toArray++B.toArray=(its++B).toArray:=by simp
 rw[J]
 exact⟨.ref _,_,I.lnew (t':=s.toks) (r.append r2) (by rw[aE];omega),rfl,q _ I.fresh⟩
def cf7:R2:=λ x y H Q=>∃ l k xs,x=.ref l/\y=.int k/\H l=some (.lst xs)/\-(2^63)<=k/\k<2^63/\xs.length*k.toNat<=aJ /\
 ∀ p,H p=none->Q (.ref p) (upd H p (.lst (aq k.toNat xs).flatten))
theorem bn3 {α:Type}(B:List α)(k:Nat):(aq k B).flatten.length=k*B.length:=by
 induction k with
 | zero=>simp
 | succ k ih=>rw[bG,cJ,aE,ih,Nat.succ_mul,fz]
theorem bH3:OpR X (cr .Mult) cf7:=by
 intro a0 s σ H x y v u Q I rx ry h
 obtain⟨l,k,xs,rfl,rfl,hH,h1,h2,hz,q⟩:=h
 cases rx
 obtain⟨t,rfl⟩:=ry
 obtain⟨z,its,n,r,hl,e⟩:=I.lstM hH
 have Z:its.toArray.size*k.toNat<=aJ:=by rw[ar,<-hl];exact hz
 have G:¬ its.toArray.size*k.toNat > (2^63 - 1) / 8:=by
  have:(aJ:Nat)<=(2^63 - 1) / 8:=by decide
  omega
 have Y:¬(!Builtin.List.listFitsIndex k)=true:=by
  rw[fitsIndex_both h1 h2]
  exact aR
 have B:¬ dL (its.toArray.size*k.toNat)=true:=by
  rw[bh9 Z]
  exact aR
 have J:kE (λ x1 x2=>x1++x2) #[] (aq (if its.toArray.isEmpty=true then 0 else k.toNat) its.toArray)=(aq k.toNat its).flatten.toArray:=by
  have f0:∀ m:Nat,kE (λ x1 x2=>x1++x2) #[] (aq m its.toArray)=(aq m its).flatten.toArray:=λ m=>by
   have:=aw5 its m []
   rw[g9]at this
   exact this
  rw[f0]
  cases its with
  | nil=>simp
  | cons a r'=>rw[if_neg (by simp)]
 refine fO (T := "list") (U := "int") (by decide) ⟨_,e,rfl⟩ (λ s'=>gQ s' k t) noFill_list_mul jt dW repeat_list ja.lookup
  (js dW (gQ s k t) jb (iJ _ _) (int___rmul___int_list k t l its.toArray n)
   ⟨e,rfl,⟨_,e,rfl⟩,js F.slot_list_mul ⟨_,e,rfl⟩ F.entry_list_mul (F.args_list_mul_2 _ _) (AutoListH.list___mul___list_int_3 l its.toArray n k t Y G B) ⟨e,?_⟩⟩)
 rw[J]
 exact⟨.ref _,_,I.lnew (t':=s.toks) (r.rep k.toNat) (by rw[bn3,kX];exact hz),rfl,q _ I.fresh⟩
end
section
variable {prog:az} {w:World} {A:aN} {E:Value->af->Prop} {s:af}
end
section
variable {X:Cx}
end
end L2
end
noncomputable section
namespace Att
open PySem PySem.W PySem.Calls PyProof.Rows
theorem ints_of_wellAll {P:Params}{h:Heap}:∀(ns:List Int) (vs:List Value),WellAll P h vs (ns.map WData.int)->ko vs ns:=by
 intro ns
 induction ns with
 | nil =>
  intro vs w
  rw[gS]at w
  cases w
  exact .nil
 | cons n ns ih =>
  intro vs w
  rw[aS]at w
  cases w with
  | cons a b =>
   cases a
   exact .cons _ _ (ih _ b)
theorem script_of {l:OpenLaw}{n:Nat}(hn:l.most=some n){P:Params}{h:Heap}{args:List WData}{B:List Value}
  (F:l.row.toRowW.claim.pre args=true) (a0:WellAll P h B args) :
  ∃ a vs ns,B=[Value.ref a]/\args=[WData.list (ns.map WData.int)]/\h.get? a=some { cls:=.type "list",data:=.seq vs.toArray }/\ko vs ns/\ns.length<=n:=by
 have Z:WShape.hasAll [] args [.list .int]=true:=(pre_splitW F).1
 have hc:l.pre.holds [] { args:=args }=true:=(pre_splitW F).2
 obtain⟨d,r,rfl,h1,h2⟩:=hasAllW_cons Z
 obtain rfl:=hasAllW_nil h2
 obtain⟨xs,rfl,h3⟩:=hasW_list h1
 obtain⟨ns,rfl⟩:=items_int h3
 have G:ns.length<=n:=by
  unfold OpenLaw.pre at hc
  have J:(WTm.not (.lt (.lit (.int (n:Int))) (.len (.arg 0)))).holds [] { args:=[.list (ns.map .int)] }=true:=by
   have J:=(holds_andW hc).1
   rw[hn]at J
   exact J
  have Y:=condW_of J (w_not (w_lt w_lit (w_len_list (w_arg rfl))))
  rw[aw]at Y
  refine jW λ q=>?_
  have q':(n:Int)<((ns.length:Nat):Int):=by omega
  first
   | (rw[decide_eq_true q']at Y;exact absurd Y (by decide))
   | (simp at Y;omega)
 cases a0 with
 | cons w1 w2 =>
  cases w2
  cases w1 with
  | list ho hall=>exact⟨_,_,ns,rfl,rfl,ho,ints_of_wellAll ns _ hall,G⟩
theorem post_true (l:OpenLaw)(args:List WData):l.row.toRowW.claim.post args (.bool true) args=true :=
 postW_of (r:=l.row.toRowW) (X:=(true==true))
  (show WShape.has [] (.bool true) .bool=true by first|rfl|decide|simp[WShape.has,WShape.arms,WShape.armsAll])
  (show(WTm.eq .res (.lit (.bool true))).value [] { args:=args,res:=some (.bool true),after:=args }=some (.bool (true==true))from w_eq_bool (w_res rfl) w_lit) rfl
theorem attach_call {l:OpenLaw}{n:Nat}{q:az}{loose:List Str}{XP:(Str->Option Value)->Heap->Prop}{YP:World->Heap->Prop}{d:DefRec}
  (hn:l.most=some n) (a3:d.params.defaults=[])
  (call:∀(w:World) (s₀ B:af) (mg mb:Str->Option Value) (fa:Addr) (o:Obj) (pm cd F:Value) (a:Addr) (vs:List Value) (ns:List Int),
   Ground q loose [] XP w s₀ mg mb B.heap->YP w B.heap ->
   B.heap.get? fa=some o->o.data=.func (docDef d.name d.params d.body d.scope pm cd F)->B.heap.CodeRec cd d.name->mg d.name=some (.ref fa) ->
   B.heap.get? a=some { cls:=.type "list",data:=.seq vs.toArray }->ko vs ns->ns.length<=n->B.gens=#[] ->
   fy (model l.prog w) iY (.call (.ref fa) ⟨[.ref a],[]⟩) (λ r s'=>r=.ok (.ret (.bool true))/\OldK B.heap s'.heap/\s'.os=B.os/\fu s'.gens) B) :
  WalkO q loose XP YP l.row.toRowW d [] (λ f vs=>kq f vs):=by
 intro w s₀ B mg mb G Y fa o pm cd F dV kV ho hd a2 hD a5 hg args b0 as a1 a6 b1 a4 b2
 obtain rfl:dV=.none:=Dflts.none hD a3
 obtain rfl:kV=.none:=Dflts.noKw hD
 obtain⟨a,vs,ns,rfl,rfl,Z,J,a0⟩:=script_of hn a1 a4
 refine enter_call (jH (call w s₀ B mg mb fa o pm cd F a vs ns G Y ho (fd_plain hd) a2 a5 Z J a0 hg) λ r s' hq=>?_)
 obtain⟨rfl,h2,h3,h4⟩:=hq
 exact⟨.inl ⟨.bool true,.bool true,[],rfl,λ _=>rfl,.bool true,post_true l _,λ _=>⟨List.Pairwise.nil,λ _ hm=>(nomatch hm)⟩⟩,h2,h3,h4⟩
section
variable {prog:az} {w:World} {A:aN} {E:Value->af->Prop} {s:af} {K:Frag}
end
end Att
noncomputable section
namespace L2
open PySem PySem.Spec PyProof.Rows
theorem ay7:∀ {vs:List Value} {ns:List Int},ko vs ns->Vals (ns.map V.int) vs
 | _,_,.nil=>.nil
 | _,_,.cons n t h=>.cons ⟨t,rfl⟩ (ay7 h)
noncomputable def defArgs (s:Stmt):bW:=match s with
 | .FunctionDef _ a _ _ _ _ _ _ _ _=>a
 | _=>{ posonlyargs:=[],args:=[],vararg:=none,kwonlyargs:=[],kw_defaults:=[],kwarg:=none,defaults:=[] }
noncomputable def zt (s:Stmt):List Stmt:=match s with
 | .FunctionDef _ _ b _ _ _ _ _ _ _=>b
 | _=>[]
noncomputable def defScope (s:Stmt):Scope:=match s with
 | .FunctionDef _ _ _ _ _ _ sc _ _ _=>sc
 | _=>{ kind:=.function,names:=[],isGenerator:=false,isCoroutine:=false }
noncomputable abbrev CX0:CXT:=λ _ _ _ _ _ _=>False
abbrev E0:XK:=λ _ _ _=>False
theorem bG8 {X:Cx}:ag3 CX0 X E0:=λ _ _ _ _ _ _ _ h=>h.elim
structure Fun (K:ac)(x qual:Str)(st:Stmt)(f:Addr)(fd:bI):Prop where
 ex:∃(oc:Value) (od:Option Addr) (kV doc pm:Value) (an:Option Addr) (cdv ct:Value) (osl:Array (Option Value)),
  fd=cU x qual (defArgs st) (zt st) (defScope st) .none kV doc pm an cdv ct/\K.lookup f=some ⟨oc,od,.func fd,osl⟩/\fJ K cdv qual=true
 kp:cc K (.ref f)=true
section
variable {P:az} {w:World} {K:ac} {mg:Str->Option Value} {base:Heap}
theorem Fun.ok {x qual:Str}{st:Stmt}{f:Addr}{fd:bI}{N ps:List Str}{k:Nat}{sp:Sp}(F:Fun K x qual st f fd)(S:FnScope N ps (defScope st))(len:∀ vs H Q E,sp vs H Q E->vs.length=ps.length)
  (J:∀(G:Value) (A:aN) (B:List Env) (s:af) (H:Hp) (vs:List V) (Q:VK) (E:XK),Room k (A.deeper (fe qual (defScope st) s.heap.objs.size f G))->sp vs H Q E ->
   ∃ t,PSs (at4 CX0 P w K mg base N qual (defScope st) f G A B s H E).nox (zt st) t/\t { nx:=λ _ H'=>Q .non H',rt:=Q } (qT N vs) H):FnOk P w K mg base CX0 (k+1) f fd ps sp:=by
 obtain⟨oc,od,kV,a0,pm,an,G,ct,a1,rfl,lk,Y⟩:=F.ex
 refine bA4 lk Y S len λ A B s H vs Q E hr Z=>?_
 obtain⟨t,h,q⟩:=J G A B s H vs Q E hr Z
 exact⟨t,h.nox,q⟩
theorem Fun.binds {x qual:Str}{st:Stmt}{f:Addr}{Z:bI}{ps:List Str}(F:Fun K x qual st f Z)
  (h:∀(kV B Y:Value) (J:Option Addr) (G ct:Value) (us:List Value),us.length=ps.length->d9 (cU x qual (defArgs st) (zt st) (defScope st) .none kV B Y J G ct) ⟨us,[]⟩=pure (ps.zip us)):Binds K Z ps []:=by
 obtain⟨oc,od,kV,B,Y,J,G,ct,a0,rfl,lk,a1⟩:=F.ex
 exact .all (h kV B Y J G ct)
theorem bj3 {x qual:Str}{st:Stmt}{f:Addr}{oc:Value}{od J:Option Addr}{G:Array (Option Value)}{kV F Y B ct:Value}(l:K.lookup f=some ⟨oc,od,.func (cU x qual (defArgs st) (zt st) (defScope st) .none kV F Y J B ct),G⟩)
  (c:fJ K B qual=true) (k:cc K (.ref f)=true):Fun K x qual st f (cU x qual (defArgs st) (zt st) (defScope st) .none kV F Y J B ct):=⟨⟨oc,od,kV,F,Y,J,B,ct,G,rfl,l,c⟩,k⟩
end
section
variable {X:Cx}
end
theorem cg2 {A B:Prop}(h:B):if false=true then A else B:=by
 rw[if_neg aR]
 exact h
theorem iteT {A B:Prop}(h:A):if true=true then A else B:=by
 rw[if_pos rfl]
 exact h
def ad0 (H H':Hp):Prop:=∀ b o,H b=some o->H' b=some o
theorem ad0.refl (H:Hp):ad0 H H:=λ _ _ h=>h
theorem ad0.trans {H F B:Hp}(a:ad0 H F)(b:ad0 F B):ad0 H B:=λ c o h=>b c o (a c o h)
theorem aY3 {prog:az}{w:World}{A:aN}{R:jT->af->Prop}{s:af}{J B iter:Expr}{F:List Expr}{scope:Scope}{pos:Pos}{it G:Value}{env:Env}(I:Nat->af->Prop)
  (turn:∀ n s,I n s->wpAny (model prog w) A (jR it) (λ r s₁=>match r with
   | none=>R (.ok .next) s₁
   | some v=>wpAny (model prog w) A (e8 B it v) (λ _ Y=>wpAny (model prog w) A (gJ B env v) (λ _ s₂ =>
     wpAny (model prog w) A (forIn F true λ c r=>if r=true then do let ok <- dU c env (eval c env);pure (ForInStep.yield ok)else pure (ForInStep.yield r)) (λ ok Z =>
      if ok=true then wpAny (model prog w) A (eval J env) (λ x s₄ =>
       wpAny (model prog w) A (call (.builtin "list.append") [G,x]) (λ _ s₅=>∃ m,m<n/\I m s₅) (fA (model prog w) A env λ e s'=>R (.error e) s') s₄) (fA (model prog w) A env λ e s'=>R (.error e) s') Z
      else ∃ m,m<n/\I m Z) (fA (model prog w) A env λ e s'=>R (.error e) s') s₂) (fA (model prog w) A env λ e s'=>R (.error e) s') Y) (fA (model prog w) A env λ e s'=>R (.error e) s') s₁) (fA (model prog w) A env λ e s'=>R (.error e) s') s)
  (n:Nat) (h:I n s) :
  fy (model prog w) A (.compLoop (.ListComp J [⟨B,iter,F,0⟩] scope pos) 0 it G env) R s:=by
 refine codeAny_loop rfl I (λ n s hI=>?_) n h
 show wpAny _ A ((compTurn (.ListComp J [⟨B,iter,F,0⟩] scope pos) 0 it G env).onRaise (λ x=>do jX x env;theTreesLotGoes x)) _ _ s
 refine wpAny_noted ?_
 rw[compTurn_list]
 refine ae (jf (ae (a8 (turn n s hI) (λ r s₁ h₁=>?_) λ _ _ h'=>h')))
 cases r with
 | none=>exact ao h₁
 | some v =>
  refine ae (a8 h₁ (λ _ Y a0=>?_) λ _ _ h'=>h')
  refine ae (a8 a0 (λ _ s₂ h₂=>ae (a8 h₂ (λ ok Z h₃=>?_) λ _ _ h'=>h')) λ _ _ h'=>h')
  cases ok with
  | false=>exact ao ⟨rfl,h₃⟩
  | true =>
   exact ae (ae (a8 h₃ (λ x s₄ h₄=>ae (a8 h₄ (λ _ s₅ h₅=>ao (ao ⟨rfl,h₅⟩)) λ _ _ h'=>h')) λ _ _ h'=>h'))
noncomputable def an1 (cells:List (Str×Addr)):List (Str×cf)->List (Str×Addr)->List (Str×Addr)
 | [],acc=>acc
 | (n,k)::r,acc=>an1 cells r (if k==.free then(match cells.lookup n with|some c=>(n,c)::acc|none=>acc)else acc)
theorem ae9 {env:Env}:∀(names:List (Str×cf)) (B:List (Str×Addr)),(∀ y∈names,y.2=.free->∃ c,env.cells.lookup y.1=some c) ->
  (forIn names B λ(x:Str×cf) (cs:List (Str×Addr))=>(if x.2==.free then do let c <- cellOf env x.1;pure (ForInStep.yield ((x.1,c)::cs))else pure (ForInStep.yield cs):Sem (ForInStep (List (Str×Addr)))))=pure (an1 env.cells names B)
 | [],B,_=>by rw[fL];rfl
 | (n,k)::r,B,h=>by
  have F:=λ a=>ae9 r a λ y hy=>h y (ai _ hy)
  rw[hG]
  unfold an1
  cases e:(k==NameKind.free)with
  | false =>
   simp only[bC,if_false]
   exact F B
  | true =>
   have hk:k=.free:=by simpa using e
   obtain⟨c,hc⟩:=h (n,k) av hk
   have e1:cellOf env n=pure c:=by unfold cellOf;rw[hc]
   simp only[if_true,e1,hc]
   exact F _
theorem ag7 {scope:Scope}{env:Env}(h:∀ y∈scope.names,y.2=.free->∃ c,env.cells.lookup y.1=some c):closureFor scope env=pure (an1 env.cells scope.names []):=by
 have:=ae9 (env:=env) scope.names [] h
 show(forIn scope.names [] (λ(x:Str×cf) (cs:List (Str×Addr))=>(if x.2==.free then do let c <- cellOf env x.1;pure (ForInStep.yield ((x.1,c)::cs))else pure (ForInStep.yield cs):Sem (ForInStep (List (Str×Addr))))) >>= λ cs=>pure cs)=_
 rw[this]
 rfl
theorem clOf_mem {cells:List (Str×Addr)}{n:Str}{c:Addr}:∀ {names:List (Str×cf)} {B:List (Str×Addr)},(n,c)∈an1 cells names B->cells.lookup n=some c\/(n,c)∈B
 | [],_,h=>.inr h
 | (m,k)::r,B,h=>by
  unfold an1 at h
  rcases clOf_mem h with z|z
  ·exact .inl z
  ·cases e:(k==NameKind.free)with
   | false=>simp only[e,bC,if_false]at z;exact .inr z
   | true =>
    simp only[e,if_true]at z
    cases q:cells.lookup m with
    | none=>rw[q]at z;exact .inr z
    | some d =>
     rw[q]at z
     rcases aA.mp z with y|y
     ·cases y;exact .inl q
     ·exact .inr y
theorem aH5 {cells:List (Str×Addr)}{n:Str}{c:Addr}(hc:cells.lookup n=some c):∀ {names:List (Str×cf)} {B:List (Str×Addr)},((n,NameKind.free)∈names\/(n,c)∈B)->(n,c)∈an1 cells names B
 | [],_,h=>by rcases h with h|h;(exact absurd h (by simp));exact h
 | (m,k)::r,B,h=>by
  unfold an1
  refine aH5 hc ?_
  rcases h with h|h
  ·rcases aA.mp h with e|h
   ·cases e
    right
    simp[hc]
   ·exact .inl h
  ·right
   cases e:(k==NameKind.free)with
   | false=>simpa using h
   | true =>
    simp only[if_true]
    cases q:cells.lookup m with
    | none=>exact h
    | some d=>exact ai _ h
theorem ag0 {α:Type}{n:Str}{c:α}:∀ {l:List (Str×α)},(n,c)∈l->(∀ d,(n,d)∈l->d=c)->l.lookup n=some c
 | (m,d)::r,h,u=>by
  rw[aY]
  cases e:n==m with
  | true =>
   have e':=beq_iff_eq.mp e
   subst e'
   rw[u d av]
  | false =>
   rcases aA.mp h with z|z
   ·cases z;simp at e
   ·exact ag0 z λ d' h'=>u d' (ai _ h')
theorem aE1 {cells:List (Str×Addr)}{n:Str}{c:Addr}{names:List (Str×cf)}(hc:cells.lookup n=some c)(h:(n,NameKind.free)∈names):(an1 cells names []).lookup n=some c:=by
 refine ag0 (aH5 hc (.inl h)) λ d hd=>?_
 rcases clOf_mem hd with z|z
 ·rw[hc]at z;exact(ax z).symm
 ·exact absurd z (by simp)
theorem zf:∀(names:List (Str×cf)) (n:Nat) (B:List (Str×Addr)),aK n names B=aK n names []++B
 | [],_,B=>by simp[aK]
 | (x,k)::r,n,B=>by
  unfold aK
  split
  ·rw[zf r (n+1) ((x,n)::B),zf r (n+1) [(x,n)]]
   simp
  ·exact zf r n B
theorem zx:∀ {names:List (Str×cf)} {n:Nat} {B:List (Str×Addr)} {x:Str} {c:Addr},(x,c)∈aK n names B->(x,NameKind.cell)∈names\/(x,c)∈B
 | [],_,_,_,_,h=>.inr h
 | (y,k)::r,n,B,x,c,h=>by
  unfold aK at h
  split at h
  ·rename_i hk
   rcases zx h with z|z
   ·exact .inl (ai _ z)
   ·rcases aA.mp z with e|z
    ·cases e
     have:k=.cell:=by simpa using hk
     subst this
     exact .inl av
    ·exact .inr z
  ·rcases zx h with z|z
   ·exact .inl (ai _ z)
   ·exact .inr z
theorem zE {α:Type}(x:Str):∀(l r:List (Str×α)),(l++r).lookup x=(l.lookup x).or (r.lookup x)
 | [],r=>by simp
 | (y,v)::l,r=>by
  rw[gv,aY,aY]
  cases x==y with
  | true=>rfl
  | false=>exact zE x l r
noncomputable def zS (N':List Str)(src:List (Option Nat))(scope:Scope)(XN:List Str)(xs:Scope):Bool :=
 (scope.kind==.function) &&
 (scope.names.all λ y=>!(y.2==.free)||(xs.names.lookup y.1==some .cell||xs.names.lookup y.1==some .free)) &&
 (scope.names.all λ y=>!(y.2==.local)||scope.names.lookup y.1==some .local) &&
 (scope.names.all λ y=>!(y.2==.cell)||(scope.names.all λ z=>!(z.1==y.1)||z.2==.cell)) &&
 (src.length==N'.length) &&
 ((N'.zip src).all λ y=>match y.2 with|none=>true|some j=>XN[j]?==some y.1&&scope.names.lookup y.1==some .free)
structure CompCk (N':List Str)(src:List (Option Nat))(scope:Scope)(XN:List Str)(xs:Scope):Prop where
 kind:scope.kind=.function
 fr:∀ y∈scope.names,y.2=.free->xs.names.lookup y.1=some .cell\/xs.names.lookup y.1=some .free
 loc:∀ y∈scope.names,y.2=.local->scope.names.lookup y.1=some .local
 cel:∀ y∈scope.names,y.2=.cell->∀ z∈scope.names,z.1=y.1->z.2=.cell
 len:src.length=N'.length
 sr:∀(i j:Nat) (x:Str),src[i]?=some (some j)->N'[i]?=some x->XN[j]?=some x/\scope.names.lookup x=some .free
theorem bk3 {B:List Str}{src:List (Option Nat)}{scope:Scope}{F:List Str}{G:Scope}(h:zS B src scope F G=true):CompCk B src scope F G:=by
 unfold zS at h
 simp only[ag]at h
 obtain⟨⟨⟨⟨⟨h1,Y⟩,h3⟩,Z⟩,J⟩,h6⟩:=h
 refine⟨by simpa using h1,λ y hy e=>?_,λ y hy e=>?_,λ y hy e z hz ez=>?_,by simpa using J,λ i j x e1 e2=>?_⟩
 ·have:=aM.mp Y y hy
  simpa [e]using this
 ·have:=aM.mp h3 y hy
  simpa [e]using this
 ·have:=aM.mp Z y hy
  simp only[e,beq_self_eq_true,dI,ji]at this
  have:=aM.mp this z hz
  simpa [ez]using this
 ·have hm:(x,some j)∈B.zip src:=by
   refine a7 (i:=i) ?_
   rw[List.getElem?_zip_eq_some]
   exact⟨e2,e1⟩
  have:=aM.mp h6 _ hm
  simpa using this
noncomputable abbrev zH (X:Cx)(N':List Str)(scope:Scope)(C:Addr)(cells:List (Str×Addr))(s:af)(H:Hp)(ex:List Addr):Cx where
 prog:=X.prog
 w:=X.w
 K:=X.K
 mg:=X.mg
 base:=X.base
 A:=X.A
 N:=N'
 s₀:=s
 H₀:=H
 env:={ scope:=eT scope X.env,locals:=C,globals:=X.env.globals,cells:=cells,qual:=X.env.qual,func:=none,code:=X.env.code,frame:=X.env.frame,builtins:=X.env.builtins }
 outer:=X.stack
 stack:=X.stack
 ex:=ex
 fn:=λ x=>scope.names.lookup x==some .cell
 calm:=X.calm
 pn:=[]
 xe:=λ _ _=>False
def PIf (X:Cx)(ifs:List Expr)(t:TT):Prop :=
 ∀(pins:List (Addr×Obj)) (s:af) (σ:St) (H:Hp) (Q:Bool->Hp->Prop),Inv X pins σ H s->t σ H Q ->
  wpAny (model X.prog X.w) X.A (forIn ifs true λ c r=>if r=true then do let ok <- dU c X.env (eval c X.env);pure (ForInStep.yield ok)else pure (ForInStep.yield r)) (TP X pins σ Q) X.xe s
def cg0:TT:=λ _ H Q=>Q true H
theorem bp1 {X:Cx}:PIf X [] cg0:=λ _ _ _ H _ I h=>wpAny_tests_nil ⟨H,I,h⟩
theorem bv5 {X:Cx}{c:Expr}{t:TT}(h:PT X c t):PIf X [c] t:=λ B s σ H Q I hw=>wpAny_tests_one (h B s σ H Q I hw)
noncomputable def ay5 (src:List (Option Nat))(σ:St):St:=src.map λ o=>match o with|none=>none|some j=>(σ[j]?).join
def tComp (src:List (Option Nat))(wi:TI)(g:TG)(tc:TT)(te:TE):TE:=λ σ H Q=>wi σ H λ J H1=>∀ D,H1 D=none ->
 ∃ W:Nat->Nat->St->Hp->Prop,(∃ m,W 0 m (ay5 src σ) (upd H1 D (.lst [])))/\∀ i m σ' H',W i m σ' H' ->
  (J.stop i H'/\Q (.ref D) H')\/(J.go i H'/\∃ N:St->Hp->Prop,(∀ σ2 H2,N σ2 H2->∃ m',m'<m/\W (i+1) m' σ2 H2) /\
   ∀ x H2,J.yld i H' x H2->g x σ' H2 λ σ3 H3=>tc σ3 H3 λ b H4=>if b=true then te σ3 H4 λ v H5=>∃ ys,H5 D=some (.lst ys)/\ys.length<aJ/\N σ3 (upd H5 D (.lst (ys++[v])))else N σ3 H4)
theorem qj {env:Env}:∀ {names:List (Str×cf)} {x:Str} {k:cf},names.lookup x=some k ->
  (names.map λ(n,k)=>if(k==NameKind.free&&env.scope.kind==.function&&env.kindOf n==some .cell)then(n,NameKind.cell)else(n,k)).lookup x =
   some (if(k==NameKind.free&&env.scope.kind==.function&&env.kindOf x==some .cell)then NameKind.cell else k)
 | [],_,_,h=>by simp at h
 | (n,k)::r,x,k',h=>by
  have B:=@qj env r x k'
  show lh x ((if(k==NameKind.free&&env.scope.kind==.function&&env.kindOf n==some .cell)=true then(n,NameKind.cell)else(n,k))::_)=_
  cases hx:x==n with
  | true =>
   have e:=beq_iff_eq.mp hx
   subst e
   simp only[aY,hx]at h
   cases h
   by_cases hc:(k==NameKind.free&&env.scope.kind==.function&&env.kindOf x==some .cell)=true
   ·rw[if_pos hc,if_pos hc];simp only[aY,hx]
   ·rw[if_neg hc,if_neg hc];simp only[aY,hx]
  | false =>
   simp only[aY,hx]at h
   by_cases hc:(k==NameKind.free&&env.scope.kind==.function&&env.kindOf n==some .cell)=true
   ·rw[if_pos hc];simp only[aY,hx];exact B h
   ·rw[if_neg hc];simp only[aY,hx];exact B h
theorem qb {env:Env}:∀ {names:List (Str×cf)} {x:Str},names.lookup x=none ->
  (names.map λ(n,k)=>if(k==NameKind.free&&env.scope.kind==.function&&env.kindOf n==some .cell)then(n,NameKind.cell)else(n,k)).lookup x=none
 | [],_,_=>rfl
 | (n,k)::r,x,h=>by
  have B:=@qb env r x
  show lh x ((if(k==NameKind.free&&env.scope.kind==.function&&env.kindOf n==some .cell)=true then(n,NameKind.cell)else(n,k))::_)=_
  cases hx:x==n with
  | true=>simp only[aY,hx]at h;cases h
  | false =>
   simp only[aY,hx]at h
   by_cases hc:(k==NameKind.free&&env.scope.kind==.function&&env.kindOf n==some .cell)=true
   ·rw[if_pos hc];simp only[aY,hx];exact B h
   ·rw[if_neg hc];simp only[aY,hx];exact B h
theorem an9 {X:Cx}{N':List Str}{src:List (Option Nat)}{scope:Scope}{a4:List (Addr×Obj)}{σ:St}{H:Hp}{s s4:af}{fp:List Addr}
  (B:CompCk N' src scope X.N X.env.scope) (I:Inv X a4 σ H s) (hf:∀ b∈fp,FpOk X a4 H b) (b0:∀ b∈fp,b<s.heap.objs.size)
  (e4:∃ tk,s4={ s with heap:=eO (s.heap.push { cls:=.type "dict",data:=.dict #[] }) scope.names,toks:=tk }) :
  Inv (zH X N' scope s.heap.objs.size (aK (s.heap.objs.size+1) scope.names (an1 X.env.cells scope.names [])) s H fp) [] (ay5 src σ) H s4:=by
 obtain⟨tk,rfl⟩:=e4
 have hk:∀ b o,s.heap.get? b=some o->(eO (s.heap.push { cls:=.type "dict",data:=.dict #[] }) scope.names).get? b=some o:=λ b o e=>c5 _ _ b o (au _ e)
 have ok:=cellsFrom_ok scope.names (s.heap.push { cls:=.type "dict",data:=.dict #[] }) (s.heap.objs.size+1) [] ⟨λ _ _ hm=>(nomatch hm),List.Pairwise.nil⟩ (by rw[bU];exact ak _)
 rw[bU]at ok
 have Y:=zf scope.names (s.heap.objs.size+1) (an1 X.env.cells scope.names [])
 have lk:∀ x c,(aK (s.heap.objs.size+1) scope.names (an1 X.env.cells scope.names [])).lookup x=some c ->
   ((x,c)∈aK (s.heap.objs.size+1) scope.names []/\(x,NameKind.cell)∈scope.names)\/(X.env.cells.lookup x=some c/\(aK (s.heap.objs.size+1) scope.names []).lookup x=none):=λ x c e=>by
  rw[Y,zE]at e
  cases q:(aK (s.heap.objs.size+1) scope.names []).lookup x with
  | some d =>
   rw[q]at e
   have e':d=c:=ax e
   subst e'
   have hm:=aG q
   refine .inl ⟨hm,?_⟩
   rcases zx hm with z|z
   ·exact z
   ·exact absurd z (by simp)
  | none =>
   rw[q]at e
   have e':(an1 X.env.cells scope.names []).lookup x=some c:=e
   rcases clOf_mem (aG e')with z|z
   ·exact .inr ⟨z,rfl⟩
   ·exact absurd z (by simp)
 have up:∀ x c,(x,c)∈aK (s.heap.objs.size+1) scope.names []->s.heap.objs.size+1<=c:=λ x c h=>(ok.empty x c h).2
 have a6:∀ x c,X.env.cells.lookup x=some c->c<s.heap.objs.size:=λ x c h=>by
  obtain⟨v,q⟩:=I.cell x c h
  exact q.lt
 have a3:∀ b,b<s.heap.objs.size->b≠s.heap.objs.size:=λ b h=>aC h
 have b3:∀ b∈fp,H b=none/\b≠X.env.locals/\b ∉ X.fs:=λ b hb=>⟨(hf b hb).1,(hf b hb).2.1,(hf b hb).2.2.1⟩
 have b5:(eO (s.heap.push { cls:=.type "dict",data:=.dict #[] }) scope.names).Ns s.heap.objs.size (λ _=>none):=(li s.heap (.type "dict")).keeps (c5 _ _)
 have Z:∀ x k,scope.names.lookup x=some k->(eT scope X.env).names.lookup x=some (if(k==NameKind.free&&X.env.scope.kind==.function&&X.env.kindOf x==some .cell)then NameKind.cell else k):=λ x k e=>qj (env:=X.env) e
 have a0:∀ x,scope.names.lookup x=none->(eT scope X.env).names.lookup x=none:=λ x e=>qb (env:=X.env) e
 have b1:∀ x c,(x,NameKind.free)∈scope.names->X.env.cells.lookup x=some c->(aK (s.heap.objs.size+1) scope.names (an1 X.env.cells scope.names [])).lookup x=some c:=λ x c hx hc=>by
  rw[Y,zE]
  cases q:(aK (s.heap.objs.size+1) scope.names []).lookup x with
  | some d =>
   rcases zx (aG q)with z|z
   ·have:=B.cel _ z rfl _ hx rfl
    cases this
   ·exact absurd z (by simp)
  | none=>exact aE1 hc hx
 have a5:∀ x,(x,NameKind.free)∈scope.names->∃ c,X.env.cells.lookup x=some c:=λ x hx=>I.ok.has x (B.fr _ hx rfl)
 refine⟨⟨I.ok.mod,B.kind,I.ok.glob,I.ok.blt,ak _,λ x y c e1 e2=>?_,λ x hx=>?_,λ x c hx e=>?_,I.ok.hd,I.ok.frames,.inl rfl,λ b hb=>⟨a3 b (b0 b hb),λ x c e z=>?_⟩,I.bs,am I.ok.bsz I.sz,λ b o e hb=>?_,λ b hb z=>?_,I.stack,I.stkFree⟩,
  rfl,I.bare,Un.kept hk,⟨_,b5,λ i x v e1 e2 e3=>?_⟩,λ x c e=>?_,I.hok.fresh (ak _),λ x c e=>?_,λ p hp=>absurd (show p∈([]:List (Addr×Obj))from hp) (by simp),I.hok.kept hk,by unfold ay5;rw[aw];exact B.len⟩
 ·rcases lk x c e1 with⟨a1,_⟩|⟨a1,_⟩<;>rcases lk y c e2 with⟨a2,_⟩|⟨a2,_⟩
  ·exact gL ok.apart a1 a2
  ·exact absurd (ay (a6 _ _ a2) (fT (up _ _ a1))) (bz _)
  ·exact absurd (ay (a6 _ _ a1) (fT (up _ _ a2))) (bz _)
  ·exact I.ok.inj x y c a1 a2
 ·cases q:scope.names.lookup x with
  | none =>
   have G:(eT scope X.env).names.lookup x=some .cell\/(eT scope X.env).names.lookup x=some .free:=hx
   rw[a0 x q]at G
   rcases G with z|z<;>cases z
  | some k =>
   have G:(eT scope X.env).names.lookup x=some .cell\/(eT scope X.env).names.lookup x=some .free:=hx
   rw[Z x k q]at G
   cases k with
   | free =>
    obtain⟨c,hc⟩:=a5 x (aG q)
    exact⟨c,b1 x c (aG q) hc⟩
   | cell =>
    obtain⟨c,hc⟩:=zQ (n:=s.heap.objs.size+1) q
    exact⟨c,by show(aK _ _ _).lookup x=_;rw[Y,zE,hc];rfl⟩
   | _=>rcases G with z|z<;>cases z
 ·have G:(scope.names.lookup x==some .cell)=true:=hx
  have q:scope.names.lookup x=some .cell:=by simpa using G
  rcases lk x c e with⟨a,_⟩|⟨a,b⟩
  ·have:=up _ _ a;show s.heap.objs.size<=c;omega
  ·obtain⟨d,hd⟩:=zQ (n:=s.heap.objs.size+1) q
   rw[hd]at b;cases b
 ·subst z
  rcases lk x c e with⟨a,_⟩|⟨a,_⟩
  ·exact absurd (ay (b0 c hb) (fT (up _ _ a))) (bz _)
  ·exact(hf c hb).2.2.2.2.1 x c a rfl
 ·rcases(hf b hb).2.2.2.1 with z|z
  ·exact I.ok.noex b o e z
  ·exact absurd (ay (aD e) (am I.ok.bsz z)) (bz _)
 ·rcases aA.mp (I.stkSub b z)with y|y
  ·exact(b3 b hb).2.1 y
  ·exact(b3 b hb).2.2 y
 ·have F:(ay5 src σ)[i]?=some (some v):=e2
  unfold ay5 at F
  rw[aH]at F
  cases q:src[i]? with
  | none=>rw[q]at F;cases F
  | some o =>
   rw[q]at F
   cases o with
   | none=>cases F
   | some j =>
    have J:(σ[j]?).join=some v:=ax F
    have ej:σ[j]?=some (some v):=by
     cases q2:σ[j]? with
     | none=>rw[q2]at J;cases J
     | some o2=>rw[q2]at J;exact congrArg some J
    obtain⟨h1,h2⟩:=B.sr i j x q e1
    have hm:=aG h2
    obtain⟨mX,b6,b4⟩:=I.loc
    have b2:Vis X.env.scope x:=by
     rcases B.fr _ hm rfl with z|z
     ·exact .inr (.inl z)
     ·exact .inr (.inr z)
    obtain⟨u,ru,look⟩:=b4 j x v h1 ej b2
    refine⟨u,ru,.inr ?_⟩
    have hcell:∃ c,X.env.cells.lookup x=some c/\s.heap.IsCell c (some u):=by
     rcases look with⟨z,_⟩|⟨_,c,z1,z2⟩
     ·have z':X.env.scope.names.lookup x=some .local:=z
      rcases B.fr _ hm rfl with y|y<;>(rw[z']at y;cases y)
     ·exact⟨c,z1,z2⟩
    obtain⟨c,c1,c2⟩:=hcell
    refine⟨?_,c,b1 x c hm c1,c2.keeps hk⟩
    show(eT scope X.env).names.lookup x=some .cell\/(eT scope X.env).names.lookup x=some .free
    rw[Z x _ h2]
    by_cases hc:(NameKind.free==NameKind.free&&X.env.scope.kind==.function&&X.env.kindOf x==some .cell)=true
    ·rw[if_pos hc];exact .inl rfl
    ·rw[if_neg hc];exact .inr rfl
 ·rcases lk x c e with⟨a,_⟩|⟨a,_⟩
  ·exact⟨_,(ok.empty x c a).1⟩
  ·obtain⟨v,q⟩:=I.cell x c a
   exact⟨v,q.keeps hk⟩
 ·rcases lk x c e with⟨a,_⟩|⟨a,_⟩
  ·exact I.hok.fresh (by have:=up _ _ a;omega)
  ·exact I.freeC x c a
theorem aI7 {X:Cx}{N':List Str}{scope:Scope}{B:List (Addr×Obj)}{σ σ':St}{H Z:Hp}{s s5:af}{Y:List Addr}{cells:List (Str×Addr)}{h':Heap}
  (I:Inv X B σ H s) (G:∀ b∈Y,FpOk X B H b) (J:Inv (zH X N' scope s.heap.objs.size cells s H Y) [] σ' Z s5) (hs:d6 s.heap.objs.size s5.heap h') :
  Inv X B σ Z { s5 with heap:=h' }:=by
 have F:∀ b o,s.heap.get? b=some o->b≠s.heap.objs.size:=λ b o e=>aC (aD e)
 have u:Un (frs X.stack) Y H Z s.heap s5.heap:=J.base
 refine I.call' (s':={ s5 with heap:=h' }) (ch:=Y) J.os ⟨λ b o e n hb hx=>?_,λ b o e n hb hx=>?_,λ b o e n hx=>u.free b o e n hx,λ b o e hx=>?_,u.tups,u.frzs,u.tbls⟩ (λ b o e=>?_) J.bare λ b hb=>⟨(G b hb).2.2.2.1,(G b hb).2.1,(G b hb).2.2.2.2.1,(G b hb).2.2.2.2.2⟩
 ·exact(hs.2 b (F b o e)).trans (u.keep b o e n hb hx)
 ·obtain⟨sl,q⟩:=u.slot b o e n hb hx
  exact⟨sl,(hs.2 b (F b o e)).trans q⟩
 ·obtain⟨o',q⟩:=u.there b o e hx
  exact⟨o',(hs.2 b (F b o e)).trans q⟩
 ·have fr:Z s.heap.objs.size=none:=J.free
  refine(J.hok b o e).stay (λ c w' hc q=>(hs.2 c ?_).trans q) (λ _ q=>q) λ _ _ q=>q
  rintro rfl
  rcases hc with z|hc
  ·rw[<-z,fr]at e;cases e
  ·rw[fr]at hc;cases hc
theorem af5 {M:Model}{A:aN}{E:Value->af->Prop}{s:af}{scope:Scope}{globals:Addr}{F:List (Str×Addr)}{qual:Str}{B:Env}{Q:Env->af->Prop}
  (h:Q { scope:=scope,locals:=s.heap.objs.size,globals:=globals,cells:=aK (s.heap.objs.size+1) scope.names F,qual:=qual,func:=none,code:=B.code,frame:=B.frame,builtins:=B.builtins }
   { s with heap:=eO (s.heap.push { cls:=.type "dict",data:=.dict #[] }) scope.names }) :
  wpAny M A (fM scope globals F [] qual none .none (some B)) Q E s:=by
 simp only[fM,ju,if_true]
 refine ae (wpAny_alloc ?_)
 refine ae (wpAny_layCells _ (λ name kind cells=>by cases hkc:kind==NameKind.cell<;>simp[hkc]) _ _ _ _ ?_)
 rw[show({ s with heap:=s.heap.push { cls:=.type "dict",data:=.dict #[] } }:af).heap.objs.size=s.heap.objs.size+1 from bU ..]
 refine ae ?_
 rw[fL]
 exact ao (ao h)
theorem az7 {X':Cx}{R:jT->af->Prop}{a3 tg iter:Expr}{a1:List Expr}{scope:Scope}{pos:Pos}{g:TG}{tc:TT}{te:TE}{J:It}{fp:List Addr}{it D:Addr}{tn:Nat->Heap->Prop}{W:Nat->Nat->St->Hp->Prop}
  {QD:Hp->Prop} {σ0:St} {H0:Hp} {s4:af} {m0:Nat} (hx:X'.xe=λ _ _=>False) (F:X'.calm=true) (I4:Inv X' [] σ0 H0 s4) (T:Turn X'.prog X'.w X'.K tg J fp it tn) (b1:tn 0 s4.heap)
  (B:∀ H':Hp,(∀ b∈fp,H' b=none)->∀ b∈fp,FpOk X' [] H' b) (a5:∀ b∈fp,H0 b=none) (w0:W 0 m0 σ0 H0)
  (turn:∀ i m σ' H',W i m σ' H'->(J.stop i H'/\QD H')\/(J.go i H'/\∃ N:St->Hp->Prop,(∀ σ2 H2,N σ2 H2->∃ m',m'<m/\W (i+1) m' σ2 H2) /\
   ∀ x H2,J.yld i H' x H2->g x σ' H2 λ σ3 G=>tc σ3 G λ b H4=>if b=true then te σ3 H4 λ v H5=>∃ ys,H5 D=some (.lst ys)/\ys.length<aJ/\N σ3 (upd H5 D (.lst (ys++[v])))else N σ3 H4))
  (hg:PG X' tg g) (hif:PIf X' a1 tc) (he:PE X' a3 te) (a2:∀ σ' H' s',Inv X' [] σ' H' s'->QD H'->R (.ok .next) s') :
  fy (model X'.prog X'.w) X'.A (.compLoop (.ListComp a3 [⟨tg,iter,a1,0⟩] scope pos) 0 (.ref it) (.ref D) X'.env) R s4:=by
 have nox:∀ {α:Type} {t:Sem α} {Q Q':α->af->Prop} {E:Value->af->Prop} {s:af},wpAny (model X'.prog X'.w) X'.A t Q X'.xe s->(∀ a s,Q a s->Q' a s)->wpAny (model X'.prog X'.w) X'.A t Q' E s :=
  λ h hQ=>a8 h hQ λ _ _ z=>by rw[hx]at z;exact z.elim
 refine aY3 (λ n s'=>∃ i σ' H',Inv X' [] σ' H' s'/\tn i s'.heap/\(∀ b∈fp,H' b=none)/\W i n σ' H') ?_ m0 ⟨0,σ0,H0,I4,b1,a5,w0⟩
 rintro n s3 ⟨i,σ3,G,I3,a4,a0,w3⟩
 rcases turn i n σ3 G w3 with⟨stop,qn⟩|⟨go,N,hN,step⟩
 ·refine nox (T.done X' rfl rfl rfl F i [] s3 σ3 G X'.xe I3 (B G a0) a4 stop) λ r s4 ⟨hr,I4⟩=>?_
  subst hr
  exact a2 σ3 G s4 I4 qn
 ·refine nox (T.item X' rfl rfl rfl F i [] s3 σ3 G X'.xe I3 (B G a0) a4 go) λ r s4 ⟨u,hr,h4⟩=>?_
  subst hr
  refine nox h4 λ _ s5 ⟨x,H5,I5,r5,y5,Z,b0⟩=>?_
  have a6:=I5.pinned (B H5 b0) (T.obj _ _ Z)
  refine nox (hg _ s5 σ3 H5 x u _ a6 r5 (step x H5 y5)) λ _ s6 ⟨σ6,H6,I6,q6⟩=>?_
  have again:∀ {σ7:St} {Y:Hp} {s7:af},Inv X' ([]++ay2 fp s5.heap) σ7 Y s7->N σ7 Y->∃ m,m<n/\∃ i σ' H',Inv X' [] σ' H' s7/\tn i s7.heap/\(∀ b∈fp,H' b=none)/\W i m σ' H':=λ {σ7 Y s7} I7 n7=>by
   obtain⟨m',hm,w7⟩:=hN σ7 Y n7
   refine⟨m',hm,i+1,σ7,Y,I7.unpinned,T.keep _ _ _ Z λ b hb o e=>(I7.pin (b,o) (aF _ (aF _ (qK hb e)))).1,λ b hb=>?_,w7⟩
   obtain⟨o,e,d⟩:=T.obj _ _ Z b hb
   exact(I7.pin (b,o) (aF _ (aF _ (qK hb e)))).2.1
  refine nox (hif _ s6 σ6 H6 _ I6 q6) λ b s7 ⟨Y,I7,q7⟩=>?_
  cases b with
  | false =>
   rw[if_neg aR]at q7 ⊢
   exact again I7 q7
  | true =>
   rw[if_pos rfl]at q7 ⊢
   refine nox (he _ s7 σ6 Y _ I7 q7) λ v s8 ⟨y,H8,I8,r8,ys,hy,hz,q8⟩=>?_
   refine nox (av8 _ s8 σ6 H8 (.ref D) [y] (.ref D) [v] (λ _ H9=>N σ6 H9) I8 rfl (.cons r8 .nil) ⟨D,ys,y,rfl,rfl,hy,hz,q8⟩) λ v9 s9 ⟨_,H9,I9,_,q9⟩=>?_
   exact again I9 q9
theorem aQ7 {X:Cx}{a4 tg iter:Expr}{a2:List Expr}{scope:Scope}{pos:Pos}{wi:TI}{g:TG}{tc:TT}{te:TE}(Z:List Str)(src:List (Option Nat))
  (a6:zS Z src scope X.N X.env.scope=true) (hi:PI X tg iter wi) (Y:X.calm=true)
  (b3:∀(C:Addr) (cells:List (Str×Addr)) (s:af) (H:Hp) (ex:List Addr),PG (zH X Z scope C cells s H ex) tg g/\PIf (zH X Z scope C cells s H ex) a2 tc/\PE (zH X Z scope C cells s H ex) a4 te)
  (hs:∀ x,dj iter X.env x=pure x:=by intro _;rfl):PE X (.ListComp a4 [⟨tg,iter,a2,0⟩] scope pos) (tComp src wi g tc te):=by
 intro B s σ H Q I h
 have ck:=bk3 a6
 rw[eval_ListComp]
 have hcl:=ag7 (scope:=scope) (env:=X.env) λ y hy e=>I.ok.has y.1 (ck.fr y hy e)
 refine gj (use:=none) rfl hs hcl ck.kind ck.loc (thn (hi B s σ H _ I h) λ v s1 h1=>thn h1 λ b5 s2 h2=>?_)
 obtain⟨it,F,tn,J,H2,e,I2,T,a1,f2,W⟩:=h2
 subst e
 have hD:=I2.fresh
 obtain⟨W,⟨m0,w0⟩,turn⟩:=W _ hD
 have I3:=I2.lnew (its:=[]) (ys:=[]) (t':=s2.toks) .nil (cS _)
 have a5:∀ b∈F,b<s2.heap.objs.size:=λ b hb=>by obtain⟨o,q,_⟩:=T.obj _ _ a1 b hb;exact aD q
 have f3:∀ b∈F,FpOk X B (upd H2 s2.heap.objs.size (.lst [])) b:=λ b hb=>⟨by rw[zn (aC (a5 b hb))];exact(f2 b hb).1,(f2 b hb).2⟩
 refine bA (af5 ?_)
 generalize G:({ s2 with heap:=s2.heap.push { cls:=.type "list",data:=.seq ([]:List Value).toArray },toks:=s2.toks }:af)=s3 at I3
 have b4:({ s2 with heap:=s2.heap.push { cls:=.type "list",data:=.seq ([]:List Value).toArray } }:af)=s3:=G
 have b0:∀ b∈F,b<s3.heap.objs.size:=λ b hb=>by
  rw[<-G]
  show b<(s2.heap.push _).objs.size
  rw[bU]
  exact fU (a5 b hb)
 have I4:=an9 (s4:={ s3 with heap:=eO (s3.heap.push { cls:=.type "dict",data:=.dict #[] }) scope.names }) ck I3 f3 b0 ⟨_,rfl⟩
 have a3:tn 0 (eO (s3.heap.push { cls:=.type "dict",data:=.dict #[] }) scope.names):=T.keep _ _ _ a1 λ b hb o e=>c5 _ _ b o (au _ (by rw[<-G];exact au _ e))
 obtain⟨hg,hif,he⟩:=b3 s3.heap.objs.size (aK (s3.heap.objs.size+1) scope.names (an1 X.env.cells scope.names [])) s3 (upd H2 s2.heap.objs.size (.lst [])) F
 have a0:∀ H':Hp,(∀ b∈F,H' b=none)->∀ b∈F,FpOk (zH X Z scope s3.heap.objs.size (aK (s3.heap.objs.size+1) scope.names (an1 X.env.cells scope.names [])) s3 (upd H2 s2.heap.objs.size (.lst [])) F) [] H' b:=λ H' hn b hb =>
  ⟨hn b hb,(I4.ok.exf b hb).1,I4.ok.exfs b hb,.inl hb,λ x c e=>(I4.ok.exf b hb).2 x c e,λ p hp=>absurd (show p∈([]:List (Addr×Obj))from hp) (by simp)⟩
 have T':Turn X.prog X.w X.K tg J F it tn:=T
 have b1:∀ b∈F,upd H2 s2.heap.objs.size (.lst []) b=none:=λ b hb=>(f3 b hb).1
 have L:=az7 (X':=zH X Z scope s3.heap.objs.size (aK (s3.heap.objs.size+1) scope.names (an1 X.env.cells scope.names [])) s3 (upd H2 s2.heap.objs.size (.lst [])) F) (R:=compPost (model X.prog X.w) X.A X.xe none (EP X B σ Q) (Value.ref s2.heap.objs.size) s3.heap.objs.size) (iter:=iter) (scope:=scope) (pos:=pos) (QD:=λ H'=>Q (.ref s2.heap.objs.size) H') rfl Y I4 T' a3 a0 b1 w0 turn hg hif he
  (λ σ' H' s' J' q=>by
   obtain⟨mm,hn,_⟩:=J'.loc
   exact⟨mm,hn,λ h' b2=>⟨.ref s2.heap.objs.size,H',aI7 I3 f3 J' b2,rfl,q⟩⟩)
 exact gT L (T.self _ _ _ _ _ a3 L)
section
variable {X:Cx}
theorem ca4:bv "abs"=some (.builtin "abs"):=by decide +kernel
theorem bY0:bv "len"=some (.builtin "len"):=by decide +kernel
theorem bw7:bv "min"=some (.builtin "min"):=by decide +kernel
theorem qG:bv "isinstance"=some (.builtin "isinstance"):=by decide +kernel
theorem bU0:bv "int"=some (.type "int"):=by decide +kernel
theorem bZ9:bv "str"=some (.type "str"):=by decide +kernel
theorem bv3:bv "tuple"=some (.type "tuple"):=by decide +kernel
theorem bE4:bv "list"=some (.type "list"):=by decide +kernel
def bY3 (i j:Int):Prop:=0<j/\j<2^4096
theorem aN1 {y:Int}(h0:0<y)(h:y<2^4096):y.natAbs.log2<9000:=by
 have hn:y.natAbs<2^4096:=by
  have:(y.natAbs:Int)=y:=by omega
  have B:(y.natAbs:Int)<((2^4096:Nat):Int):=by rw[this];simpa using h
  exact jM.mp B
 have:=(Nat.log2_lt (by omega)).mpr hn
 omega
theorem ba3:OpR X (cr .FloorDiv) (rI bY3 λ i j=>.int (i / j)):=opI λ i j _ _ _ _ _ hc q=>by
 refine floordiv_int (by have:=hc.1;omega) ?_ (.inl (PyProof.noPylong_of_log2 (aN1 hc.1 hc.2)))
 rw[Int.fdiv_eq_ediv_of_nonneg i (by have:=hc.1;omega)]
 exact q
theorem aG6 {K:ac}(hK:X.K=K):IxR X (cd5 K):=by subst hK;exact bs9
theorem by4 {K:ac}(hK:X.K=K):IxR X (cc1 K):=by subst hK;exact ix_tup
theorem am3 {K:ac}(hK:X.K=K):ac5 X (.builtin "len") (λ B H Q=>∃ p ys,B=[.ref p]/\(SqL K H p ys\/SqT K H p ys)/\Q (.int ys.length) H):=by subst hK;exact au9
theorem aD0 {K:ac}(hK:X.K=K):ac5 X (.type "tuple") (λ B H Q=>∃ p ys,B=[.ref p]/\((SqL K H p ys/\∀ l,H l=none->Q (.ref l) (upd H l (.tup ys)))\/(SqT K H p ys/\Q (.ref p) H))):=by subst hK;exact ar3
theorem aM5 {K:ac}(hK:X.K=K):ac5 X (.type "list") (λ B H Q=>∃ p ys,B=[.ref p]/\(SqL K H p ys\/SqT K H p ys)/\∀ l,H l=none->Q (.ref l) (upd H l (.lst ys))):=by subst hK;exact aw1
theorem ba4 {K:ac}{tg l:Expr}{B:TE}(hK:X.K=K)(hl:PE X l B):PI X tg l (bu1 K B):=by subst hK;exact bu3 hl
theorem bA3 {K:ac}{tg l:Expr}{B:TE}(hK:X.K=K)(hl:PE X l B):PI X tg l (bY4 K B):=by subst hK;exact bR0 hl
theorem bx2 {K:ac}{pos:Pos}{es:List Expr}{k:Nat}{t:TGs}{n:Nat}(hK:X.K=K)(hc:X.calm=true)(h:PGs X es t)
  (hn:(cB es X.env).length=n:=by rfl) (B:(cB es X.env).findIdx? (·.1)=none:=by rfl):PG X (.Tuple es k pos) (bX6 K n t):=by subst hK;exact bG2 hc h hn B
end
structure DefAt (K:ac)(mg:Str->Option Value)(x:Str)(st:Stmt)(ps:List Str)(f:Addr)(fd:bI):Prop where
 fn:Fun K x x st f fd
 mg:mg x=some (.ref f)
 bi:Binds K fd ps []
@[irreducible] noncomputable def ch0 (p:Prop):Prop:=p
theorem ad0.new {p:Addr}{H B:Hp}{o:HO}(h:ad0 H B)(hp:B p=none):ad0 H (L2.upd B p o):=λ x o e=>by
 have e1:=h x o e
 rw[zn (zo e1 hp)]
 exact e1
section
variable {prog:az} {w:World} {A:aN} {R:jT->af->Prop} {I:Addr} {fp wr:List Addr} {n:Nat} {P:Nat->Value->Prop} {St:Nat->Heap->Prop} {kw:List (Str×Value)}
theorem aZ2 (W:Walks prog w A.in1 I fp wr n P St)(bt:Nat->Nat->Bool)(b1:CmpOf prog w A.in1 .Lt P bt)(S:Addr)(a6:S ∉ fp) :
  ∀(k j:Nat) (s:af) (vb:Value) (c:Nat),n - (j+1)=k->j+1<=n->St (j+1) s.heap->P (dB bt j) vb ->
  s.heap.get? S=some { cls:=.type "list",dict:=none,data:=.seq #[vb,vb] c,slots:=#[] } ->
  (∀ v h' tk,P (dB bt (n - 1)) v->(∀ b o,b ∉ wr->b≠S->s.heap.get? b=some o->h'.get? b=some o)->R (.ok (.ret v)) { s with heap:=h',toks:=tk }) ->
  fy (model prog w) A (.builtin "min.loop" ⟨[.ref I,.none,.ref S],kw⟩) R s:=by
 have b0:S ∉ wr:=λ h=>a6 (W.sub _ h)
 have Z:(toString "min"++toString ".loop":String) = "min.loop":=by decide
 intro k
 induction k with
 | zero =>
  intro j s vb c hk hj a3 a1 hS hR
  have b2:j+1=n:=by omega
  refine fg gC ?_
  rw[eX cy _]
  show wpAny _ A.in1 (iZ (.ref S) >>= _) _ _ s
  refine ae (cO hS rfl ?_)
  show wpAny _ A.in1 (tryCatch (jR (.ref I)) _ >>= _) _ _ s
  refine ae (eg (W.done s _ _ (b2▸a3) λ h' tk F=>?_))
  have a0:=F S _ b0 hS
  show wpAny _ A.in1 (updateSeq S (λ _=>#[]) >>= _) _ _ _
  refine ae ?_
  refine hJ a0 rfl (ae (iK (ao ?_)))
  refine hR vb _ tk (by rw[<-b2];exact a1) λ b o B G e=>(bL _ _ (cw G)).trans (F b o B e)
 | succ k ih =>
  intro j s vb c hk hj a3 a1 hS hR
  have hlt:j+1<n:=by omega
  refine fg gC ?_
  rw[eX cy _]
  show wpAny _ A.in1 (iZ (.ref S) >>= _) _ _ s
  refine ae (cO hS rfl ?_)
  show wpAny _ A.in1 (tryCatch (jR (.ref I)) _ >>= _) _ _ s
  refine ae (eg (W.item (j+1) s _ _ hlt a3 λ v h' tk hP a2 F=>?_))
  have a0:=F S _ b0 hS
  show wpAny _ A.in1 (tryCatch (jD [v,v] (richCompare .Lt v vb >>= _)) _ >>= _) _ _ _
  refine ae (eg (b8 (ae (b1 (j+1) (dB bt j) v vb _ _ _ hP a1 ?_))))
  refine ae (b8 (ci ?_))
  refine ae (iK (ao ?_))
  cases hb:bt (j+1) (dB bt j)with
  | true =>
   simp only[if_true]
   refine ae ?_
   refine hJ a0 rfl (ae (iK ?_))
   rw[Z]
   refine ao ⟨gk cy _,ih (j+1) _ v _ (by omega) hlt (W.frame _ _ _ a2 λ b b3 o e=>?_) (by simp only[dB,hb,if_true];exact hP) (db _ a0 rfl)
    λ v' a4 Y a5 J=>?_⟩
   ·exact(bL _ _ (λ h:S=b=>a6 (by rw[h];exact b3))).trans e
   ·exact hR v' a4 Y a5 λ b o B G e=>J b o B G ((bL _ _ (cw G)).trans (F b o B e))
  | false =>
   simp only[bC,if_false]
   refine ae (iK ?_)
   rw[Z]
   refine ao ⟨gk cy _,ih (j+1) _ vb c (by omega) hlt a2 (by simp only[dB,hb,bC,if_false];exact a1) a0 λ v' a4 Y a5 J=>?_⟩
   exact hR v' a4 Y a5 λ b o B G e=>J b o B G (F b o B e)
theorem aL2 (W:Walks prog w A.in1 I fp wr n P St)(bt:Nat->Nat->Bool)(a2:CmpOf prog w A.in1 .Lt P bt)(S:Addr)(G:S ∉ fp){s:af}{c:Nat}{d:Value}(Y:St 0 s.heap)
  (hS:s.heap.get? S=some { cls:=.type "list",dict:=none,data:=.seq #[] c,slots:=#[] })
  (h0:n=0->∀ h' tk,(∀ b o,b ∉ wr->b≠S->s.heap.get? b=some o->h'.get? b=some o)->R (.ok (.ret d)) { s with heap:=h',toks:=tk })
  (hR:0<n->∀ v h' tk,P (dB bt (n - 1)) v->(∀ b o,b ∉ wr->b≠S->s.heap.get? b=some o->h'.get? b=some o)->R (.ok (.ret v)) { s with heap:=h',toks:=tk }) :
  fy (model prog w) A (.builtin "min.loop" ⟨[.ref I,.none,.ref S],[(aV "default",d)]⟩) R s:=by
 have a5:S ∉ wr:=λ h=>G (W.sub _ h)
 have J:(toString "min"++toString ".loop":String) = "min.loop":=by decide
 refine fg gC ?_
 rw[eX cy _]
 show wpAny _ A.in1 (iZ (.ref S) >>= _) _ _ s
 refine ae (cO hS rfl ?_)
 show wpAny _ A.in1 (tryCatch (jR (.ref I)) _ >>= _) _ _ s
 rcases Nat.eq_zero_or_pos n with hn|hn
 ·refine ae (eg (W.done s _ _ (hn▸Y) λ h' tk F=>?_))
  show wpAny _ A.in1 (rule _ >>= _) _ _ _
  refine ae (gH (ao ?_))
  exact h0 hn h' tk λ b o B _ e=>F b o B e
 ·refine ae (eg (W.item 0 s _ _ hn Y λ v h' tk hP a1 F=>?_))
  have a3:=F S _ a5 hS
  show wpAny _ A.in1 (updateSeq S (λ _=>#[v,v]) >>= _) _ _ _
  refine ae ?_
  refine hJ a3 rfl ?_
  rw[J]
  refine ao ⟨gk cy _,aZ2 W bt a2 S G _ 0 _ v _ rfl hn (W.frame _ _ _ a1 λ b b1 o e=>?_) hP (db _ a3 rfl) λ v' a6 a0 b0 Z=>?_⟩
  ·exact(bL _ _ (λ h:S=b=>G (by rw[h];exact b1))).trans e
  ·exact hR hn v' a6 a0 b0 λ b o B a4 e=>Z b o B a4 ((bL _ _ (cw a4)).trans (F b o B e))
end
theorem aY8 (a d:Value):argsOk "min" ⟨[a],[(aV "default",d)]⟩:=by unfold argsOk;kernel_rfl
theorem qV (val : Nat -> Int) : ∀ k j, j <= k -> val (dB (λ i j => decide (val i < val j)) k) <= val j
  | 0, j, h => by have : j = 0 := by omega
                  subst this; exact fW _
  | k + 1, j, h => by
    have ih := qV val k
    unfold dB
    by_cases hb : val (k + 1) < val (dB (λ i j => decide (val i < val j)) k)
    · rw[if_pos (by simpa using hb)]
      by_cases hj : j = k + 1
      · subst hj; exact fW _
      · have := ih j (by omega); omega
    · rw[if_neg (by simpa using hb)]
      by_cases hj : j = k + 1
      · subst hj; omega
      · exact ih j (by omega)
def bq5 (K:ac):V->V->Hp->VK->Prop:=λ x d H Q=>∃ a ns,x=.ref a/\SqL K H a (ns.map V.int)/\(ns=[]->Q d H)/\∀ m∈ns,(∀ y∈ns,m<=y)->Q (.int m) H
theorem at6 {ns:List Int}{its:List Value}(r:Vals (ns.map V.int) its){i:Nat}{v:Value}(h:its[i]?=some v):∃ z t,ns[i]?=some z/\v=Value.int z t:=by
 have hl:=r.length
 rw[aw]at hl
 have B:i<its.length:=(ah.mp h).1
 obtain⟨u,e1,q⟩:=r.get (i:=i) (x:=.int ns[i]) (by rw[aH,aj (by omega)];rfl)
 rw[h]at e1;cases e1
 obtain⟨t,rfl⟩:=q
 exact⟨_,t,aj (by omega),rfl⟩
theorem bc8 {X:Cx}{B:List (Addr×Obj)}{σ:St}{H:Hp}{s:af}{x d:V}{u Z:Value}{Q:VK}(hc:X.calm=true)(I:Inv X B σ H s)(rx:RelV x u)(rd:RelV d Z)(h:bq5 X.K x d H Q) :
  wpAny (model X.prog X.w) X.A (call (.builtin "min") [u] [(aV "default",Z)]) (EP X B σ Q) X.xe s:=by
 obtain⟨a,ns,rfl,hS,q0,qm⟩:=h
 cases rx
 obtain⟨its,rv,pl,hz⟩:=I.list hS
 have hl:=rv.length
 rw[aw]at hl
 have Y:(toString "min"++toString ".loop":String) = "min.loop":=by decide
 refine kmb_tree F.kind_min F.plain_min F.entry_min (aY8 _ _) ?_
 show wpAny _ X.A.in1 (fB "min" ["key", "default"] 0 ⟨[],[(aV "default",Z)]⟩ >>= _) _ _ s
 refine ae (j7 (show fB "min" ["key", "default"] 0 ⟨[],[(aV "default",Z)]⟩=pure [none,some Z]from rfl) ?_)
 refine ae (ao ?_)
 refine ae (d8 pl.isList ?_)
 have a2:a<s.heap.objs.size:=by obtain⟨o,_,e,_⟩:=pl;exact aD e
 have W:=lq (prog:=X.prog) (w:=X.w) (A:=X.A.in1) (I.ok.hd hc) s.heap.objs.size a (aC a2) its.toArray
 refine ae (bA ?_)
 generalize J:s.heap.push _=h2
 have G:h2.objs.size=s.heap.objs.size+1:=by rw[<-J,bU]
 have a1:∀ b o,s.heap.get? b=some o->h2.get? b=some o:=λ b o e=>by rw[<-J];exact au _ e
 have a4:h2.objs.size ∉ [s.heap.objs.size,a]:=by
  rw[G]
  intro z
  rcases aA.mp z with z|z
  ·exact absurd z (Nat.succ_ne_self _)
  ·have z':s.heap.objs.size+1=a:=by simpa using z
   exact absurd (ay a2 (by rw[<-z'];exact du _)) (bz _)
 have a3:(h2.push { cls:=.type "list",data:=.seq ([]:List Value).toArray }).IsListIter s.heap.objs.size a 0/\(h2.push { cls:=.type "list",data:=.seq ([]:List Value).toArray }).IsList a its.toArray:=by
  refine⟨⟨_,au _ (by rw[<-J];exact aX _ rfl),rfl,rfl⟩,?_⟩
  obtain⟨o,e,r⟩:=pl.isList
  exact⟨o,au _ (a1 _ _ e),r⟩
 let val:Nat->Int:=λ i=>ns.getD i 0
 have a0:∀ i v,its.toArray[i]?=some v->∃ t,v=Value.int (val i) t:=λ i v e=>by
  obtain⟨z,t,e1,e2⟩:=at6 rv (i:=i) (v:=v) (by rw[dh]at e;exact e)
  refine⟨t,?_⟩
  rw[e2]
  show Value.int z t=Value.int (ns.getD i 0) t
  rw[bw,e1]
  rfl
 rw[Y]
 have nx:∀(h':Heap) (tk:Nat),(∀ b o,b ∉ [s.heap.objs.size]->b≠h2.objs.size->(h2.push { cls:=.type "list",data:=.seq ([]:List Value).toArray }).get? b=some o->h'.get? b=some o)->Inv X B σ H { s with heap:=h',toks:=tk }:=λ h' tk k=>I.kept λ b o e=>by
  refine k b o ?_ ?_ (au _ (a1 b o e))
  ·intro z
   have z':b=s.heap.objs.size:=by simpa using z
   exact absurd (aD e) (by rw[z'];exact bz _)
  ·intro z
   exact absurd (aD e) (by rw[z,G];exact kF.mpr (du _))
 refine ao ⟨gk cy _,aL2 (d:=Z) W _ (kQ val a0) h2.objs.size a4 a3 (aX _ rfl) (λ hn h' tk k=>?_) λ hn v h' tk hP k=>?_⟩
 ·have e:ns=[]:=by
   have:its.toArray.size=0:=hn
   have:its.length=0:=by simpa using this
   exact cj.mp (by omega)
  exact⟨d,H,nx h' tk k,rd,q0 e⟩
 ·obtain⟨z,t,e1,e2⟩:=at6 rv (i:=dB (λ i j=>decide (val i<val j)) (its.toArray.size - 1)) (v:=v) (by rw[dh]at hP;exact hP)
  subst e2
  have hv:val (dB (λ i j=>decide (val i<val j)) (its.toArray.size - 1))=z:=by
   show ns.getD _ 0=z
   rw[bw,e1]
   rfl
  refine⟨.int z,H,nx h' tk k,⟨t,rfl⟩,qm z (a7 e1) λ y hy=>?_⟩
  obtain⟨j,hj,e3⟩:=dv.mp hy
  have:=qV val (its.toArray.size - 1) j (by simp only[ar];omega)
  rw[hv]at this
  have e4:val j=y:=by
   show ns.getD j 0=y
   rw[bw,aj hj]
   exact e3
  omega
def bT3 (K:ac)(ta td:TE):TE:=λ σ H Q=>ta σ H λ x H1=>td σ H1 λ d H2=>bq5 K x d H2 Q
theorem bA0 {X:Cx}{K:ac}{e Z:Expr}{J F:TE}{p pos kp:Pos}(hK:X.K=K)(hc:X.calm=true)(hg:Gl X "min")(hm:X.mg "min"=none)(ha:PE X e J)(hd:PE X Z F)
  (hs:br [e] X.env=[(false,eval e X.env)]:=by rfl) :
  PE X (.Call (.Name "min" p) [e] [⟨some "default",Z,kp⟩] pos) (bT3 K J F):=by
 subst hK
 intro B s σ H Q I h
 refine cT (ay1 I hg hm bw7 ?_)
 have h':aN3 J bl0 σ H (λ vs Y=>match vs with|[x]=>F σ Y λ d H2=>bq5 X.K x d H2 Q|_=>False):=h
 refine callWith_kw (env:=X.env) (thn ((zJ ha ad3 hs) pos B s σ H _ I h') λ us s1 ⟨vs,Y,I1,r1,G⟩=>?_) (by rw[hs];rfl) (by rw[hs];rfl)
 match vs,G,r1 with
 | [x],G,r1 =>
  obtain⟨u,rfl,ru⟩:=af6 r1
  refine kws_cons (thn (hd B s1 σ Y _ I1 G) λ v s2 ⟨d,H2,I2,rd,q2⟩=>kws_nil ?_)
  exact bc8 hc I2 ru rd q2
inductive D where
 | non|bl (b:Bool)|int (i:Int)|str (x:Str)|tup (l:List D)|lst (l:List D)
mutual
noncomputable def D.deep:D->Nat
 | .tup l=>D.deepL l+1
 | .lst l=>D.deepL l+1
 | _=>0
noncomputable def D.deepL:List D->Nat
 | []=>0
 | d::l=>max (D.deep d) (D.deepL l)
end
section
variable {X:Cx}
end
section
variable {X:Cx}
def bV0 (K:ac):R2:=λ x y H Q=>∃ a b xs ys,x=.ref a/\y=.ref b/\SqT K H a xs/\SqT K H b ys/\xs.length+ys.length<=aJ/\∀ p H',ad0 H H'->SqT K H' p (xs++ys)->(H' p=some (.tup (xs++ys))\/(p=a/\ys=[])\/(p=b/\xs=[]))->Q (.ref p) H'
theorem bt4 {prog:az}{w:World}{A:aN}{E:Value->af->Prop}{s:af}{t b:Addr}{ws:List Value}{Q:Value->af->Prop}(ht:IsTup s.heap t ([]:List Value).toArray)(hb:IsTup s.heap b ws.toArray)(h1:Q (.ref b) s) :
  wpAny (model prog w) A (cr .Add (.ref t) (.ref b)) Q E s:=by
 obtain⟨⟨cls,dd,data,sl⟩,ho,hc,n,hd⟩:=id ht
 obtain⟨⟨a0,J,Z,Y⟩,B,G,n2,F⟩:=id hb
 simp only at hc hd G F
 subst hc hd G F
 exact jI ⟨_,ho,rfl⟩ ⟨_,B,rfl⟩ gz jg ed dX (dJ _ _)
   (tuple_addW0 t b _ ws.toArray n n2 dd J sl Y rfl) ⟨ho,B,h1⟩
theorem bz3 {K:ac}(hK:X.K=K):OpR X (cr .Add) (bV0 K):=by
 subst hK
 intro B s σ H x y v u Q I F Y h
 obtain⟨a,b,G,ys,e1,e2,ha,hb,hz,q⟩:=h
 by_cases hx:G=[]
 ·subst e1;subst e2;subst hx
  cases F;cases Y
  obtain⟨its,r1,p1,_⟩:=I.tuple ha
  obtain⟨J,r2,Z,_⟩:=I.tuple hb
  obtain rfl:its=[]:=r1.nil_iff.mpr rfl
  exact bt4 p1 Z ⟨.ref b,H,I,rfl,q b H (ad0.refl H) hb (.inr (.inr ⟨rfl,rfl⟩))⟩
 ·refine bz6 B s σ H x y v u Q I F Y ⟨a,b,G,ys,e1,e2,ha,hb,hx,hz,λ z=>?_,λ z p hp=>?_⟩
  ·subst z
   exact q a H (ad0.refl H) (by rw[bh];exact ha) (.inr (.inl ⟨rfl,rfl⟩))
  ·exact q p _ ((ad0.refl H).new hp) (SqT.of zu) (.inl zu)
def ce9 (K:ac):V->Option Int->Option Int->Hp->VK->Prop:=λ x lo hi H Q=>∃ a xs,x=.ref a/\SqT K H a xs/\∀ p H',ad0 H H'->SqT K H' p (aM4 xs lo hi)->(H' p=some (.tup (aM4 xs lo hi))\/(p=a/\aM4 xs lo hi=xs))->Q (.ref p) H'
theorem as3 {prog:az}{w:World}{A:aN}{E:Value->af->Prop}{s:af}{t sl:Addr}{B:Array Value}{vl vu:Value}{F Y:Option Int}{Q:Value->af->Prop}(G:IsTup s.heap t B)(hs:s.heap.IsSliceOf sl vl vu .none)(pl:gi vl F)(pu:gi vu Y)
  (hw:HT.sIx B.size 0 F=0/\HT.sIx B.size B.size Y=B.size) (h:Q (.ref t) s):wpAny (model prog w) A (gM (.ref t) (.ref sl)) Q E s:=by
 obtain⟨os,a0,Z,a2⟩:=id hs
 have a1:s.TypeIs (.ref sl) "slice":=⟨os,a0,Z⟩
 unfold gM
 try with_reducible refine b8 ?_
 first|refine ae (ao ?_)|skip
 refine ae (jJ G.typeIs (by decide) ?_)
 refine ae (cP (name:=aV "__getitem__") G.typeIs bn
  (cx bn G.typeIs i9 ?_ (jq _ _)))
 show wpAny _ _ (cz (.ref t) >>= _) _ _ s
 refine ae (jh G ?_)
 refine ae (gN a1 ?_)
 rw[if_pos (by decide)]
 refine ae (HT.sliceApplied_gen hs pl pu ?_)
 have J:((((HT.sIx B.size 0 F:Nat):Int)==0&&(1:Int)==1&&(HT.sIx B.size B.size Y - HT.sIx B.size 0 F)==B.size)=true):=by
  rw[hw.1,hw.2]
  simp
 show wpAny _ _ (if(((HT.sIx B.size 0 F:Nat):Int)==0&&(1:Int)==1&&(HT.sIx B.size B.size Y - HT.sIx B.size 0 F)==B.size)=true then _ else _) _ _ s
 rw[if_pos J]
 refine ae (ae (gN G.typeIs (ao ?_)))
 rw[if_pos (by decide)]
 exact ae (gH (ao ⟨_,rfl,ao h⟩))
theorem ao2 {B:List V}{G F:Option Int}(h:HT.sIx B.length 0 G=0/\HT.sIx B.length B.length F=B.length):aM4 B G F=B:=by
 unfold aM4
 rw[h.1,h.2]
 simp
theorem bs5 {K:ac}(hK:X.K=K):SlR X (ce9 K):=by
 subst hK
 intro G s σ H x v vl vu lo hi sl Q I J hs Z pu h
 obtain⟨a,B,e1,hx,q⟩:=h
 by_cases hw:HT.sIx B.length 0 lo=0/\HT.sIx B.length B.length hi=B.length
 ·subst e1
  cases J
  obtain⟨its,r,Y,hz⟩:=I.tuple hx
  have F:its.toArray.size=B.length:=by rw[ar];exact r.length.symm
  refine⟨"tuple",_,bn.lookup,Y.typeIs,?_⟩
  exact as3 Y hs Z pu (by rw[F];exact hw) ⟨.ref a,H,I,rfl,q a H (ad0.refl H) (by rw[ao2 hw];exact hx) (.inr ⟨rfl,ao2 hw⟩)⟩
 ·exact bQ5 G s σ H x v vl vu lo hi sl Q I J hs Z pu ⟨a,B,e1,hx,hw,λ p hp=>q p _ ((ad0.refl H).new hp) (SqT.of zu) (.inl zu)⟩
theorem be6 {K:ac}(hK:X.K=K):SlR X (cc0 K):=by subst hK;exact bB0
end
noncomputable def Its (x:Str):It:=⟨λ i _=>i<x.cps.size,λ i H v H'=>H'=H/\∃ c,x.cps[i]?=some c/\v=.str ⟨#[c]⟩,λ i _=>x.cps.size<=i⟩
theorem aJ6 {P:az}{w:World}{K:ac}{tg:Expr}{G:String}{x:Str}{t:Tok}(it:Addr)(hn:["enumerate", "zip", "dict_itemiterator", "dict_reverseitemiterator", "odict_iterator", "itertools.zip_longest", "itertools.pairwise"].contains G=false)
  (W:∀ A:aN,A.handled=none->Walks P w A it [it] [it] x.cps.size (SignAt x) (λ i h=>h.IsStrIter it G x t i))
  (Y:∀(A:aN) (s:af) (i:Nat) (Q:Option Value->af->Prop) (E:Value->af->Prop),A.handled=none->s.heap.IsStrIter it G x t i->x.cps[i]?=none->(∀ h',j8 it s.heap h'->Q none { s with heap:=h' })->wpAny (model P w) A (jR (.ref it)) Q E s)
  (F:∀(A:aN) (i:Nat) (s:af) (Q:Value->af->Prop) (E:Value->af->Prop),s.heap.IsStrIter it G x t i->Q (.ref it) s->wpAny (model P w) A (kW (.ref it)) Q E s):Turn P w K tg (Its x) [it] it (λ i h=>h.IsStrIter it G x t i) where
 mem:=by simp
 obj:=λ i h st b hb=>by
  have e:b=it:=by simpa using hb
  subst e
  obtain⟨o,ho,hc,hd⟩:=st
  exact⟨o,ho,λ v z=>by rw[hd]at z;cases z⟩
 keep:=λ i h h' st k=>by
  obtain⟨o,ho,r⟩:=st
  exact⟨o,k it (by simp) _ ho,r⟩
 item:=by
  intro X hP hw hK hc i B s σ H E I Z st hg
  subst hP hw hK
  obtain⟨f0,f1,f2,f3,f4,f5⟩:=Z it (by simp)
  refine(W X.A (I.ok.hd hc)).item i s _ _ hg st λ v h' tk hv J kk=>?_
  obtain⟨c,u,a0,rfl⟩:=hv
  have I1:Inv X B σ H { s with heap:=h',toks:=tk }:=I.turned (λ b o hb e=>kk b o (by simpa using hb) e) f0 f1 f3 f4 f5
  obtain⟨o,ho,hcl,hd⟩:=id J
  exact⟨_,rfl,ba9 (s:={ s with heap:=h',toks:=tk }) (n:=G) ho hcl hd hn ⟨.str ⟨#[c]⟩,H,I1,⟨u,rfl⟩,⟨rfl,c,a0,rfl⟩,J,λ b hb=>(Z b hb).1⟩⟩
 done:=by
  intro X hP hw hK hc i B s σ H E I Z st hg
  subst hP hw hK
  obtain⟨f0,f1,f2,f3,f4,f5⟩:=Z it (by simp)
  have a1:x.cps.size<=i:=hg
  exact Y X.A s i _ E (I.ok.hd hc) st (by simp;omega) λ h' eb=>⟨rfl,I.turned (t':=s.toks) (λ b o hb e=>eb b o hb e) f0 f1 f3 f4 f5⟩
 self:=λ A i s Q E st h=>F A i s Q E st h
def cc4 (tl:TE):TI:=λ σ H R=>tl σ H λ v H1=>∃ x,v=.str x/\R (Its x) H1
theorem bP0 {X:Cx}{tg l:Expr}{Z:TE}(hl:PE X l Z):PI X tg l (cc4 Z):=by
 intro B s σ H R I h
 refine thn (hl B s σ H _ I h) λ v s1 ⟨v0,H1,J,r1,q1⟩=>?_
 obtain⟨x,e,q⟩:=q1
 subst e
 obtain⟨t,rfl⟩:=r1
 have fin:∀(Y:String) (o:Obj),o={ cls:=.type Y,data:=.fields #[.str x t,.int 0 0] }->Turn X.prog X.w X.K tg (Its x) [s1.heap.objs.size] s1.heap.objs.size (λ i h=>h.IsStrIter s1.heap.objs.size Y x t i)->PIE X B σ tg R (.ref s1.heap.objs.size) { s1 with heap:=s1.heap.push o }:=λ Y o eo T=>by
  subst eo
  refine⟨s1.heap.objs.size,[s1.heap.objs.size],_,_,H1,rfl,J.kept (t':=s1.toks) λ b o e=>au _ e,T,⟨_,aX _ rfl,rfl,rfl⟩,λ b hb=>?_,q⟩
  have e:b=s1.heap.objs.size:=by simpa using hb
  subst e
  exact J.fpOk (ak _) (J.hok.fresh (ak _))
 cases ha:x.cps.all (·<128)
 ·exact wpAny_pyIter_wide ha (fin "str_iterator" _ rfl (aJ6 _ (by decide) (λ A F=>Walks.strWide F _ x t) (λ A s i Q E F st hx G=>wpAny_pyNext_wide_end F st hx G) λ A i s Q E st h=>wpAny_pyIter_striter_wide st h))
 ·exact wpAny_pyIter_ascii ha (fin "str_ascii_iterator" _ rfl (aJ6 _ (by decide) (λ A F=>Walks.strAscii F _ x t) (λ A s i Q E F st hx G=>wpAny_pyNext_ascii_end F st hx G) λ A i s Q E st h=>wpAny_pyIter_striter_ascii st h))
section
variable {X:Cx} {K:ac} {T id:String} {name:Str} {o e:Expr} {es:List Expr} {to:TE} {t:TA} {r:V->List V->Hp->VK->Prop} {apos cpos:Pos}
theorem bI7 (hK:X.K=K)(pa:kD T)(slot:Slot T name id)(Y:jr (.builtin id)=pure (.type "method_descriptor"))(Z:MtR X id r)(ho:PE X o to)(ha:PA X (e::es) t)
  (G:eS o name X.env (eval o X.env)=eval o X.env:=by rfl)
  (J:((d7 cpos (br (e::es) X.env)).all (λ x=>!x.1)&&(backToKw cpos (j6 [] X.env)).all (λ x=>x.1.isSome)
   && decide ((e::es).length+([]:List iX).length+(if([]:List iX).isEmpty then 0 else 1)<30))=true:=by rfl)
  (F:(apos.endLine==cpos.line)=true:=by rfl) (hs:br (e::es) X.env=(false,eval e X.env)::br es X.env:=by rfl) (B:(d7 cpos (br es X.env)).any (·.1)=false:=by rfl) :
  PE X (.Call (.Attribute o name apos) (e::es) [] cpos) (tBM K T r to t):=by
 subst hK
 exact bY7 pa slot Y Z ho ha G J F hs B
end
structure Mach where
 letters:Int
 rooms:Int
 begins:List Int
 ends:List Int
 doors:List (Int×Str×Int×Int)
noncomputable def bV9 (q:Int×Str×Int×Int):D:=.tup [.int q.1,.str q.2.1,.int q.2.2.1,.int q.2.2.2]
noncomputable def Mach.D (M:Mach):D:=.tup [.int M.letters,.int M.rooms,.tup (M.begins.map .int),.tup (M.ends.map .int),.tup (M.doors.map bV9)]
noncomputable def ltr (i:Nat):Str:=⟨#[97+i]⟩
structure DoorOk (letters rooms:Int)(q:Int×Str×Int×Int):Prop where
 s0:0<=q.1
 s1:q.1<rooms
 l:∃ i:Nat,(i:Int)<letters/\q.2.1=ltr i
 g0:0<=q.2.2.1
 g1:q.2.2.1<rooms
 t0:0<=q.2.2.2
 t1:q.2.2.2<=3
structure RoomsOk (rooms:Int)(l:List Int):Prop where
 mem:∀ r∈l,0<=r/\r<rooms
 up:l.Pairwise (· < ·)
structure Mach.Ok (most:Nat)(M:Mach):Prop where
 l0:1<=M.letters
 l1:M.letters<=3
 r0:1<=M.rooms
 r1:M.rooms<=5
 b:RoomsOk M.rooms M.begins
 e:RoomsOk M.rooms M.ends
 d:∀ q∈M.doors,DoorOk M.letters M.rooms q
 m:M.doors.length<=most
mutual
noncomputable def D.tups:D->Bool
 | .lst _=>false
 | .tup l=>D.tupsL l
 | _=>true
noncomputable def D.tupsL:List D->Bool
 | []=>true
 | d::l=>D.tups d&&D.tupsL l
end
end L2
end
noncomputable section
namespace L2
end L2
end
noncomputable section
namespace L2
open PySem PySem.Spec PyProof.Rows
noncomputable def addO:Option Int->Option Int->Option Int
 | some a,some b=>some (a+b)
 | _,_=>none
noncomputable def cutO (k:Int):Option Int->Option Int
 | none=>none
 | some p=>some (if p<=k then p else k+1)
noncomputable def minO:List Int->Option Int
 | []=>none
 | a::l=>some (match minO l with|none=>a|some b=>if b<a then b else a)
theorem aM3 {X:Cx}{Y tg iter:Expr}{G:List Expr}{scope:Scope}{pos Z py:Pos}{y:Str}{i:Nat}{wi:TI}{g:TG}{tc:TT}{te:TE}(N':List Str)(src:List (Option Nat))
  (hN:X.N.Nodup) (b2:X.N[i]?=some y) (a3:X.env.scope.names.lookup y=some .local)
  (b3:zS N' src scope X.N X.env.scope=true) (hi:PI X tg iter wi) (a1:X.calm=true)
  (b1:∀(C:Addr) (cells:List (Str×Addr)) (s:af) (H:Hp) (ex:List Addr),PG (zH X N' scope C cells s H ex) tg g/\PIf (zH X N' scope C cells s H ex) G tc/\PE (zH X N' scope C cells s H ex) Y te)
  (hs:∀ x,dj iter X.env x=pure x:=by intro _;rfl)
  (b5:eK (.ListComp Y [⟨tg,iter,G,0⟩] scope pos) (some (.Name y py)) Z.line X.env=pure true:=by rfl) :
  PS X (.Assign [.Name y py] (.ListComp Y [⟨tg,iter,G,0⟩] scope pos) Z) (bc5 (tComp src wi g tc te) (av9 i)):=by
 intro B s σ H D0 I h
 have ck:=bk3 b3
 rw[exec_Assign_Name_used _ _ _ _ b5]
 refine ae (jf (ae ?_))
 show wpAny _ X.A (do let _ <- comprehension (.ListComp Y [⟨tg,iter,G,0⟩] scope pos) scope X.env _ (newList []) false (eval iter X.env) (some (gJ (.Name y py) X.env))) _ _ s
 have hcl:=ag7 (scope:=scope) (env:=X.env) λ y hy e=>I.ok.has y.1 (ck.fr y hy e)
 refine ae (a8 (gj (use:=some (gJ (.Name y py) X.env)) (Q:=λ _ s'=>SP X B D0 .next s') rfl hs hcl ck.kind ck.loc (thn (hi B s σ H _ I h) λ v s1 h1=>thn h1 λ c1 s2 h2=>?_)) (λ _ s' hq=>ao (ao hq)) λ _ _ e=>e)
 obtain⟨it,F,tn,J,H2,e,I2,T,a2,f2,W⟩:=h2
 subst e
 have hD:=I2.fresh
 obtain⟨W,⟨m0,w0⟩,turn⟩:=W _ hD
 have I3:=I2.lnew (its:=[]) (ys:=[]) (t':=s2.toks) .nil (cS _)
 have a4:∀ b∈F,b<s2.heap.objs.size:=λ b hb=>by obtain⟨o,q,_⟩:=T.obj _ _ a2 b hb;exact aD q
 have f3:∀ b∈F,FpOk X B (upd H2 s2.heap.objs.size (.lst [])) b:=λ b hb=>⟨by rw[zn (aC (a4 b hb))];exact(f2 b hb).1,(f2 b hb).2⟩
 refine bA (af5 ?_)
 generalize a0:({ s2 with heap:=s2.heap.push { cls:=.type "list",data:=.seq ([]:List Value).toArray },toks:=s2.toks }:af)=s3 at I3
 have c0:({ s2 with heap:=s2.heap.push { cls:=.type "list",data:=.seq ([]:List Value).toArray } }:af)=s3:=a0
 have b4:∀ b∈F,b<s3.heap.objs.size:=λ b hb=>by
  rw[<-a0]
  show b<(s2.heap.push _).objs.size
  rw[bU]
  exact fU (a4 b hb)
 have I4:=an9 (s4:={ s3 with heap:=eO (s3.heap.push { cls:=.type "dict",data:=.dict #[] }) scope.names }) ck I3 f3 b4 ⟨_,rfl⟩
 have a6:tn 0 (eO (s3.heap.push { cls:=.type "dict",data:=.dict #[] }) scope.names):=T.keep _ _ _ a2 λ b hb o e=>c5 _ _ b o (au _ (by rw[<-a0];exact au _ e))
 obtain⟨hg,hif,he⟩:=b1 s3.heap.objs.size (aK (s3.heap.objs.size+1) scope.names (an1 X.env.cells scope.names [])) s3 (upd H2 s2.heap.objs.size (.lst [])) F
 have a5:∀ H':Hp,(∀ b∈F,H' b=none)->∀ b∈F,FpOk (zH X N' scope s3.heap.objs.size (aK (s3.heap.objs.size+1) scope.names (an1 X.env.cells scope.names [])) s3 (upd H2 s2.heap.objs.size (.lst [])) F) [] H' b:=λ H' hn b hb =>
  ⟨hn b hb,(I4.ok.exf b hb).1,I4.ok.exfs b hb,.inl hb,λ x c e=>(I4.ok.exf b hb).2 x c e,λ p hp=>absurd (show p∈([]:List (Addr×Obj))from hp) (by simp)⟩
 have T':Turn X.prog X.w X.K tg J F it tn:=T
 have b0:∀ b∈F,upd H2 s2.heap.objs.size (.lst []) b=none:=λ b hb=>(f3 b hb).1
 have L:=az7 (X':=zH X N' scope s3.heap.objs.size (aK (s3.heap.objs.size+1) scope.names (an1 X.env.cells scope.names [])) s3 (upd H2 s2.heap.objs.size (.lst [])) F) (R:=compPost (model X.prog X.w) X.A X.xe (some (gJ (.Name y py) X.env)) (λ _ s'=>SP X B D0 .next s') (Value.ref s2.heap.objs.size) s3.heap.objs.size) (iter:=iter) (scope:=scope) (pos:=pos) (QD:=λ H'=>D0.nx (σ.set i (some (.ref s2.heap.objs.size))) H') rfl a1 I4 T' a6 a5 b0 w0 turn hg hif he
  (λ σ' H' s' J' q=>by
   have J2:=aI7 I3 f3 J' (Heap.SameBut.refl _ _)
   obtain⟨mm,hn,_⟩:=J'.loc
   have nL:s3.heap.objs.size≠X.env.locals:=jG I3.lt
   have nC:∀ x c,X.env.cells.lookup x=some c->c≠s3.heap.objs.size:=λ x c e=>by
    obtain⟨v,z⟩:=I3.cell x c e
    exact aC z.lt
   show wpAny _ X.A (gJ (.Name y py) X.env (.ref s2.heap.objs.size)) _ _ _
   refine jF (ax5 (v:=.ref s2.heap.objs.size) J2 hN b2 (.inl a3) rfl (λ s5 I5 sb=>?_) (.inr a3))
   obtain⟨aa,sb,ha⟩:=sb
   have na:s3.heap.objs.size≠aa:=by
    rcases ha with z|z
    ·rw[z];exact nL
    ·exact λ e=>nC _ _ z e.symm
   refine⟨mm,hn.sameBut sb na,λ h' b6=>⟨_,H',I5.turned (t':=s5.toks) (λ b o hb e=>(b6.2 b hb).trans e) J'.free nL (.inr I3.sz) nC λ p hp z=>?_,q⟩⟩
   exact absurd (aD (I3.pin p hp).1) (by rw[z];exact bz _))
 exact gT L (T.self _ _ _ _ _ a6 L)
def cf8:V->Option Int->Option Int->Hp->VK->Prop:=λ x lo hi H Q=>∃ z,x=.str z/\z.length<=aJ/\Q (.str (fh z lo hi)) H
theorem av6 {v:Value}{o:Option Int}(p:gi v o):∃ q:Option (Int×Tok),v=partValue q/\q.map (·.1)=o:=by
 cases p with
 | none=>exact⟨none,rfl,rfl⟩
 | int i t=>exact⟨some (i,t),rfl,rfl⟩
theorem bO9 {X:Cx}:SlR X cf8:=by
 intro Z s σ H x v vl vu G J sl Q I rx hs pl pu h
 obtain⟨z,rfl,hz,q⟩:=h
 obtain⟨t,rfl⟩:=rx
 obtain⟨l,rfl,el⟩:=av6 pl
 obtain⟨u,rfl,eu⟩:=av6 pu
 refine⟨"str",_,F.slot_str_getitem.lookup,kC s z t,?_⟩
 refine wpAny_getItem_str_slice (l:=l) (u:=u) (st:=none) hs rfl ?_
 unfold sliceMade
 have e:slicePicked z l u none=bu G J 1 z.length:=by
  unfold slicePicked
  rw[el,eu]
  rfl
 rw[e]
 unfold fh at q
 split
 ·rename_i hc
  have B:((1:Int)==1&&(bu G J 1 z.length).length==z.length)=true:=hc
  rw[if_pos B]at q
  exact⟨.str z,H,I,⟨t,rfl⟩,q⟩
 ·rename_i hc
  have B:¬((1:Int)==1&&(bu G J 1 z.length).length==z.length)=true:=hc
  rw[if_neg B]at q
  have Y:(Str.mk (iL (λ x=>z.cps[x]?) (bu G J 1 z.length)).toArray).length<=aJ:=by
   show(iL (λ x=>z.cps[x]?) (bu G J 1 z.length)).toArray.size<=aJ
   rw[ar]
   exact am (List.length_filterMap_le _ _) (am (sliceIndices_le G J z.length) hz)
  exact⟨Y,.str _,H,I.tok _,⟨_,rfl⟩,q⟩
section
variable {M:Model} {A:aN} {E:Value->af->Prop} {s₀ s:af} {m cm:Str->Option Value} {env:Env} {cs:List (Str×Addr)}
theorem bA5 {n:Str}{v:Value}{Q:Unit->af->Prop}(z:fS s₀ env.locals m cs cm s)(B:env.scope.kind=.function)(kl:env.kindOf n=some .local)
  (go:∀ s',fS s₀ env.locals (λ y=>if y=n then some v else m y) cs cm s'->Q () s'):wpAny M A (fD env n v) Q E s:=by
 refine ik kl z.toInCall.ns (λ g F gs=>go _ ⟨⟨?a,F,λ b o e=>?b,z.toInCall.fresh⟩,λ k c e=>?c,z.apart,z.above⟩) (by rw[B];rfl)
 case a=>obtain⟨G,tk,e⟩:=z.toInCall.same;subst e;exact⟨g,_,rfl⟩
 case b=>exact gs.extBut b o (aC (ay (aD e) z.toInCall.fresh)) (z.toInCall.keep b o e)
 case c=>exact(z.cell k c e).sameBut gs (jG (z.above k c (aG e)))
theorem br7 {n:Str}{c:Addr}{v:Value}{Q:Unit->af->Prop}(z:fS s₀ env.locals m cs cm s)(G:env.scope.kind=.function)(B:env.kindOf n=some .cell)
  (e1:env.cells.lookup n=some c) (e2:cs.lookup n=some c) (go:∀ s',fS s₀ env.locals m cs (λ y=>if y=n then some v else cm y) s'->Q () s'):wpAny M A (fD env n v) Q E s:=by
 have up:=z.above n c (aG e2)
 refine iD G B e1 (z.cell n c e2) λ g J gs=>go _ ⟨⟨?a,z.toInCall.ns.sameBut gs (aC up),λ b o e=>?b,z.toInCall.fresh⟩,λ k F e=>?c,z.apart,z.above⟩
 case a=>obtain⟨Y,tk,e⟩:=z.toInCall.same;subst e;exact⟨g,_,rfl⟩
 case b=>exact gs.extBut b o (aC (gW (ay (aD e) z.toInCall.fresh) up)) (z.toInCall.keep b o e)
 case c =>
  by_cases q:k=n
  ·subst q
   rw[e2]at e;cases e
   simpa using J
  ·rw[if_neg q]
   exact(z.cell k F e).sameBut gs λ y=>q (gL z.apart (aG e) (y▸aG e2))
theorem aD5 (f:Str×Value->PUnit->Sem (ForInStep PUnit))(Y:∀ n v u,f (n,v) u=(do fD env n v;pure (.yield ⟨⟩)))(G:env.scope.kind=.function)(sub:∀ n c,cs.lookup n=some c->env.cells.lookup n=some c) :
  ∀(bs:List (Str×Value)) (m J:Str->Option Value) (s:af) (Q:PUnit->af->Prop),fS s₀ env.locals m cs J s ->
   (∀ y∈bs,env.kindOf y.1=some .local\/(env.kindOf y.1=some .cell/\∃ c,cs.lookup y.1=some c)) ->
   (∀ s',fS s₀ env.locals (bindL env.kindOf bs m) cs (bindC env.kindOf bs J) s'->Q ⟨⟩ s')->wpAny M A (forIn bs ⟨⟩ f) Q E s
 | [],m,J,s,Q,z,_,go=>by rw[fL];exact ao (go s z)
 | (n,v)::r,m,J,s,Q,z,hy,go=>by
  rw[hG,Y]
  have hr:=λ y (q:y∈r)=>hy y (ai _ q)
  rcases hy (n,v) av with kl|⟨Z,c,e2⟩
  ·refine ae (ae (bA5 z G kl λ s' z'=>ao (aD5 f Y G sub r _ _ s' Q z' hr λ B F=>go B ?_)))
   unfold bindL bindC;rw[if_pos kl,if_pos kl];exact F
  ·have nl:¬ env.kindOf n=some .local:=by rw[Z];decide
   refine ae (ae (br7 z G Z (sub n c e2) e2 λ s' z'=>ao (aD5 f Y G sub r _ _ s' Q z' hr λ B F=>go B ?_)))
   unfold bindL bindC;rw[if_neg nl,if_neg nl];exact F
end
theorem an8 {M:Model}{A:aN}{E:Value->af->Prop}{s:af}{scope:Scope}{globals:Addr}{B:List (Str×Addr)}{binds:List (Str×Value)}{qual:Str}{func:Option Addr}{code:Value}{builtins:Addr}{Q:Env->af->Prop}
  (G:scope.kind=.function) (hy:∀ y∈binds,scope.names.lookup y.1=some .local\/(scope.names.lookup y.1=some .cell/\∃ c,(aK (s.heap.objs.size+1) scope.names []).lookup y.1=some c))
  (go:∀ env,env=newEnv scope s.heap.objs.size globals (aK (s.heap.objs.size+1) scope.names B) qual func code none builtins ->
   ∀ s',fS s env.locals (bindL env.kindOf binds λ _=>none) (aK (s.heap.objs.size+1) scope.names []) (bindC env.kindOf binds λ _=>none) s'->Q env s') :
  wpAny M A (fM scope globals B binds qual func code none builtins) Q E s:=by
 simp only[fM,Option.isSome_none,bC,if_false]
 refine ae (wpAny_alloc (ae (wpAny_layCells _ (λ nm kd Y=>by cases q:kd==NameKind.cell<;>simp[q]) _ _ _ _ ?_)))
 have ok:=cellsFrom_ok scope.names (s.heap.push { cls:=.type "frame",data:=.dict #[] }) (s.heap.objs.size+1) [] ⟨λ _ _ J=>(nomatch J),List.Pairwise.nil⟩ (by rw[bU];exact ak _)
 have F:({ s with heap:=s.heap.push { cls:=.type "frame",data:=.dict #[] } }:af).heap.objs.size=s.heap.objs.size+1:=bU ..
 rw[bU]at ok
 rw[F]
 refine ae (aD5 (s₀:=s) (cs:=aK (s.heap.objs.size+1) scope.names []) (env:=newEnv scope s.heap.objs.size globals (aK (s.heap.objs.size+1) scope.names B) qual func code none builtins)
  _ (λ _ _ _=>rfl) G (λ n c e=>?sub) binds (λ _=>none) (λ _=>none) _ _ ⟨⟨⟨_,_,rfl⟩,?ns,λ b o e=>?k,ak _⟩,λ n c e=>(ok.empty n c (aG e)).1,ok.apart,λ n c e=>(ok.empty n c e).2⟩ hy λ s' x=>ao (go _ rfl s' x))
 case sub =>
  show(aK _ _ _).lookup n=some c
  rw[zf,zE,e];rfl
 case ns=>exact(li s.heap (.type "frame")).keeps (c5 _ _)
 case k=>exact c5 _ _ b o (au _ e)
noncomputable def ay4 (c:Addr)(qual:Str):HO:=.ext λ h=>h.CodeRec (.ref c) qual
noncomputable def bB9 (f:Addr)(fd:bI):HO:=.ext λ h=>h.get? f=some { cls:=.type "function",data:=.func fd }
theorem av7 {P:az}{w:World}{H:Hp}{h:Heap}{c:Addr}{q:Str}(x:HOk P w H h)(e:H c=some (ay4 c q)):h.CodeRec (.ref c) q:=(x c _ e).1
theorem ar5 {P:az}{w:World}{H:Hp}{h:Heap}{f:Addr}{B:bI}(x:HOk P w H h)(e:H f=some (bB9 f B)):h.get? f=some { cls:=.type "function",data:=.func B }:=(x f _ e).1
noncomputable def isC (cells:List (Str×Addr))(b:Addr):Bool:=cells.any λ p=>cells.lookup p.1==some b
theorem aS1 {cells:List (Str×Addr)}{b:Addr}:isC cells b=true↔∃ x,cells.lookup x=some b:=by
 unfold isC
 rw[jY]
 constructor
 ·rintro⟨p,_,e⟩;exact⟨p.1,by simpa using e⟩
 ·rintro⟨x,e⟩;exact⟨(x,b),aG e,by simpa using e⟩
noncomputable def ac2 (cells:List (Str×Addr))(H:Hp):Hp:=λ b=>if isC cells b=true then none else H b
noncomputable def Put (cells:List (Str×Addr))(H H':Hp):Hp:=λ b=>if isC cells b=true then H b else H' b
theorem ac2.cell {cells:List (Str×Addr)}{H:Hp}{b:Addr}(h:isC cells b=true):ac2 cells H b=none:=if_pos h
theorem ac2.ne {cells:List (Str×Addr)}{H:Hp}{b:Addr}(h:isC cells b≠true):ac2 cells H b=H b:=if_neg h
theorem ac2.some {cells:List (Str×Addr)}{H:Hp}{b:Addr}{o:HO}(h:ac2 cells H b=some o):isC cells b≠true/\H b=some o:=by
 unfold ac2 at h
 split at h
 ·cases h
 ·rename_i z;exact⟨z,h⟩
theorem ac2.none {cells:List (Str×Addr)}{H:Hp}{b:Addr}(h:H b=none):ac2 cells H b=none:=by
 unfold ac2
 split
 ·rfl
 ·exact h
theorem Put.cell {cells:List (Str×Addr)}{H H':Hp}{b:Addr}(h:isC cells b=true):Put cells H H' b=H b:=if_pos h
theorem Put.ne {cells:List (Str×Addr)}{H H':Hp}{b:Addr}(h:isC cells b≠true):Put cells H H' b=H' b:=if_neg h
def Cells (clos:List (Str×Addr))(H:Hp):Prop:=∀ x c,clos.lookup x=some c->∃ o v,H c=some (.frz o (.own c))/\o.data=.cell v
theorem Cells.at {B:List (Str×Addr)}{H:Hp}(z:Cells B H){b:Addr}(h:isC B b=true):∃ o v,H b=some (.frz o (.own b))/\o.data=.cell v:=by
 obtain⟨x,e⟩:=aS1.mp h
 exact z x b e
def Cap (clos:List (Str×Addr))(H:Hp)(fr:List Str)(cap:List V):Prop:=∀(i:Nat) (x:Str) (v:V),fr[i]?=some x->cap[i]?=some v->∃ c o u,clos.lookup x=some c/\H c=some (.frz o (.own c))/\o.data=.cell (some u)/\RelV v u
structure LamScope (N ps fr:List Str)(sc:Scope):Prop where
 kind:sc.kind=.function
 co:sc.isCoroutine=false
 gen:sc.isGenerator=false
 nd:N.Nodup
 app:N=ps++fr
 par:∀ x∈ps,sc.names.lookup x=some .local\/sc.names.lookup x=some .cell
 frs:∀ x∈fr,sc.names.lookup x=some .free
 cel:∀ y∈sc.names,y.2=.cell->sc.names.lookup y.1=some .cell
noncomputable def aB7 (P:az)(w:World)(K:ac)(mg:Str->Option Value)(base:Heap)(N:List Str)(qual:Str)(scope:Scope)(f:Addr)(cd:Value)(clos:List (Str×Addr))(A:aN)(outer:List Env)(s:af)(H:Hp):Cx where
 prog:=P
 w:=w
 K:=K
 mg:=mg
 base:=base
 A:=A.deeper (cV qual scope s.heap.objs.size f cd (aK (s.heap.objs.size+1) scope.names clos))
 N:=N
 s₀:=s
 H₀:=ac2 clos H
 env:=cV qual scope s.heap.objs.size f cd (aK (s.heap.objs.size+1) scope.names clos)
 outer:=outer
 stack:=cV qual scope s.heap.objs.size f cd (aK (s.heap.objs.size+1) scope.names clos)::outer
 ex:=[]
 fn:=λ x=>scope.names.lookup x==some .cell
 calm:=true
 pn:=[]
 xe:=λ _ _=>False
theorem HOk.drop {P:az}{w:World}{H:Hp}{h:Heap}{B:List (Str×Addr)}(x:HOk P w H h)(z:Cells B H):HOk P w (ac2 B H) h:=λ b o e=>by
 obtain⟨_,e'⟩:=ac2.some e
 have G:∀ c u,H c=some u->(∀ o v,u≠.frz o v)->isC B c≠true:=λ c u q d y=>by
  obtain⟨o,v,F,_⟩:=z.at y
  rw[q]at F;cases F
  exact d _ _ rfl
 exact(x b o e').stay (λ _ _ _ q=>q) (λ c q=>by rw[ac2.ne (G c _ q λ _ _=>by nofun)];exact q) λ c J q=>by rw[ac2.ne (G c _ q λ _ _=>by nofun)];exact q
theorem aT7 {P:az}{w:World}{K:ac}{mg:Str->Option Value}{base:Heap}{N ps fr:List Str}{qual:Str}{scope:Scope}{f:Addr}{cd:Value}{B:List (Str×Addr)}{A:aN}{F:List Env}{s s1:af}{H:Hp}{us:List Value}{vs cap:List V}
  (S:LamScope N ps fr scope) (hd:A.handled=none) (G:Env0 P w K mg base A F s H) (hl:vs.length=ps.length) (a2:cap.length=fr.length) (r:Vals vs us)
  (hc:Cells B H) (inj:∀ x y c,B.lookup x=some c->B.lookup y=some c->x=y) (a3:∀ x,scope.names.lookup x=some .free->∃ c,B.lookup x=some c) (a0:Cap B H fr cap)
  (x:fS s s.heap.objs.size (bindL (cV qual scope s.heap.objs.size f cd (aK (s.heap.objs.size+1) scope.names B)).kindOf (ps.zip us) λ _=>none) (aK (s.heap.objs.size+1) scope.names [])
   (bindC (cV qual scope s.heap.objs.size f cd (aK (s.heap.objs.size+1) scope.names B)).kindOf (ps.zip us) λ _=>none) s1) :
  Inv (aB7 P w K mg base N qual scope f cd B A F s H) [] (vs.map some++cap.map some) (ac2 B H) s1:=by
 obtain⟨h1,tk,rfl,hk⟩:=x.done
 have Y:∀ b:Addr,b ∉ (aB7 P w K mg base N qual scope f cd B A F s H).ex:=λ b z=>absurd (show b∈([]:List Addr)from z) (by simp)
 have lk:∀ y c,(aK (s.heap.objs.size+1) scope.names B).lookup y=some c->(aK (s.heap.objs.size+1) scope.names []).lookup y=some c\/((aK (s.heap.objs.size+1) scope.names []).lookup y=none/\B.lookup y=some c):=λ y c e=>by
  rw[zf,zE]at e
  cases q:(aK (s.heap.objs.size+1) scope.names []).lookup y with
  | some d=>rw[q]at e;left;simpa using e
  | none=>rw[q]at e;right;exact⟨rfl,by simpa using e⟩
 have own:∀ y c,(aK (s.heap.objs.size+1) scope.names []).lookup y=some c->s.heap.objs.size<c:=λ y c e=>x.above y c (aG e)
 have Z:∀ y c,B.lookup y=some c->c<s.heap.objs.size:=λ y c e=>by
  obtain⟨o,v,q,_⟩:=hc y c e
  exact G.hok.lt q
 have hx:∀ y c,B.lookup y=some c->scope.names.lookup y=some .free->(aK (s.heap.objs.size+1) scope.names B).lookup y=some c:=λ y c e k=>by
  rw[zf,zE]
  cases q:(aK (s.heap.objs.size+1) scope.names []).lookup y with
  | none=>exact e
  | some d =>
   rcases zx (aG q)with z|z
   ·rw[S.cel _ z rfl]at k;cases k
   ·exact absurd z (by simp)
 have dn:∀ b,H b=none->ac2 B H b=none:=λ b e=>ac2.none e
 refine⟨⟨G.mod,S.kind,rfl,rfl,ak _,λ y z c a b=>?inj,λ y hy=>?has,λ y c hy e=>?cab,λ _=>hd,iH G.frames,.inr ⟨rfl,rfl⟩,λ b z=>absurd z (Y b),λ b o e=>⟨(G.bs b o e).1,dn b (G.bs b o e).2⟩,G.bsz,λ b _ _=>Y b,λ b z=>absurd z (Y b),G.funs,λ b hb=>dn b (G.frf b hb)⟩,
  rfl,G.bare,Un.kept hk,⟨_,x.toInCall.ns,λ i y v q1 q2 q3=>?loc⟩,λ y c e=>?cell,dn _ (G.hok.fresh (ak _)),λ y c e=>?freeC,λ p hp=>absurd (show p∈([]:List (Addr×Obj))from hp) (by simp),(G.hok.drop hc).kept hk,?len⟩
 case inj =>
  rcases lk y c a with a|⟨_,a⟩<;>rcases lk z c b with b|⟨_,b⟩
  ·exact gL x.apart (aG a) (aG b)
  ·exact absurd (gW (own _ _ a) (Z _ _ b)) (bz _)
  ·exact absurd (gW (own _ _ b) (Z _ _ a)) (bz _)
  ·exact inj y z c a b
 case has =>
  have hy:scope.names.lookup y=some .cell\/scope.names.lookup y=some .free:=hy
  rcases hy with hy|hy
  ·obtain⟨c,e⟩:=zQ (n:=s.heap.objs.size+1) hy
   refine⟨c,?_⟩
   show(aK (s.heap.objs.size+1) scope.names B).lookup y=some c
   rw[zf,zE,e];rfl
  ·obtain⟨c,e⟩:=a3 y hy
   exact⟨c,hx y c e hy⟩
 case cab =>
  have hy:(scope.names.lookup y==some .cell)=true:=hy
  have a4:scope.names.lookup y=some .cell:=by simpa using hy
  rcases lk y c e with a|⟨a,_⟩
  ·exact fv (own y c a)
  ·obtain⟨d,q⟩:=zQ (n:=s.heap.objs.size+1) a4
   rw[q]at a;cases a
 case loc =>
  have a1:ps.Nodup:=by have:=S.nd;rw[S.app]at this;exact(List.nodup_append.mp this).1
  by_cases hi:i<vs.length
  ·have ha:vs[i]?=some v:=by
    rw[aL (by simpa using hi),aH]at q2
    cases e:vs[i]? with
    | none=>rw[e]at q2;cases q2
    | some a=>rw[e]at q2;cases q2;rfl
   obtain⟨u,hu,rv⟩:=r.get ha
   have hp:ps[i]?=some y:=by
    have J:N[i]?=some y:=q1
    rw[S.app,aL (by omega)]at J;exact J
   refine⟨u,rv,?_⟩
   rcases S.par y (a7 hp)with k|k
   ·exact .inl ⟨k,aj6 a1 hp hu k⟩
   ·obtain⟨c,e⟩:=zQ (n:=s.heap.objs.size+1) k
    refine .inr ⟨.inl k,c,?_,?_⟩
    ·show(aK (s.heap.objs.size+1) scope.names B).lookup y=some c
     rw[zf,zE,e];rfl
    ·have q:=x.cell y c e
     rw[aj8 a1 hp hu (by show scope.names.lookup y≠_;rw[k];decide)]at q
     exact q
  ·have hf:fr[i - vs.length]?=some y:=by
    have J:N[i]?=some y:=q1
    rw[S.app,aB (by omega)]at J;rw[hl];exact J
   have hv:cap[i - vs.length]?=some v:=by
    rw[aB (by simpa using hi),aH,aw]at q2
    cases e:cap[i - vs.length]? with
    | none=>rw[e]at q2;cases q2
    | some a=>rw[e]at q2;cases q2;rfl
   obtain⟨c,o,u,e1,e2,e3,e4⟩:=a0 _ y v hf hv
   have kf:=S.frs y (a7 hf)
   refine⟨u,e4,.inr ⟨.inr kf,c,hx y c e1 kf,?_⟩⟩
   exact⟨o,hk c o (G.hok c _ e2).1,e3⟩
 case cell =>
  rcases lk y c e with a|⟨_,a⟩
  ·exact⟨_,x.cell y c a⟩
  ·obtain⟨o,v,q,d⟩:=hc y c a
   exact⟨v,o,hk c o (G.hok c _ q).1,d⟩
 case freeC =>
  rcases lk y c e with a|⟨_,a⟩
  ·exact dn c (G.hok.fresh (fv (own y c a)))
  ·exact ac2.cell (aS1.mpr ⟨y,a⟩)
 case len =>
  show _=N.length
  rw[S.app]
  simp[hl,a2]
theorem aV2 {P:az}{w:World}{F:List Env}{H H':Hp}{s s':af}{B:List (Str×Addr)}(hok:HOk P w H s.heap)(hc:Cells B H)(frf:∀ b∈frs F,H b=none)
  (un:Un (frs F) [] (ac2 B H) H' s.heap s'.heap) (Y:HOk P w H' s'.heap):Un (frs F) [] H (Put B H H') s.heap s'.heap/\HOk P w (Put B H H') s'.heap:=by
 have nc:∀ b,H b=none->isC B b≠true:=λ b e y=>by
  obtain⟨o,v,q,_⟩:=hc.at y
  rw[e]at q;cases q
 have J:∀ c u,H c=some u->(∀ o v,u≠.frz o v)->isC B c≠true:=λ c u q d y=>by
  obtain⟨o,v,q',_⟩:=hc.at y
  rw[q]at q';cases q'
  exact d _ _ rfl
 have G:∀ b,isC B b=true->H' b=none:=λ b y=>by
  obtain⟨o,v,q,_⟩:=hc.at y
  exact un.free b o (hok b _ q).1 (ac2.cell y) (by simp)
 refine⟨⟨λ b o e n hb hx=>un.keep b o e (ac2.none n) hb hx,λ b o e n hb hx=>un.slot b o e (ac2.none n) hb hx,λ b o e n hx=>?_,λ b o e hx=>un.there b o e hx,λ b Z e=>?_,λ b o u e=>?_,λ b ps e=>?_⟩,λ b o e=>?_⟩
 ·rw[Put.ne (nc b n)];exact un.free b o e (ac2.none n) hx
 ·have z:=J b _ e λ _ _=>by nofun
  rw[Put.ne z];exact un.tups b Z (by rw[ac2.ne z];exact e)
 ·by_cases z:isC B b=true
  ·rw[Put.cell z];exact e
  ·rw[Put.ne z];exact un.frzs b o u (by rw[ac2.ne z];exact e)
 ·have z:=J b _ e λ _ _=>by nofun
  rw[Put.ne z];exact un.tbls b ps (by rw[ac2.ne z];exact e)
 ·by_cases z:isC B b=true
  ·rw[Put.cell z]at e
   obtain⟨ob,v,q,d⟩:=hc.at z
   rw[q]at e;cases e
   have g:=(hok b _ q).1
   have g':=un.keep b ob g (ac2.cell z) (λ y=>by rw[frf b y]at q;cases q) (by simp)
   exact⟨g',ob,g'⟩
  ·rw[Put.ne z]at e
   have np:∀ c u,H' c=some u->Put B H H' c=some u:=λ c u q=>by
    rw[Put.ne λ y=>by rw[G c y]at q;cases q];exact q
   exact(Y b o e).stay (λ _ _ _ q=>q) (λ c q=>np c _ q) λ c Z q=>np c _ q
structure ClOk (P:az)(w:World)(K:ac)(mg:Str->Option Value)(base:Heap)(k:Nat)(R:Hp->Prop)(f:Addr)(sp:Sp):Prop where
 run:∀(A:aN) (outer:List Env) (s:af) (H:Hp) (us:List Value) (vs:List V) (Q:VK),Room k A->Env0 P w K mg base A outer s H->R H->Vals vs us->sp vs H Q E0 ->
  fy (model P w) A (.call (.ref f) ⟨us,[]⟩) (CR CX0 outer P w H s Q E0) s
def aE8 (H:Hp)(f:Addr)(qual:Str)(params:bW)(body:Expr)(scope:Scope)(fr:List Str)(cap:List V)(clos:List (Str×Addr)):Prop :=
 ∃ pm c' ctv,H f=some (bB9 f (dw "<lambda>" qual params body scope clos pm (.ref c') ctv))/\H c'=some (ay4 c' qual)/\Cells clos H /\
  (∀ x y c,clos.lookup x=some c->clos.lookup y=some c->x=y)/\(∀ x,scope.names.lookup x=some .free->∃ c,clos.lookup x=some c)/\Cap clos H fr cap
def BM (mg:Str->Option Value)(base:Heap):Prop:=∃ bm ob,mg "__builtins__"=some (.ref bm)/\bm≠gI/\base.get? bm=some ob/\ob.cls=.type "module"/\ob.dict=some gI/\ob.data=.plain
noncomputable def lamCheck (scope xs:Scope):Bool:=scope.names.all λ y=>!(y.2==.free)||(xs.names.lookup y.1==some .cell||xs.names.lookup y.1==some .free)
structure Caught (cl:List (Str×Addr))(N:List Str)(kd:Str->Option cf)(σ:St)(H1 H2:Hp):Prop where
 ne:∀ b,isC cl b≠true->H2 b=H1 b
 free:∀ b,isC cl b=true->H1 b=none
 cells:Cells cl H2
 cap:∀(i:Nat) (x:Str) (v:V) (c:Addr),N[i]?=some x->σ[i]?=some (some v)->(kd x=some .cell\/kd x=some .free)->cl.lookup x=some c->∃ o u,H2 c=some (.frz o (.own c))/\o.data=.cell (some u)/\RelV v u
 inj:∀ x y c,cl.lookup x=some c->cl.lookup y=some c->x=y
def bS2 (K:ac)(H:Hp)(f:Addr):Prop:=(∃ fd,H f=some (bB9 f fd))\/∃ oc od fd sl,K.lookup f=some ⟨oc,od,.func fd,sl⟩
theorem bS2.at {X:Cx}{B:List (Addr×Obj)}{σ:St}{H:Hp}{s:af}{f:Addr}(h:bS2 X.K H f)(I:Inv X B σ H s):PySem.W.FnAt f s.heap:=by
 rcases h with⟨F,h⟩|⟨oc,od,F,sl,h⟩
 ·exact⟨_,_,_,_,ar5 I.hok h⟩
 ·exact⟨_,_,_,_,I.kIn _ _ h⟩
noncomputable def aw8 (K:ac)(names:List Str):List (Str×Addr×Addr):=names.filterMap λ x=>(a9 K x).map λ p=>(x,p)
theorem ap3 {K:ac}{names:List Str}{y:Str×Addr×Addr}:y∈aw8 K names↔y.1∈names/\a9 K y.1=some y.2:=by
 unfold aw8
 rw[cC]
 constructor
 ·rintro⟨x,hx,e⟩
  obtain⟨p,hp,rfl⟩:=bq.mp e
  exact⟨hx,hp⟩
 ·rintro⟨hx,e⟩
  exact⟨y.1,hx,by rw[e];rfl⟩
def bn2 (K:ac)(names:List Str)(base:Heap):Prop:=∀ x∈names,∀ c P,a9 K x=some (c,P)->bR base c P
def bp7 (K:ac)(names:List Str)(H:Hp):Prop:=∀ x∈names,∀ c P,a9 K x=some (c,P)->H P=some (.tbl #[])
noncomputable def bO8 (K:ac)(names:List Str)(ts:List Addr):Bool:=names.all λ x=>match a9 K x with
 | some (c,P)=>jZ K c P&&ts.contains P
 | none=>true
theorem aq6 {K:ac}{x:Str}(h:(a9 K x).isSome=true):a9 K x=some (((a9 K x).getD (0,0)).1,((a9 K x).getD (0,0)).2):=by
 obtain⟨p,e⟩:=gh.mp h
 rw[e]
 rfl
def bI9 (H:Hp)(P:Addr)(q:Str):Prop:=∃ ps:Array Value,H P=some (.tbl ps)/\TriplesOk ps.toList/\∀ pos cv,codeAmong pos ps.toList=some cv->∃ c',cv=.ref c'/\H c'=some (ay4 c' q)
def TabsH (T:List (Addr×Str))(H:Hp):Prop:=∀ y∈T,bI9 H y.1 y.2
def bL2 (H H':Hp):Prop:=∀ b o,(∀ ps,o≠.tbl ps)->H b=some o->H' b=some o
theorem bL2.of {H B:Hp}(a:ad0 H B):bL2 H B:=λ c o _ h=>a c o h
theorem TabsH.keep {T:List (Addr×Str)}{H H':Hp}(h:TabsH T H)(k:∀ b o,(∀ F,o≠.lst F)->H b=some o->H' b=some o):TabsH T H':=λ y hy=>by
 obtain⟨ps,e,t,c⟩:=h y hy
 refine⟨ps,k _ _ (λ _=>by nofun) e,t,λ pos G q=>?_⟩
 obtain⟨B,e1,e2⟩:=c pos G q
 exact⟨B,e1,k _ _ (λ _=>by unfold ay4;nofun) e2⟩
theorem TabsH.same {T:List (Addr×Str)}{H H':Hp}(h:TabsH T H)(s:ad0 H H'):TabsH T H':=h.keep λ b o _ e=>s b o e
theorem TabsH.new {T:List (Addr×Str)}{H:Hp}{a:Addr}{o:HO}(h:TabsH T H)(n:H a=none):TabsH T (upd H a o):=h.same ((ad0.refl H).new n)
theorem TabsH.put {T:List (Addr×Str)}{H:Hp}{a:Addr}{o:HO}{B:List V}(h:TabsH T H)(n:H a=some (.lst B)):TabsH T (upd H a o):=h.keep λ b u d e=>by
 rw[zn λ z=>by subst z;rw[n]at e;cases e;exact d _ rfl];exact e
theorem TabsH.init {T:List (Addr×Str)}{H:Hp}(h:∀ p∈T.map (·.1),H p=some (.tbl #[])):TabsH T H:=λ y hy =>
 ⟨#[],h _ (bP hy),trivial,λ pos B e=>by simp[codeAmong]at e⟩
theorem Caught.same {cells:List (Str×Addr)}{N:List Str}{kd:Str->Option cf}{σ:St}{G F:Hp}(B:Caught cells N kd σ G F):ad0 G F:=λ b o e=>by
 rw[B.ne b λ z=>by rw[B.free b z]at e;cases e];exact e
theorem Fun.okC {P:az}{w:World}{K:ac}{mg:Str->Option Value}{base:Heap}{x qual:Str}{st:Stmt}{f c:Addr}{fd:bI}{N ps:List Str}{k:Nat}{sp:Sp}(F:Fun K x qual st f fd)(Y:fd.code=.ref c)(S:FnScope N ps (defScope st))(len:∀ vs H Q E,sp vs H Q E->vs.length=ps.length)
  (G:∀(A:aN) (B:List Env) (s:af) (H:Hp) (vs:List V) (Q:VK) (E:XK),Room k (A.deeper (fe qual (defScope st) s.heap.objs.size f (.ref c)))->sp vs H Q E ->
   ∃ t,PSs (at4 CX0 P w K mg base N qual (defScope st) f (.ref c) A B s H E).nox (zt st) t/\t { nx:=λ _ H'=>Q .non H',rt:=Q } (qT N vs) H):FnOk P w K mg base CX0 (k+1) f fd ps sp:=by
 obtain⟨oc,od,kV,a0,pm,an,J,ct,a1,rfl,lk,hc⟩:=F.ex
 have e:J=.ref c:=Y
 subst e
 refine bA4 lk hc S len λ A B s H vs Q E hr Z=>?_
 obtain⟨t,h,q⟩:=G A B s H vs Q E hr Z
 exact⟨t,h.nox,q⟩
theorem aR7 {X:Cx}{K:ac}(hc:X.calm=true)(hK:X.K=K):ac5 X (.builtin "min") (λ Z H Q=>∃ a ns,Z=[.ref a]/\SqL K H a (ns.map V.int)/\ns≠[]/\∀ m∈ns,(∀ y∈ns,m<=y)->Q (.int m) H):=by
 subst hK
 intro a1 s σ H Z us Q I r h
 obtain⟨a,ns,rfl,hS,Y,q⟩:=h
 obtain⟨u,rfl,ru⟩:=af6 r
 cases ru
 obtain⟨its,G,J,hz⟩:=I.list hS
 have hl:=G.length
 rw[aw]at hl
 have a0:0<ns.length:=jc.mpr Y
 refine call_min_walk (d8 J.isList ?_)
 have F:a<s.heap.objs.size:=by obtain⟨o,_,e,_⟩:=J;exact aD e
 have W:=lq (prog:=X.prog) (w:=X.w) (A:=X.A.in1) (I.ok.hd hc) s.heap.objs.size a (aC F) its.toArray
 let val:Nat->Int:=λ i=>ns.getD i 0
 have B:∀ i v,its.toArray[i]?=some v->∃ t,v=Value.int (val i) t:=λ i v e=>by
  obtain⟨z,t,e1,e2⟩:=at6 G (i:=i) (v:=v) (by rw[dh]at e;exact e)
  refine⟨t,?_⟩
  rw[e2]
  show Value.int z t=Value.int (ns.getD i 0) t
  rw[bw,e1]
  rfl
 refine⟨_,_,_,_,_,_,_,rfl,W,⟨⟨_,aX _ rfl,rfl,rfl⟩,?_⟩,λ b hb=>?_,by rw[ar];omega,kQ val B,λ v h' tk hP k=>?_⟩
 ·obtain⟨o,e,r⟩:=J.isList
  exact⟨o,au _ e,r⟩
 ·show b<(s.heap.push _).objs.size
  rw[bU]
  rcases aA.mp hb with z|z
  ·rw[z];exact dC _
  ·have z':b=a:=by simpa using z
   rw[z'];exact fU F
 ·obtain⟨z,t,e1,e2⟩:=at6 G (i:=dB (λ i j=>decide (val i<val j)) (its.toArray.size - 1)) (v:=v) (by rw[dh]at hP;exact hP)
  subst e2
  have hv:val (dB (λ i j=>decide (val i<val j)) (its.toArray.size - 1))=z:=by
   show ns.getD _ 0=z
   rw[bw,e1]
   rfl
  refine⟨.int z,H,I.kept (h':=h') (t':=tk) λ b o q=>k b o ?_ (au _ q),⟨t,rfl⟩,q z (a7 e1) λ y hy=>?_⟩
  ·intro z
   have z':b=s.heap.objs.size:=by simpa using z
   exact absurd (aD q) (by rw[z'];exact bz _)
  ·obtain⟨j,hj,e3⟩:=dv.mp hy
   have:=qV val (its.toArray.size - 1) j (by simp only[ar];omega)
   rw[hv]at this
   have e4:val j=y:=by
    show ns.getD j 0=y
    rw[bw,aj hj]
    exact e3
   omega
noncomputable def mx (a b:Int):Int:=if b > a then b else a
noncomputable def bZ2 (n:Nat)(s t:Nat->Nat->Int)(i j:Nat):Int:=(minO ((aU n).map λ k=>mx (s i k) (t k j))).getD 3
section
variable {X:Cx}
end
noncomputable def mx3 (a b c:Int):Int:=mx (mx a b) c
noncomputable def pw (n:Nat)(s:Nat->Nat->Int):Nat->Nat->Nat->Int
 | 0=>s
 | m+1=>bZ2 n (pw n s m) s
noncomputable def rnd (x:Int):Int:=if x=0\/x=3 then x else 2
noncomputable def sharp (n:Nat)(s:Nat->Nat->Int)(i j:Nat):Int:=(minO ((aU n).map λ k=>mx3 (s i k) (rnd (s k k)) (s k j))).getD 3
section
variable {n:Nat} {s:Nat->Nat->Int}
end
def an0 (H:Hp)(f:Addr)(name qual:Str)(params:bW)(body:List Stmt)(scope:Scope)(fr:List Str)(cap:List V)(clos:List (Str×Addr)):Prop :=
 ∃ doc pm c' ctv,H f=some (bB9 f (fX name qual params body scope clos .none .none doc pm none (.ref c') ctv))/\H c'=some (ay4 c' qual)/\Cells clos H /\
  (∀ x y c,clos.lookup x=some c->clos.lookup y=some c->x=y)/\(∀ x,scope.names.lookup x=some .free->∃ c,clos.lookup x=some c)/\Cap clos H fr cap
theorem an0.fn {K:ac}{H:Hp}{f:Addr}{name qual:Str}{params:bW}{body:List Stmt}{scope:Scope}{fr:List Str}{cap:List V}{B:List (Str×Addr)}(h:an0 H f name qual params body scope fr cap B):bS2 K H f:=by
 obtain⟨F,Y,Z,J,G,_⟩:=h
 exact .inl ⟨_,G⟩
end L2
end
noncomputable section
namespace L2
open PySem PySem.Spec PyProof.Rows Builtin
section
variable {P:az} {w:World} {A:aN} {E:Value->af->Prop} {s:af}
theorem aC4 {it t:Addr}{i:Nat}{l:Array Value}{v:Value}{Q:Value->af->Prop}(B:s.heap.IsTupleIter it t i)(G:s.heap.IsTuple t l)(hv:l[i]?=some v)
  (k:∀ h',h'.IsTupleIter it t (i+1)->d6 it s.heap h'->Q v { s with heap:=h' }):wpAny (model P w) A (bO (.ref it)) Q E s:=by
 obtain⟨o,e1,e2,e3⟩:=id B
 obtain⟨p,p1,_,n,F⟩:=G
 unfold bO
 refine ae (cP (name:=aV "__next__") B.typeIs cE (cx cE B.typeIs fC ?_ (fj _)))
 show wpAny _ _ (field (.ref it) 0 >>= _) _ _ _
 refine ae (dY e1 e3 (x:=.ref t) rfl ?_)
 show wpAny _ _ (if(Value.ref t==Value.none)=true then _ else _) _ _ _
 rw[if_neg (show ¬((Value.ref t==Value.none)=true)from λ z=>nomatch z)]
 show wpAny _ _ (field (.ref it) 1 >>= _) _ _ _
 refine ae (dY e1 e3 (x:=.int i 0) rfl ?_)
 show wpAny _ _ (iZ (.ref t) >>= _) _ _ _
 refine ae (cO p1 F ?_)
 simp only[bJ,hv]
 refine ae (wpAny_setField e1 e3 (by simp) (ao ⟨v,rfl,ao (k _ ⟨_,db _ e1 (Obj.isFreed_of_fields (jv e3 _)),(Obj.cls_mapFields ..).trans e2,by rw[jv e3];simp[rawInt]⟩ (jd ..))⟩))
theorem aK4 {it t:Addr}{i:Nat}{l:Array Value}{Q:Value->af->Prop}(hh:A.handled=none)(B:s.heap.IsTupleIter it t i)(G:s.heap.IsTuple t l)(hv:l[i]?=none)
  (k:∀ h' e,j8 it s.heap h'->(∃ o,h'.get? e=some o/\o.cls=.type "StopIteration")->E (.ref e) { s with heap:=h' }):wpAny (model P w) A (bO (.ref it)) Q E s:=by
 obtain⟨o,e1,e2,e3⟩:=id B
 obtain⟨p,p1,_,n,F⟩:=G
 unfold bO
 refine ae (cP (name:=aV "__next__") B.typeIs cE (cx cE B.typeIs fC ?_ (fj _)))
 show wpAny _ _ (field (.ref it) 0 >>= _) _ _ _
 refine ae (dY e1 e3 (x:=.ref t) rfl ?_)
 show wpAny _ _ (if(Value.ref t==Value.none)=true then _ else _) _ _ _
 rw[if_neg (show ¬((Value.ref t==Value.none)=true)from λ z=>nomatch z)]
 show wpAny _ _ (field (.ref it) 1 >>= _) _ _ _
 refine ae (dY e1 e3 (x:=.int i 0) rfl ?_)
 show wpAny _ _ (iZ (.ref t) >>= _) _ _ _
 refine ae (cO p1 F ?_)
 simp only[bJ,hv]
 refine ae (gH (ae (wpAny_setField e1 e3 (by simp) ?_)))
 show wpAny _ _ (newExc (.type "StopIteration") [] >>= _) _ _ (_:af)
 refine ae ?_
 simp only[newExc,newTuple]
 refine ae (bA ?_ (by size_fits))
 refine ae (m:=firstArgMember _ _) (j7 (a:=Value.none) (by first|rfl|(simp only[firstArgMember];rfl)) (bA ?_ (by size_fits)))
 simp only[raiseNew]
 refine ae (wpAny_handled ?_)
 first|rw[show A.in1.handled=none from hh]|rw[hh]
 exact ae (ao (wpAny_throw (k _ _ (((jd ..).extBut.push _).push _) ⟨_,aX _ rfl,rfl⟩)))
end
structure Dw (P:az)(w:World)(K:ac)(J:It)(it:Addr)(tn:Nat->Heap->Prop):Prop where
 obj:∀ i h,tn i h->∃ o,h.get? it=some o/\∀ v,o.data≠.cell v
 keep:∀ i h h',tn i h->(∀ o,h.get? it=some o->h'.get? it=some o)->tn i h'
 item:∀(X:Cx),X.prog=P->X.w=w->X.K=K->∀(A:aN) (i:Nat) (pins:List (Addr×Obj)) (s:af) (σ:St) (H:Hp) (Q:Value->af->Prop) (E:Value->af->Prop),Inv X pins σ H s->tn i s.heap->J.go i H ->
  (∀ x u h' tk,RelV x u->J.yld i H x H->tn (i+1) h'->d6 it s.heap h'->Q u { s with heap:=h',toks:=tk })->wpAny (model P w) A (bO (.ref it)) Q E s
 done:∀(X:Cx),X.prog=P->X.w=w->X.K=K->∀(A:aN) (i:Nat) (pins:List (Addr×Obj)) (s:af) (σ:St) (H:Hp) (Q:Value->af->Prop) (E:Value->af->Prop),A.handled=none->Inv X pins σ H s->tn i s.heap->J.stop i H ->
  (∀ h' e,j8 it s.heap h'->(∃ o,h'.get? e=some o/\o.cls=.type "StopIteration")->E (.ref e) { s with heap:=h' })->wpAny (model P w) A (bO (.ref it)) Q E s
theorem bw4 {P:az}{w:World}{K:ac}(a it:Addr):Dw P w K (Itl K a) it (λ i h=>h.IsListIter it a i) where
 obj:=λ i h st=>by
  obtain⟨o,e,c,d⟩:=st
  exact⟨o,e,λ v z=>by rw[d]at z;cases z⟩
 keep:=λ i h h' st k=>st.at k
 item:=by
  intro X Y hw hK A i B s σ H Q E I st hg k
  subst Y hw hK
  obtain⟨Z,x,F,hx⟩:=hg
  obtain⟨its,G,p,hz⟩:=I.list F
  obtain⟨u,hu,ru⟩:=G.get hx
  exact wpAny_nextOf_list_item st p.isList (x:=u) (by simpa using hu) λ h' J sb=>k x u h' s.toks ru ⟨rfl,λ ys hy=>by rw[I.list_inj hy F];exact hx⟩ J sb
 done:=by
  intro X Y hw hK A i B s σ H Q E hA I st hg k
  subst Y hw hK
  obtain⟨Z,F,hx⟩:=hg
  obtain⟨its,G,p,hz⟩:=I.list F
  have hl:=G.length
  exact wpAny_nextOf_list_end hA st p.isList (by simp;omega) k
theorem bH6 {P:az}{w:World}{K:ac}(a it:Addr):Dw P w K (Itt K a) it (λ i h=>h.IsTupleIter it a i) where
 obj:=λ i h st=>by
  obtain⟨o,e,c,d⟩:=st
  exact⟨o,e,λ v z=>by rw[d]at z;cases z⟩
 keep:=λ i h h' st k=>st.at k
 item:=by
  intro X Y hw hK A i B s σ H Q E I st hg k
  subst Y hw hK
  obtain⟨Z,x,F,hx⟩:=hg
  obtain⟨its,G,p,hz⟩:=I.tuple F
  obtain⟨u,hu,ru⟩:=G.get hx
  exact aC4 st (show s.heap.IsTuple a its.toArray from p) (v:=u) (by simpa using hu) λ h' J sb=>k x u h' s.toks ru ⟨rfl,λ ys hy=>by rw[I.tuple_inj hy F];exact hx⟩ J sb
 done:=by
  intro X Y hw hK A i B s σ H Q E hA I st hg k
  subst Y hw hK
  obtain⟨Z,F,hx⟩:=hg
  obtain⟨its,G,p,hz⟩:=I.tuple F
  have hl:=G.length
  exact aK4 hA st (show s.heap.IsTuple a its.toArray from p) (by simp;omega) k
theorem bG1 {P:az}{w:World}{K:ac}(x:Str)(t:Tok)(it:Addr):Dw P w K (Its x) it (λ i h=>h.IsStrIter it (iM x) x t i) where
 obj:=λ i h st=>by
  obtain⟨o,e,c,d⟩:=st
  exact⟨o,e,λ v z=>by rw[d]at z;cases z⟩
 keep:=λ i h h' st k=>by
  obtain⟨o,ho,r⟩:=st
  exact⟨o,k _ ho,r⟩
 item:=by
  intro X J hw hK A i G s σ H Q E I st hg k
  subst J hw hK
  have B:i<x.cps.size:=hg
  have hc:x.cps[i]?=some x.cps[i]:=by simp[B]
  unfold iM at st k
  cases ha:x.cps.all (·<128)
  ·rw[ha]at st k
   exact wpAny_nextOf_wide_item st hc λ h' F Y=>k (.str ⟨#[x.cps[i]]⟩) _ h' (s.toks+1) ⟨_,rfl⟩ ⟨rfl,_,hc,rfl⟩ F Y
  ·rw[ha]at st k
   exact wpAny_nextOf_ascii_item st hc λ h' F Y=>k (.str ⟨#[x.cps[i]]⟩) _ h' (s.toks+1) ⟨_,rfl⟩ ⟨rfl,_,hc,rfl⟩ F Y
 done:=by
  intro X J hw hK A i G s σ H Q E Z I st hg k
  subst J hw hK
  have B:x.cps.size<=i:=hg
  have hc:x.cps[i]?=none:=by simp[B]
  unfold iM at st
  cases ha:x.cps.all (·<128)
  ·rw[ha]at st
   exact wpAny_nextOf_wide_end Z st hc k
  ·rw[ha]at st
   exact wpAny_nextOf_ascii_end Z st hc k
section
variable {X:Cx} {pins:List (Addr×Obj)} {σ:St} {H:Hp} {s:af} {A:aN} {E:Value->af->Prop} {J1 J2:It} {t1 t2:Nat->Heap->Prop} {z ti to i1 i2:Addr} {n:Nat} {a b:Value}
end
def Mkr (v:Value)(o:Obj)(h:Heap):Prop:=∀(P:az) (w:World) (A:aN) (E:Value->af->Prop) (s:af) (Q:Value->af->Prop),(∀ b u,h.get? b=some u->s.heap.get? b=some u) ->
 Q (.ref s.heap.objs.size) { s with heap:=s.heap.push o }->wpAny (model P w) A (kW v) Q E s
def Sr (K:ac)(H:Hp)(x:V)(J:It):Prop:=(∃ a,x=.ref a/\(∃ xs,SqL K H a xs)/\J=Itl K a)\/(∃ a,x=.ref a/\(∃ xs,SqT K H a xs)/\J=Itt K a)\/∃ y,x=.str y/\J=Its y
theorem Sr.mk {X:Cx}{B:List (Addr×Obj)}{σ:St}{H:Hp}{s:af}{x:V}{u:Value}{J:It}(I:Inv X B σ H s)(h:Sr X.K H x J)(r:RelV x u) :
  ∃(o:Obj) (G:Addr->Nat->Heap->Prop),o.isFreed=false/\Mkr u o s.heap/\(∀ it,Dw X.prog X.w X.K J it (G it))/\∀ it h',h'.get? it=some o->G it 0 h':=by
 rcases h with⟨a,e,⟨Z,F⟩,e'⟩|⟨a,e,⟨Z,F⟩,e'⟩|⟨y,e,e'⟩
 ·subst e e';cases r
  obtain⟨its,Y,p,hz⟩:=I.list F
  exact⟨_,λ it i h=>h.IsListIter it a i,rfl,λ P w A E s' Q hk q=>d8 (p.isList.at λ o e=>hk _ _ e) q,λ it=>bw4 a it,λ it h' e=>⟨_,e,rfl,rfl⟩⟩
 ·subst e e';cases r
  obtain⟨its,Y,p,hz⟩:=I.tuple F
  exact⟨_,λ it i h=>h.IsTupleIter it a i,rfl,λ P w A E s' Q hk q=>jp (Heap.IsTuple.at (show s.heap.IsTuple a its.toArray from p) λ o e=>hk _ _ e) q,λ it=>bH6 a it,λ it h' e=>⟨_,e,rfl,rfl⟩⟩
 ·subst e e';obtain⟨t,rfl⟩:=r
  exact⟨_,λ it i h=>h.IsStrIter it (iM y) y t i,rfl,λ P w A E s' Q hk q=>wpAny_pyIter_strU q,λ it=>bG1 y t it,λ it h' e=>⟨_,e,rfl,rfl⟩⟩
end L2
end
noncomputable section
namespace L2
open PySem PySem.Spec PyProof.Rows Builtin
open AutoSeq1 (wpAny_loadPart')
section
variable {X:Cx} {pins:List (Addr×Obj)} {σ:St} {H:Hp} {s:af} {A:aN} {E:Value->af->Prop} {J1:It} {t1:Nat->Heap->Prop} {z it:Addr} {n:Nat} {old:Value}
end
end L2
end
noncomputable section
namespace L2
open PySem PySem.Spec PyProof.Rows Builtin
open AutoSeq1 (wpAny_loadPart')
theorem aB5:fillsNumberSlot (.type "tuple") "mul"=pure false :=
 PySem.fillsNumberSlot_seq (id := "tuple.__mul__") (r:=some (.builtin "tuple.__rmul__")) eA.lookup (by decide +kernel) gD.lookup (by decide +kernel)
theorem aK8:seqRepeat? (.type "tuple")=pure (some (.builtin "tuple.__mul__")):=by
 unfold seqRepeat?
 rw[j0 (T := "tuple") (name := "__mul__") (id := "tuple.__mul__") eA.lookup (by decide +kernel),j0 (T := "tuple") (name := "__rmul__") (id := "tuple.__rmul__") gD.lookup (by decide +kernel)]
 rfl
theorem ay9 (a:Int)(t:Tok)(l:Addr)(o:Obj)(B:Array Value)(n:Nat)(F:Option Addr)(sl:Array (Option Value)) :
  Meets (Builtin.«int.__rmul__» ⟨[.int a t,.ref l],[]⟩) (λ _ R s=>s.heap.get? l=some { cls:=.type "tuple",dict:=F,data:=.seq B n,slots:=sl }/\R (.ok (.ret Value.notImplemented)) s) :=
 .of_wp λ prog w A R s h=>by obtain⟨hp,g,d,tk,os⟩:=s;obtain⟨hl,h⟩:=h;wp_walk;exact⟨_,rfl,h⟩
noncomputable def am7 {α:Type}:Nat->List α->List α
 | 0,_=>[]
 | n+1,a=>a++am7 n a
theorem aG1 {α:Type}(l:List α):∀(n:Nat) (B:Array α),(aq n l.toArray).foldl (·++·) B=B++(am7 n l).toArray
 | 0,B=>by simp[am7]
 | n+1,B=>by rw[bG,cZ,aG1 l n];simp[am7]
theorem au4 {α:Type}(a:Array α):∀(n:Nat) (B:Array α),((aq n a).foldl (·++·) B).size=B.size+a.size*n
 | 0,B=>by simp
 | n+1,B=>by rw[bG,cZ,au4 a n,Array.size_append,Nat.mul_succ];omega
def TmA (items:Array Value)(k:Int)(l:Addr)(R:Value->af->Prop)(s:af):Prop :=
 ((items.isEmpty||k==1)=true->R (.ref l) s)/\((items.isEmpty||k==1)=false->R (.ref s.heap.objs.size) { s with heap:=s.heap.push { cls:=.type "tuple",data:=.seq ((aq k.toNat items).foldl (·++·) #[]) } })
theorem aW1 {P:az}{w:World}{A:aN}{E:Value->af->Prop}{s:af}{l:Addr}{B:Array Value}{k:Int}{t:Tok}{Q:Value->af->Prop}(h0:0<=k)(Y:k<=1000000)(hz:B.size*k.toNat<=1000000)(hl:IsTup s.heap l B)
  (h:TmA B k l Q s):wpAny (model P w) A (call (.builtin "tuple.__mul__") [.ref l,.int k t]) Q E s:=by
 refine cx eA hl.typeIs PySem.F.entry_tuple_mul ?_ (PySem.F.args_tuple_mul_2 _ _)
 obtain⟨J,q2⟩:=h
 show wpAny _ _ (asIndex (.int k t) >>= _) _ _ _
 refine ae (ao ?_)
 rw[if_neg (by rw[decide_eq_false (by omega),decide_eq_false (by omega)];decide)]
 show wpAny _ _ (cz (.ref l) >>= _) _ _ _
 refine ae (jh hl ?_)
 have G:(B.size:Int)*k<=1000000:=by
  have:((B.size*k.toNat:Nat):Int)<=1000000:=by omega
  rw[kg,fm h0]at this
  exact this
 cases hb:(B.isEmpty||k==1)with
 | true =>
  rw[if_pos rfl]
  unfold kG
  refine ae (ae (gN hl.typeIs (ao ?_)))
  rw[if_pos (by decide)]
  exact ae (gH (ao ⟨_,rfl,J hb⟩))
 | false =>
  rw[if_neg aR]
  have he:B.isEmpty=false:=by
   rw[eY]at hb;exact hb.1
  have q:=q2 hb
  show wpAny _ _ (if(decide (k<=0)||B.isEmpty)=true then _ else _) _ _ _
  by_cases hk:k<=0
  ·rw[if_pos (by rw[decide_eq_true hk];rfl)]
   have:k.toNat=0:=by omega
   rw[this]at q
   exact ae (bA (ao ⟨_,rfl,q⟩) (by size_fits))
  ·rw[if_neg (by rw[decide_eq_false hk,he];decide)]
   show wpAny _ _ (if(B.size:Int)*k > (2^63 - 1) / 8 then _ else _) _ _ _
   rw[if_neg (by omega)]
   show wpAny _ _ (if fN ((B.size:Int)*k)=true then _ else _) _ _ _
   rw[if_neg (by unfold fN;rw[decide_eq_false (by unfold aJ;omega)];decide)]
   refine ae (bA (ao ⟨_,rfl,q⟩) ?_)
   show Array.size _<=aJ
   rw[au4]
   show 0+_<=_
   rw[gX]
   have h3:B.size*k.toNat<=aJ:=am hz (by decide)
   exact h3
theorem aJ1 {α:Type}:∀ n,am7 n ([]:List α)=[]
 | 0=>rfl
 | n+1=>by simp[am7,aJ1 n]
theorem ba1 {α:Type}(l:List α):am7 1 l=l:=by simp[am7]
theorem aJ5 {α:Type}(l:List α):∀ n,(am7 n l).length=l.length*n
 | 0=>by simp[am7]
 | n+1=>by simp[am7,aJ5 l n,j9];omega
theorem Vals.repT {B:List V}{us:List Value}(r:Vals B us):∀ n,Vals (am7 n B) (am7 n us)
 | 0=>.nil
 | n+1=>r.append (Vals.repT r n)
def bU5 (K:ac):R2:=λ x y H Q=>∃ a xs n,x=.ref a/\y=.int n/\SqT K H a xs/\(0<=n/\n<=1000000/\xs.length*n.toNat<=1000000)/\∀ p H',ad0 H H'->SqT K H' p (am7 n.toNat xs)->(H' p=some (.tup (am7 n.toNat xs))\/(p=a/\am7 n.toNat xs=xs))->Q (.ref p) H'
theorem bp6 {X:Cx}{K:ac}(hK:X.K=K):OpR X (cr .Mult) (bU5 K):=by
 subst hK
 intro G s σ H x y v u Q I J ry h
 obtain⟨a,F,n,rfl,rfl,ha,⟨h0,Y,hz⟩,q⟩:=h
 cases J
 obtain⟨t,rfl⟩:=ry
 obtain⟨its,r1,p1,Z⟩:=I.tuple ha
 have B:=r1.length
 obtain⟨⟨cls,dd,data,sl⟩,ho,hc,n1,hd⟩:=id p1
 simp only at hc hd
 subst hc hd
 refine fO (T := "tuple") (U := "int") (by decide) p1.typeIs (λ s'=>gQ s' n t) aB5 jt dW aK8 ja.lookup
  (js dW (gQ s n t) jb (iJ _ _) (ay9 n t a default its.toArray n1 dd sl) ⟨ho,⟨rfl,p1.typeIs,aW1 h0 Y (by rw[ar,<-B];exact hz) p1 ⟨λ hb=>?_,λ hb=>?_⟩⟩⟩)
 ·have ex:am7 n.toNat F=F:=by
   rw[bK]at hb
   rcases hb with hb|hb
   ·have hi:its=[]:=by simpa using hb
    have hx:F=[]:=r1.nil_iff.mp hi
    rw[hx,aJ1]
   ·have:n=1:=by simpa using hb
    subst this
    exact ba1 _
  exact⟨.ref a,H,I,rfl,q a H (ad0.refl H) (by rw[ex];exact ha) (.inr ⟨rfl,ex⟩)⟩
 ·have hp:=I.hok.fresh (ak s.heap.objs.size)
  refine⟨.ref s.heap.objs.size,_,I.laid (t':=s.toks) (o:=.tup (am7 n.toNat F)) (λ b ob q=>au _ q) (ak _) ?_,rfl,q _ _ ((ad0.refl H).new hp) (SqT.of zu) (.inl zu)⟩
  refine⟨by rw[aJ5];exact am hz (by decide),am7 n.toNat its,r1.repT _,?_⟩
  rw[show(am7 n.toNat its).toArray=(aq n.toNat its.toArray).foldl (·++·) #[]by rw[aG1];simp]
  exact⟨_,aX _ rfl,rfl,_,rfl⟩
end L2
end
noncomputable section
namespace L2
open PySem PySem.Spec PyProof.Rows
theorem ai2 {A:aN}{k:Nat}(hr:Room k A):A.units+2<cLine:=Nat.lt_of_le_of_lt (Nat.add_le_add_left (by decide:2<=64) _) hr.units
section
variable {κ:Type} [DecidableEq κ]
noncomputable def az8 (kvs:List (κ×V))(k:κ):Option V:=(kvs.find? λ kv=>decide (kv.1=k)).map (·.2)
noncomputable def aA0 (kvs:List (κ×V))(k:κ)(v:V):List (κ×V) :=
 if(kvs.any λ kv=>decide (kv.1=k))=true then kvs.map (λ kv=>if kv.1=k then(kv.1,v)else kv)else kvs++[(k,v)]
theorem ai9 {p:κ×V}{r:List (κ×V)}{k:κ}(e:p.1=k):az8 (p::r) k=some p.2:=by simp[az8,c6,e]
theorem ai6 {p:κ×V}{r:List (κ×V)}{k:κ}(e:¬ p.1=k):az8 (p::r) k=az8 r k:=by simp[az8,c6,e]
theorem ar0 (k:κ):∀ B:List (κ×V),(B.any λ F=>decide (F.1=k))=(az8 B k).isSome
 | []=>rfl
 | p::r=>by
  rw[eU]
  by_cases e:p.1=k
  ·simp only[ai9 e,decide_eq_true e,Bool.true_or,ju]
  ·rw[ai6 e,decide_eq_false e,ji];exact ar0 k r
theorem aj7 (B:List (κ×V))(k:κ)(v:V):(aA0 B k v).length<=B.length+1:=by
 unfold aA0
 split
 ·rw[aw];omega
 ·rw[aE,bf,hW];omega
theorem aO4.isSome_eq {o:Option V}{u:Option Value}(r:aO4 o u):o.isSome=u.isSome:=by
 cases o with
 | none=>cases u with
  | none=>rfl
  | some _=>exact(show False from r).elim
 | some _=>cases u with
  | none=>exact(show False from r).elim
  | some _=>rfl
theorem aO4.getD {o:Option V}{u:Option Value}{d:V}{d':Value}(r:aO4 o u)(B:RelV d d'):RelV (o.getD d) (u.getD d'):=by
 cases o with
 | none=>cases u with
  | none=>exact B
  | some _=>exact(show False from r).elim
 | some _=>cases u with
  | none=>exact(show False from r).elim
  | some _=>exact r
theorem KV.val {B:List (κ×V)}{vs:List (κ×Value)}(r:KV B vs)(k:κ):aO4 (az8 B k) (i3 vs k):=by
 unfold KV at r
 induction r with
 | nil=>exact True.intro
 | @cons p q ps qs h t ih =>
  obtain⟨F,G⟩:=h
  by_cases e:p.1=k
  ·have e':q.1=k:=F.symm.trans e
   have b:i3 (q::qs) k=some q.2:=by simp[i3,c6,e']
   rw[ai9 e,b];exact G
  ·have e':¬ q.1=k:=λ z=>e (F.trans z)
   have b:i3 (q::qs) k=i3 qs k:=by simp[i3,c6,e']
   rw[ai6 e,b];exact ih
theorem KV.any {B:List (κ×V)}{vs:List (κ×Value)}(r:KV B vs)(k:κ):(B.any λ F=>decide (F.1=k))=vs.any λ F=>decide (F.1=k):=by
 unfold KV at r
 induction r with
 | nil=>rfl
 | cons h t ih=>rw[eU,eU,ih,h.1]
theorem KV.repl {F:List (κ×V)}{vs:List (κ×Value)}(r:KV F vs)(k:κ){y:V}{u:Value}(Y:RelV y u) :
  KV (F.map λ B=>if B.1=k then(B.1,y)else B) (vs.map λ B=>if B.1=k then(B.1,u)else B):=by
 unfold KV at r ⊢
 induction r with
 | nil=>exact .nil
 | @cons p q ps qs h t ih =>
  rw[aS,aS]
  refine .cons ?_ ih
  obtain⟨G,J⟩:=h
  by_cases e:p.1=k
  ·rw[if_pos e,if_pos (G.symm.trans e)];exact⟨G,Y⟩
  ·rw[if_neg e,if_neg (λ z=>e (G.trans z))];exact⟨G,J⟩
theorem KV.put {B:List (κ×V)}{vs:List (κ×Value)}(r:KV B vs)(k:κ){y:V}{u:Value}(F:RelV y u):KV (aA0 B k y) (stored vs k u):=by
 unfold aA0 stored
 rw[r.any k]
 by_cases e:(vs.any λ G=>decide (G.1=k))=true
 ·rw[if_pos e,if_pos e];exact r.repl k F
 ·rw[if_neg e,if_neg e];exact lj r ⟨rfl,F⟩
theorem KV.length {B:List (κ×V)}{vs:List (κ×Value)}(r:KV B vs):B.length=vs.length:=eR r
end
theorem aU1 {P:az}{w:World}{k:Key}{u:Value}(r:RelV (kV k) u):(zT P w).is k u=true:=by
 cases k with
 | inl i=>obtain⟨t,e⟩:=(show ∃ t,u=Value.int i t from r);subst e;exact aC2 P w i t
 | inr x=>obtain⟨t,e⟩:=(show ∃ t,u=Value.str x t from r);subst e;exact aC8 P w x t
theorem bC6 {P:az}{w:World}{f:FK}{u:Value}(h:RelV (fV f) u):fIs f u=true:=by
 cases f with
 | none=>cases(show u=Value.none from h);rfl
 | some k=>exact aU1 (P:=P) (w:=w) h
theorem aw2 {P:az}{w:World}:∀ {ks:List FK} {us:List Value},Vals (ks.map fV) us->ItemsAre (qF P w) ks us
 | [],_,r=>by rw[gS]at r;cases r;exact .nil
 | k::ks,_,r=>by
  rw[aS]at r
  cases r with
  | cons h t=>exact .cons (bC6 (P:=P) (w:=w) h) (aw2 t)
theorem bH9 {P:az}{w:World}{H:Hp}{h:Heap}(ok:HOk P w H h):∀ {ks:List NI} {F:List V} {us:List Value},cN (NAt H) ks F->Vals F us->cN (NIs P w h) ks us
 | _,_,_,.nil,r=>by cases r;exact .nil
 | _,_,_,.cons (a:=k) q t,r=>by
  cases r with
  | cons B t1 =>
   refine .cons ?_ (bH9 ok t t1)
   cases k with
   | inl f=>cases q;exact bC6 (P:=P) (w:=w) B
   | inr l =>
    obtain⟨c,rfl,e⟩:=q
    cases B
    obtain⟨_,its,r,o,B,G,n,h3⟩:=(show ac4 P w H h c (.tup (l.map fV))from ok c _ e)
    exact⟨c,rfl,o,its.toArray,n,B,G,h3,by simpa using aw2 r⟩
abbrev KT (H:Hp):List (List NI×V)->List (List NI×Addr×Value)->Prop:=cN λ p q=>p.1=q.1/\NK H p.1 q.2.1/\RelV p.2 q.2.2
theorem KT.val {H:Hp}{B:List (List NI×V)}{G:List (List NI×Addr×Value)}(r:KT H B G)(k:List NI):aO4 (az8 B k) ((atKey G k).map (·.2)):=by
 induction r with
 | nil=>exact True.intro
 | @cons p q ps qs h t ih =>
  obtain⟨F,_,J⟩:=h
  by_cases e:p.1=k
  ·have e':q.1=k:=F.symm.trans e
   have b:atKey (q::qs) k=some q.2:=by simp[atKey,c6,e']
   rw[ai9 e,b];exact J
  ·have e':¬ q.1=k:=λ z=>e (F.trans z)
   have b:atKey (q::qs) k=atKey qs k:=by simp[atKey,c6,e']
   rw[ai6 e,b];exact ih
theorem KT.repl {H:Hp}{B:List (List NI×V)}{Y:List (List NI×Addr×Value)}(r:KT H B Y)(k:List NI){y:V}{u:Value}(Z:RelV y u) :
  KT H (B.map λ G=>if G.1=k then(G.1,y)else G) (Y.map (putAt k u)):=by
 induction r with
 | nil=>exact .nil
 | @cons p q ps qs h t ih =>
  rw[aS,aS]
  refine .cons ?_ ih
  obtain⟨F,J,h3⟩:=h
  unfold putAt
  by_cases e:p.1=k
  ·rw[if_pos e,if_pos (F.symm.trans e)];exact⟨F,J,Z⟩
  ·rw[if_neg e,if_neg (λ z=>e (F.trans z))];exact⟨F,J,h3⟩
theorem KT.put {H:Hp}{B:List (List NI×V)}{F:List (List NI×Addr×Value)}(r:KT H B F)(k:List NI){b:Addr}{y:V}{u:Value}(hb:NK H k b)(G:RelV y u) :
  KT H (aA0 B k y) (storedH F k b u):=by
 have e:(B.any λ J=>decide (J.1=k))=(atKey F k).isSome:=by
  rw[ar0,(r.val k).isSome_eq,fY]
 unfold aA0 storedH
 rw[e]
 by_cases q:(atKey F k).isSome=true
 ·rw[if_pos q,if_pos q];exact r.repl k G
 ·rw[if_neg q,if_neg q];exact lj r ⟨rfl,hb,G⟩
theorem KT.keeps {H H':Hp}{B:List (List NI×V)}{F:List (List NI×Addr×Value)}(r:KT H B F)(G:∀ b ys,H b=some (.tup ys)->H' b=some (.tup ys)):KT H' B F :=
 cN.mapP r λ _ _ z=>⟨z.1,z.2.1.mono G,z.2.2⟩
section
variable {P:az} {w:World} {H:Hp} {h:Heap} {a:Addr}
theorem bE9 {u:HO}(ok:HOk P w H h)(e:Rd H a u):ac4 P w H h a u:=e.ok ok
theorem aS3 {B:List (Key×V)}(ok:HOk P w H h)(e:Rd H a (.dK B)):B.length<=aJ/\(a==dq)=false/\∃ vs,KV B vs/\h.DictOf (zT P w) a vs :=
 show ac4 P w H h a (.dK B)from bE9 ok e
theorem bT4 {B:List (Key×V)}(ok:HOk P w H h)(e:H a=some (.dK B)):B.length<=aJ/\(a==dq)=false/\∃ vs,KV B vs/\h.DictOf (zT P w) a vs:=aS3 ok (.inl e)
theorem ao8 {ks:List NI}(ok:HOk P w H h)(e:NK H ks a):(ao0 P w).is h ks a:=by
 obtain⟨G,e,p⟩:=e
 obtain⟨_,its,r,o,F,B,n,h3⟩:=(show ac4 P w H h a (.tup G)from ok a _ e)
 exact⟨o,its.toArray,n,F,B,h3,by simpa using bH9 ok p r⟩
theorem aV4 {B:List (List NI×V)}(ok:HOk P w H h)(e:Rd H a (.dT B)):B.length<=aJ/\(a==dq)=false /\
  ∃ F,KT H B F/\h.DictOfH (ao0 P w) a F:=by
 obtain⟨z,y,F,r,o,es,ep,Y,J,h3,Z,G⟩:=(show ac4 P w H h a (.dT B)from bE9 ok e)
 refine⟨z,y,F,r,o,es,ep,Y,J,h3,Z,λ x hx=>?_,G⟩
 have all:∀ {l:List (List NI×V)} {m:List (List NI×Addr×Value)},KT H l m->∀ x∈m,(ao0 P w).is h x.1 x.2.1:=by
  intro l m q
  induction q with
  | nil=>intro x hx;exact nomatch hx
  | @cons p q ps qs hq t ih =>
   intro x hx
   rcases aA.mp hx with e|hx
   ·subst e
    exact ao8 ok (by rw[<-hq.1];exact hq.2.1)
   ·exact ih x hx
 exact all r x hx
theorem bR3 {B:List (List NI×V)}(ok:HOk P w H h)(e:H a=some (.dT B)):B.length<=aJ/\(a==dq)=false /\
  ∃ F,KT H B F/\h.DictOfH (ao0 P w) a F:=aV4 ok (.inl e)
end
def aA1 (H:Hp)(a:Addr)(y:V)(r:Option V):Prop :=
 (∃ kvs k,Rd H a (.dK kvs)/\y=kV k/\r=az8 kvs k)\/∃ kvs k b,Rd H a (.dT kvs)/\y=.ref b/\NK H k b/\r=az8 kvs k
def bA7 (H:Hp)(a:Addr)(y v:V)(H':Hp):Prop :=
 (∃ kvs k,H a=some (.dK kvs)/\y=kV k/\kvs.length<aJ/\H'=upd H a (.dK (aA0 kvs k v))) \/
 ∃ kvs k b,H a=some (.dT kvs)/\y=.ref b/\NK H k b/\kvs.length<aJ/\H'=upd H a (.dT (aA0 kvs k v))
theorem aA1.k {H:Hp}{a:Addr}{B:List (Key×V)}{k:Key}(e:H a=some (.dK B)):aA1 H a (kV k) (az8 B k):=.inl ⟨B,k,.inl e,rfl,rfl⟩
theorem aA1.t {H:Hp}{a b:Addr}{B:List (List NI×V)}{k:List NI}(e:H a=some (.dT B))(eb:NK H k b):aA1 H a (.ref b) (az8 B k):=.inr ⟨B,k,b,.inl e,rfl,eb,rfl⟩
theorem bA7.k {H:Hp}{a:Addr}{B:List (Key×V)}{k:Key}{v:V}(e:H a=some (.dK B))(hl:B.length<aJ):bA7 H a (kV k) v (upd H a (.dK (aA0 B k v))):=.inl ⟨B,k,e,rfl,hl,rfl⟩
theorem bA7.t {H:Hp}{a b:Addr}{B:List (List NI×V)}{k:List NI}{v:V}(e:H a=some (.dT B))(eb:NK H k b)(hl:B.length<aJ) :
  bA7 H a (.ref b) v (upd H a (.dT (aA0 B k v))):=.inr ⟨B,k,b,e,rfl,eb,hl,rfl⟩
section
variable {X:Cx} {pins:List (Addr×Obj)} {σ:St} {H:Hp} {s:af} {a:Addr} {y v:V} {u r:Value} {o:Option V} {A:aN} {E:Value->af->Prop}
theorem Inv.big (I:Inv X pins σ H s):dq<s.heap.objs.size:=by
 have h:be<s.heap.objs.size:=(I.mod.glob.keeps I.bk).lt
 exact gW (by decide) h
theorem aw0 {Q:Value->af->Prop}(hu:A.units+2<cLine)(I:Inv X pins σ H s)(g:aA1 H a y (some v))(ry:RelV y u)(h:∀ G s',Inv X pins σ H s'->RelV v G->Q G s') :
  wpAny (model X.prog X.w) A (gM (.ref a) u) Q E s:=by
 rcases g with⟨J,k,e,Z,l⟩|⟨J,k,b,e,Z,eb,l⟩
 ·subst Z
  obtain⟨z,hd,vs,B,dd⟩:=aS3 I.hok e
  obtain⟨G,hw,F⟩:=aO4.some_of (v:=v) (o:=i3 vs k) (by rw[l];exact B.val k)
  exact wpAny_getItem_of (aU1 ry) dd.mapOf hw (h G _ (I.tok _) F)
 ·subst Z
  cases(show u=Value.ref b from ry)
  obtain⟨z,hd,xs,B,dd⟩:=aV4 I.hok e
  obtain⟨G,hw,F⟩:=aO4.some_of (v:=v) (o:=(atKey xs k).map (·.2)) (by rw[l];exact B.val k)
  obtain⟨p,hp,Y⟩:=bq.mp hw
  refine wpAny_getItem_heap (show _<_ from hu) (ao8 I.hok eb) dd hp ?_
  rw[Y]
  exact h G _ (I.tok _) F
theorem ce7 {Q:Value->af->Prop}(hu:A.units+2<cLine)(I:Inv X pins σ H s)(g:aA1 H a y o)(J:RelV y u)(h:∀ s',Inv X pins σ H s'->Q (.bool o.isSome) s') :
  wpAny (model X.prog X.w) A (dA .In u (.ref a)) Q E s:=by
 rcases g with⟨F,k,e,G,l⟩|⟨F,k,b,e,G,eb,l⟩
 ·subst G
  obtain⟨z,hd,vs,B,dd⟩:=aS3 I.hok e
  refine wpAny_in_of (aU1 J) hd dd.mapOf ?_
  rw[<-(B.val k).isSome_eq,<-l]
  exact h _ (I.tok _)
 ·subst G
  cases(show u=Value.ref b from J)
  obtain⟨z,hd,Y,B,dd⟩:=aV4 I.hok e
  refine wpAny_in_heap (show _<_ from hu) (ao8 I.hok eb) hd dd ?_
  have q:=(B.val k).isSome_eq
  rw[fY]at q
  rw[<-q,<-l]
  exact h _ (I.tok _)
theorem aO7 {Q:Value->af->Prop}(hu:A.units+2<cLine)(I:Inv X pins σ H s)(g:aA1 H a y o)(J:RelV y u)(h:∀ s',Inv X pins σ H s'->Q (.bool (!o.isSome)) s') :
  wpAny (model X.prog X.w) A (dA .NotIn u (.ref a)) Q E s:=by
 rcases g with⟨F,k,e,G,l⟩|⟨F,k,b,e,G,eb,l⟩
 ·subst G
  obtain⟨z,hd,vs,B,dd⟩:=aS3 I.hok e
  refine wpAny_notIn_of (aU1 J) hd dd.mapOf ?_
  rw[<-(B.val k).isSome_eq,<-l]
  exact h _ (I.tok _)
 ·subst G
  cases(show u=Value.ref b from J)
  obtain⟨z,hd,Y,B,dd⟩:=aV4 I.hok e
  refine wpAny_notIn_heap (show _<_ from hu) (ao8 I.hok eb) hd dd ?_
  have q:=(B.val k).isSome_eq
  rw[fY]at q
  rw[<-q,<-l]
  exact h _ (I.tok _)
theorem aE5 {h':Heap}{t':Nat}{ob:HO}(I:Inv X pins σ H s)(mu:Mut (H a))(hs:d6 a s.heap h')(he:∃ q,h'.get? a=some q)(new:ac4 X.prog X.w (upd H a ob) h' a ob) :
  Inv X pins σ (upd H a ob) { s with heap:=h',toks:=t' } :=
 I.write (x:=a) (e:=a) mu (.inl rfl) (λ b q hb z=>(hs.2 b hb).trans z) he new
theorem bJ8 {P:az}{w:World}{H':Hp}{h':Heap}{B:List (Key×V)}{vs:List (Key×Value)}(z:B.length<=aJ)(hd:(a==dq)=false)(F:KV B vs)(dd:h'.DictOf (zT P w) a vs) :
  ac4 P w H' h' a (.dK B):=⟨z,hd,vs,F,dd⟩
theorem ax8 {H':Hp}{Q:Unit->af->Prop}(hu:A.units+2<cLine)(I:Inv X pins σ H s)(g:bA7 H a y v H')(ry:RelV y u)(rv:RelV v r)(h:∀ s',Inv X pins σ H' s'->Q () s') :
  wpAny (model X.prog X.w) A (setItem (.ref a) u r) Q E s:=by
 rcases g with⟨B,k,e,Z,l,Y⟩|⟨B,k,b,e,Z,eb,l,Y⟩
 ·subst Z Y
  obtain⟨z,hd,vs,F,dd⟩:=bT4 I.hok e
  have hz:vs.length<=aJ:=by rw[<-F.length];exact z
  have hl:(aA0 B k v).length<=aJ:=by have:=aj7 B k v;omega
  refine wpAny_setItem_pairs (hsz:=hz) (aU1 ry) dd λ h' G hs=>h _ ?_
  have he:∃ q,h'.get? a=some q:=let⟨q,_,_,J,_⟩:=G;⟨q,J⟩
  exact aE5 I (by rw[e];exact True.intro) hs he (bJ8 hl hd (F.put k rv) G)
 ·subst Z Y
  cases(show u=Value.ref b from ry)
  obtain⟨z,hd,xs,F,dd⟩:=bR3 I.hok e
  have hz:xs.length<=aJ:=by rw[<-eR F];exact z
  have hl:(aA0 B k v).length<=aJ:=by have:=aj7 B k v;omega
  refine wpAny_setItem_heap (hsz:=hz) (show _<_ from hu) (ao8 I.hok eb) dd λ h' G hs=>h _ ?_
  obtain⟨q,es,ep,J,h2,h3,h4,_,h5⟩:=G
  refine aE5 I (by rw[e];exact True.intro) hs ⟨q,J⟩ ⟨hl,hd,_,(F.put k eb rv).keeps λ c ys ec=>?_,q,es,ep,J,h2,h3,h4,h5⟩
  rw[zn (bE6 ec e (λ z=>nomatch z))]
  exact ec
end
section
variable {X:Cx} {pins:List (Addr×Obj)} {σ:St} {H:Hp} {s:af} {a:Addr} {kvs:List (Key×V)} {k:Key} {u:Value} {A:aN} {E:Value->af->Prop}
end
theorem al8 {X:Cx}{B:List (Addr×Obj)}{σ:St}{H:Hp}{s:af}{a:Addr}{y:V}{o:Option V}(I:Inv X B σ H s)(g:aA1 H a y o):s.TypeIs (.ref a) "dict":=by
 rcases g with⟨F,k,e,_,_⟩|⟨F,k,b,e,_,_,_⟩
 ·obtain⟨_,_,vs,_,dd⟩:=aS3 I.hok e
  exact dd.typeIs
 ·obtain⟨_,_,G,_,dd⟩:=aV4 I.hok e
  exact dd.typeIs
section
variable {X:Cx} {o i e value:Expr} {pos pos' tpos:Pos} {td ty tv:TE}
end
theorem bc3 {P:az}{w:World}{H:Hp}(h:Heap)(hb:dq<h.objs.size):ac4 P w H (h.push { cls:=.type "dict",data:=.dict #[] }) h.objs.size (.dT []) :=
 ⟨cS _,beq_eq_false_iff_ne.mpr (cw (aC hb)),[],.nil,_,#[],0,aX _ rfl,⟨rfl,rfl,rfl⟩,rfl,rfl,List.nodup_nil⟩
section
variable {X:Cx} {pos:Pos}
end
noncomputable def bl6:List (TE×TE)->St->Hp->(List (V×V)->Hp->Prop)->Prop
 | [],_,H,Q=>Q [] H
 | (tk,tv)::r,σ,H,Q=>tk σ H λ x H1=>tv σ H1 λ y H2=>bl6 r σ H2 λ ps H3=>Q ((x,y)::ps) H3
abbrev VV:List (V×V)->List (Value×Value)->Prop:=cN λ p q=>RelV p.1 q.1/\RelV p.2 q.2
def PPs (X:Cx)(pos:Pos)(keys:List (Option Expr))(values:List Expr)(trs:List (TE×TE)):Prop :=
 ∀(pins:List (Addr×Obj)) (s:af) (σ:St) (H:Hp) (Q:List (V×V)->Hp->Prop),Inv X pins σ H s->bl6 trs σ H Q ->
  wpAny (model X.prog X.w) X.A (evalPairs (pairTrees keys values X.env pos)) (λ vs s'=>∃ ps H',Inv X pins σ H' s'/\VV ps vs/\Q ps H') X.xe s
theorem bo0 {X:Cx}{pos:Pos}:PPs X pos [] [] []:=λ B s σ H Q I h=>pairTrees_nil_walk ⟨[],H,I,.nil,h⟩
theorem bf3 {X:Cx}{pos:Pos}{k v:Expr}{ks:List (Option Expr)}{vs:List Expr}{tk J:TE}{F:List (TE×TE)}(hk:PE X k tk)(hv:PE X v J)(hr:PPs X pos ks vs F) :
  PPs X pos (some k::ks) (v::vs) ((tk,J)::F):=λ B s σ H Q I h =>
 pairTrees_cons_walk (thn (hk B s σ H _ I h) λ u s1 ⟨x,H1,I1,Y,Z⟩=>thn (hv B s1 σ H1 _ I1 Z) λ w2 s2 ⟨y,H2,I2,ry,q2⟩ =>
  thn (hr B s2 σ H2 _ I2 q2) λ ws s3 ⟨ps,H3,I3,G,q3⟩=>⟨(x,y)::ps,H3,I3,.cons ⟨Y,ry⟩ G,q3⟩)
structure M2 (X:Cx)(o:Expr)(m:Str)(apos:Pos)(e f:Expr)(cpos:Pos):Prop where
 base:eS o m X.env (eval o X.env)=eval o X.env
 few:((d7 cpos (br [e,f] X.env)).all (λ x=>!x.1)&&(backToKw cpos (j6 [] X.env)).all (λ x=>x.1.isSome)
  && decide (([e,f]:List Expr).length+([]:List iX).length+(if([]:List iX).isEmpty then 0 else 1)<30))=true
 line:(apos.endLine==cpos.line)=true
 trees:d7 cpos (br [e,f] X.env)=[(false,eval e X.env),(false,eval f X.env)]
section
variable {X:Cx} {pins:List (Addr×Obj)} {σ:St} {H:Hp} {s:af} {a:Addr} {y d:V} {u r:Value} {o:Option V} {A:aN} {E:Value->af->Prop}
end
section
variable {X:Cx} {o e f:Expr} {apos cpos:Pos} {td ty tx:TE}
end
section
variable {P:az} {w:World} {A:aN} {E:Value->af->Prop} {s:af}
end
section
variable {X:Cx} {pins:List (Addr×Obj)} {σ:St} {H:Hp} {s:af}
end
section
variable {prog:az} {w:World} {A:aN} {R:jT->af->Prop} {I:Addr} {fp wr:List Addr} {n:Nat} {P:Nat->Value->Prop} {St:Nat->Heap->Prop} {kw:List (Str×Value)}
end
theorem aL5 {prog : az} {w : World} {A : aN} {s : af} {K : ac} {x C : Addr}
  {R : jT -> af -> Prop} {tp : Value} (X : K.In s.heap) (L0 : dM (model prog w) s.heap (jr (Value.ref x)) (Value.ref C))
  (hm : PySem.W.mroIn K C (Value.type "object") = some true) (h : R (Except.ok (Flow.ret (Value.ref C))) s) :
          fy (model prog w) A
            (Code.call (Value.builtin "getset_descriptor.__get__")
              { pos := [Value.builtin "object.__class__", Value.ref x, tp] }) R s := by
  obtain⟨hh, g, dr, t, os⟩ := s
  have L1 := PySem.W.looks_mroIn (M := model prog w) X hm
  refine iO jw.plain PySem.W.KF.entry_gs (jw.check (model prog w) A.in1 _ _ _ _ _ _ PySem.W.KF.type_class (PySem.W.KF.args_gs _ _ _) ?_)
  show wpAny (model prog w) A.in1 (do
                          let __x <- iP { pos := [Value.builtin "object.__class__", Value.ref x, tp] }
                          match __x with
                            | (d, obj, snd) => dD d obj) _ _ _
  rw[PySem.W.dga_obj]
  refine ae (ao ?_)
  simp only[]
  unfold dD
  show wpAny (model prog w) A.in1 (do
      cQ (Value.builtin "object.__class__") (Value.ref x)
      again (Code.builtin "object.__class__" { pos := [Value.ref x] })) _ _ _
  refine ae ?_
  unfold cQ
  have e1 : gG (Value.builtin "object.__class__") = pure (aV "__class__", Value.type "object") := by
    show pure (aV (cR "object.__class__").2, Value.type (cR "object.__class__").1) = _
    rw[PySem.W.KF.owner_class]
  rw[e1]
  refine ae (ao ?_)
  refine ae (ae (PySem.W.Looks.at L0 (PySem.W.Looks.at L1 (ao ?_))))
  refine ao ⟨Code.quiet_builtin _ (by decide +kernel), fg PySem.W.KF.entry_class ?_⟩
  refine ae ?_
  unfold shownTypeOf
  exact ae (PySem.W.Looks.at L0 (ao (ao h)))
theorem ca0 {M:Model}{h:Heap}{K:ac}{x D:Addr}{name:Str}{g a:Value}(X:K.In h)
 (F:bQ K (Value.ref D) name=some (some a)) (B:fZ K a (aV "__get__")=some (some g)) (h3:hZ K a=some true) :
 dM M h (d3 (Value.ref x) (Value.ref D) name) (Builtin.ObjectAttr.Found.bind g a):=by
 have L1:=eZ (M:=M) X F
 have L2:=PySem.W.looks_specialIn (M:=M) X B
 have L3:=PySem.W.looks_takesIn (M:=M) X h3
 unfold d3
 refine cF L1 (cF (a:=some g) L2 ?_)
 refine cF (a:=some (g,a)) (cF L3 f6) (lu f6)
def XAt (h:Heap)(x C:Addr):Prop:=∃ ox,h.get? x=some ox/\ox.cls=Value.ref C
theorem XAt.type {M:Model}{h:Heap}{x C:Addr}(I:XAt h x C):dM M h (jr (Value.ref x)) (Value.ref C):=by
 obtain⟨G,F,B⟩:=I
 exact B▸cF (j1 F) f6
theorem bO3 {prog : az} {w : World} {A : aN} {E : Value -> af -> Prop} {s : af} {K : ac}
  {x D : Addr} {name : Str} {Q : Option Value -> af -> Prop} {g a : Value}
  (X : K.In s.heap) (L0 : dM (model prog w) s.heap (jr (Value.ref x)) (Value.ref D))
  (L1 : dM (model prog w) s.heap (d3 (Value.ref x) (Value.ref D) name) (Builtin.ObjectAttr.Found.bind g a))
  (hga : bQ K (Value.ref D) (aV "__getattribute__") = some (some (Value.builtin "BaseException.__getattribute__")))
  (hk : bQ K (Value.ref D) (aV "__getattr__") = some none)
  {nm q : Str} {N : Addr} {bs bm : List Value} {hdct : Bool} {sn : List Str} {sub : List Value} {ab : Bool} {col : Option Bool} {dd : Option Addr} {k0 k1 k2 k3 k5 : Option Value} {newId : String} {o : Obj}
  (hC : s.heap.get? D = some (excClassObj nm q D N bs bm hdct sn sub ab col dd k0 k1 k2 k3 k5 newId)) (T : OwnTailQ s.heap [.type "ValueError", .type "Exception", .type "BaseException", .type "object"] bm) (hx : s.heap.get? x = some o) (hc : o.cls = .ref D)
  (h : wpAny (model prog w) A.in1 (call g [a, Value.ref x, Value.ref D]) (λ v s' => wpAny (model prog w) A (handedOut v) (λ v s'' => Q (some v) s'') (λ _ _ => False) s') (λ _ _ => False) { heap := s.heap, gens := s.gens, drawn := s.drawn, toks := s.toks + 1, os := s.os }) :
          wpAny (model prog w) A (getAttr? (Value.ref x) name) Q E s := by
  obtain⟨hh, gg, d, t, os⟩ := s
  have Lg := eZ (M := model prog w) X hga
  have L2 := eZ (M := model prog w) X hk
  have f3 := eJ.ga.bind (Value.ref x)
  unfold getAttr?
  refine ae (wpAny_mkText ?_)
  unfold getAttrBy?
  refine ae (wpAny_attempt (b8 (ae (PySem.W.Looks.at L0 (ae (PySem.W.Looks.at Lg ?_))))))
  refine wpAny_ite_false rfl ?_
  refine ae (wpAny_ite_true rfl (PySem.W.Looks.at L2 ?_))
  refine ae (wpAny_attempt (b8 ?_))
  refine wpAny_ite_false rfl ?_
  refine ae (j7 f3 (kA ?_))
  refine iO eJ.ga.plain F.entry_bexc_ga ?_
  refine wpAny_check_ga_own eJ hC T hx hc ?_
  refine ae (ao ?_)
  refine ae (ao (ae (PySem.W.Looks.at L0 (ae (PySem.W.Looks.at L1 ?_)))))
  refine ae (b8 (a8 h (λ v s' z => ao ?_) λ _ _ z => z.elim))
  exact a8 z (λ v s'' hv => ao hv) λ _ _ z => z.elim
noncomputable def zz (h:Heap)(l:List Addr):Heap:={ h with objs:=h.objs.mapIdx λ i o=>if i∈l then { o with data:=.freed } else o }
theorem zp {h:Heap}{l:List Addr}{b:Addr}(hb:b∈l):(zz h l).get? b=none:=by
 unfold Heap.get? zz
 simp only[iq]
 cases e:h.objs[b]? with
 | none=>rfl
 | some o=>simp only[dR,if_pos hb]
theorem qt {h:Heap}{l:List Addr}{b:Addr}(hb:b ∉ l):(zz h l).get? b=h.get? b:=by
 unfold Heap.get? zz
 simp only[iq]
 cases e:h.objs[b]? with
 | none=>rfl
 | some o=>simp only[dR,if_neg hb]
theorem zU {h:Heap}{l:List Addr}:(zz h l).StaysIn h:=λ b o e=>by
 by_cases hb:b∈l
 ·rw[zp hb]at e;cases e
 ·rwa [qt hb]at e
theorem without_none {h:Heap}{l:List Addr}{b:Addr}(e:(zz h l).get? b=none):b∈l\/h.get? b=none:=by
 by_cases hb:b∈l
 ·exact .inl hb
 ·rw[qt hb]at e;exact .inr e
theorem ak6 {h base B:Heap}:∀ {l:List Env},h.FunFrames base l->(∀ b∈frs l,B.get? b=none)->h.FunFrames B l
 | [],_,_=>True.intro
 | env::l,⟨k,⟨L,o,hf,_,ho,hd⟩,r⟩,hb=>by
  have F:frs (env::l)=L::frs l:=by unfold frs;rw[aQ,hf]
  rw[F]at hb
  exact⟨k,⟨L,o,hf,hb L (av ..),ho,hd⟩,ak6 r λ b z=>hb b (ai _ z)⟩
theorem HOk.part {P:az}{w:World}{H:Hp}{h h':Heap}(x:HOk P w H h)(k:∀ b u o,H b=some u->h.get? b=some o->h'.get? b=some o):HOk P w H h':=λ a o e =>
 (x a o e).stay (λ b u hb q=>by
  rcases hb with rfl|hb
  ·exact k _ _ _ e q
  ·exact k _ _ _ hb q) (λ _ q=>q) λ _ _ q=>q
theorem ac4.at_ {P:az}{w:World}{H:Hp}{h:Heap}{a:Addr}{o:HO}(x:ac4 P w H h a o):∃ u,h.get? a=some u:=by
 cases o with
 | lst xs=>obtain⟨_,_,_,_,e⟩:=x;exact⟨_,e⟩
 | tup xs=>obtain⟨_,_,_,ob,e,_⟩:=x;exact⟨_,e⟩
 | dK kvs=>obtain⟨_,_,_,_,o,_,_,e,_⟩:=x;exact⟨_,e⟩
 | dT kvs=>obtain⟨_,_,_,_,o,_,_,e,_⟩:=x;exact⟨_,e⟩
 | set S n=>obtain⟨o,_,_,_,e,_⟩:=x;exact⟨_,e⟩
 | ins C dx fs=>obtain⟨_,_,_,e,_⟩:=x;exact⟨_,e⟩
 | own y=>exact x
 | xd fs=>obtain⟨_,⟨_,_,_,e,_⟩,_⟩:=x;exact⟨_,e⟩
 | rng lo hi=>obtain⟨_,_,_,e⟩:=x;exact⟨_,e⟩
 | frz ob u=>obtain⟨e,_⟩:=x;exact⟨_,e⟩
 | tbl ps=>exact⟨_,(show h.get? a=some _ from x)⟩
 | met f y=>exact⟨_,(show h.get? a=some _ from x)⟩
 | ext φ=>obtain⟨_,e,_⟩:=x;exact e
structure Fly (h0:Heap)(H:Hp)(h:Heap)(a C:Addr):Prop where
 new:h0.get? a=none
 free:H a=none
 at_:∃ a0 oe vs T oT ts,h.get? a=some oe/\(oe.cls=.ref C/\vs[0]?=some a0)/\oe.data=.fields vs/\vs[1]?=some (.ref T)/\h0.get? T=none/\H T=none/\T≠a/\h.get? T=some oT/\oT.data=.fields ts/\ts[3]?=some .none
section
variable {X:Cx} {pins:List (Addr×Obj)} {σ:St} {H:Hp} {s:af} {a C:Addr} {a0:Value}
theorem aP0 (I:Inv X pins σ H s)(G:X.ex=[]){bs:List Addr}(a1:∀ b∈frs X.stack,b∈bs)(hb:∀ b∈bs,b∈frs X.stack\/(X.s₀.heap.get? b=none/\H b=none))(n0:X.s₀.heap.get? a=none)(nH:H a=none)(F:∀ b∈X.fs,b∈frs X.stack)
  {h':Heap} (L:Heap.LeftW (zz s.heap bs) X.stack a (.ref C) a0 s.heap h'):Un X.fs [] X.H₀ H X.s₀.heap h'/\HOk X.prog X.w H h'/\Fly X.s₀.heap H h' a C:=by
 obtain⟨st,ff,tr,sl⟩:=L
 have un:=I.base
 rw[G]at un
 have keep:∀ b o,b ∉ bs->s.heap.get? b=some o->h'.get? b=some o:=λ b o n e=>st b o (by rw[qt n];exact e)
 have slot:∀ b o,b∈frs X.stack->s.heap.get? b=some o->∃ sl,h'.get? b=some { o with slots:=sl }:=λ b o n e=>by
  obtain⟨_,Z,e',d⟩:=I.stack.mem n
  rw[e]at e';cases e'
  exact sl b o e d
 have out:∀ b o,X.s₀.heap.get? b=some o->b ∉ frs X.stack->b ∉ bs:=λ b o e n z=>by
  rcases hb b z with q|⟨q,_⟩
  ·exact n q
  ·rw[e]at q;cases q
 have J:∀ b o,X.s₀.heap.get? b=some o->b ∉ X.fs->b ∉ frs X.stack:=λ b o e n z=>by
  rcases aA.mp (I.stkSub b z)with q|q
  ·subst q
   exact absurd (aD e) (kF.mpr I.ok.above)
  ·exact n q
 refine⟨⟨λ b o e n B nx=>?_,λ b o e n B nx=>?_,un.free,λ b o e nx=>?_,un.tups,un.frzs,un.tbls⟩,I.hok.part λ b u o e q=>?_,⟨n0,nH,?_⟩⟩
 ·exact keep b o (out b o e (J b o e B)) (un.keep b o e n B nx)
 ·obtain⟨a2,e1⟩:=un.slot b o e n B nx
  obtain⟨Y,e2⟩:=slot b _ (F b B) e1
  exact⟨Y,e2⟩
 ·obtain⟨o1,e1⟩:=un.there b o e nx
  by_cases z:b∈frs X.stack
  ·obtain⟨_,e2⟩:=slot b _ z e1
   exact⟨_,e2⟩
  ·exact⟨_,keep b o1 (out b o e z) e1⟩
 ·refine keep b o (λ z=>?_) q
  rcases hb b z with y|⟨_,y⟩
  ·rw[I.stkFree b y]at e;cases e
  ·rw[y]at e;cases e
 ·obtain⟨oe,vs,T,oT,ts,h1,h2,h3,h4,h5,h6,h7,h8,h9⟩:=tr
  have key:X.s₀.heap.get? T=none/\H T=none:=by
   rcases without_none h5 with z|z
   ·rcases hb T z with y|y
    ·obtain⟨_,Z,e',d⟩:=ff.mem y
     rw[h7]at e';cases e'
     exact absurd h8 (d _)
    ·exact y
   ·refine⟨?_,?_⟩
    ·cases e:X.s₀.heap.get? T with
     | none=>rfl
     | some o=>obtain⟨Z,e'⟩:=un.there T o e (by simp);rw[z]at e';cases e'
    ·cases e:H T with
     | none=>rfl
     | some o=>obtain⟨u,e'⟩:=(I.hok T o e).at_;rw[z]at e';cases e'
  exact⟨a0,oe,vs,T,oT,ts,h1,h2,h3,h4,key.1,key.2,h6,h7,h8,h9⟩
theorem aW7 {oe:Obj}{vs:Array Value}(I:Inv X pins σ H s)(Y:X.ex=[])(B:X.stack=X.env::X.outer)(F:X.env.frame=some X.env.locals)(n0:X.s₀.heap.get? a=none)(nH:H a=none)
  (h1:s.heap.get? a=some oe) (h2:oe.cls=.ref C) (h3:oe.data=.fields vs) (h4:vs[1]?=some .none) (h5:vs[0]?=some a0) {Q:Unit->af->Prop} {E:Value->af->Prop}
  (k:∀ h',Un X.fs [] X.H₀ H X.s₀.heap h'->HOk X.prog X.w H h'->Fly X.s₀.heap H h' a C->Q () { s with heap:=h' }):wpAny (model X.prog X.w) X.A (leaving X.env (.ref a)) Q E s:=by
 have Z:s.heap.FunFrames (zz s.heap (a::frs X.stack)) X.stack:=ak6 I.stack λ b hb=>zp (ai _ hb)
 have J:∀ b∈X.fs,b∈frs X.stack:=λ b hb=>by rw[B];unfold frs;rw[aQ,F];exact ai _ hb
 have G:=I.ok.frames
 rw[B]at G
 refine wpAny_leaving_firstW (base:=zz s.heap (a::frs X.stack)) G (by rw[<-B];exact Z) F h1 zU (zp (av ..)) h3 h4 h5 λ h' L=>?_
 rw[h2,<-B]at L
 obtain⟨u,o,f⟩:=aP0 I Y (λ b hb=>ai _ hb) (λ b hb=>by
  rcases aA.mp hb with q|q
  ·subst q;exact .inr ⟨n0,nH⟩
  ·exact .inl q) n0 nH J L
 exact k h' u o f
theorem aM9 (I:Inv X pins σ H s)(Z:X.ex=[])(B:X.stack=X.env::X.outer)(G:X.env.frame=some X.env.locals)(F:Fly X.s₀.heap H s.heap a C){Q:Unit->af->Prop}{E:Value->af->Prop}
  (k:∀ h',Un X.fs [] X.H₀ H X.s₀.heap h'->HOk X.prog X.w H h'->Fly X.s₀.heap H h' a C->Q () { s with heap:=h' }):wpAny (model X.prog X.w) X.A (leaving X.env (.ref a)) Q E s:=by
 obtain⟨n0,nH,a0,oe,vs,T,oT,ts,h1,h2,h3,h4,h5,h6,h7,h8,h9,a2⟩:=F
 have a1:s.heap.FunFrames (zz s.heap (a::T::frs X.stack)) X.stack:=ak6 I.stack λ b hb=>zp (ai _ (ai _ hb))
 have Y:∀ b∈X.fs,b∈frs X.stack:=λ b hb=>by rw[B];unfold frs;rw[aQ,G];exact ai _ hb
 have J:=I.ok.frames
 rw[B]at J
 refine wpAny_leaving_nextW (base:=zz s.heap (a::T::frs X.stack)) J (by rw[<-B];exact a1) G ⟨oe,vs,T,oT,ts,h1,h2,h3,h4,zp (by simp),h7,h8,h9,a2⟩ zU (zp (av ..)) λ h' L=>?_
 rw[<-B]at L
 obtain⟨u,o,f⟩:=aP0 I Z (λ b hb=>ai _ (ai _ hb)) (λ b hb=>by
  rcases aA.mp hb with q|q
  ·subst q;exact .inr ⟨n0,nH⟩
  ·rcases aA.mp q with q|q
   ·subst q;exact .inr ⟨h5,h6⟩
   ·exact .inl q) n0 nH Y L
 exact k h' u o f
end
noncomputable def CX1 (P:az)(w:World):CXT:=λ outer H s E e s'=>∃ a C H',e=.ref a/\s'.os=s.os/\fu s'.gens/\Un (frs outer) [] H H' s.heap s'.heap/\HOk P w H' s'.heap/\Fly s.heap H' s'.heap a C/\E e (some C) H'
theorem CX1.inv {X:Cx}{B:List (Addr×Obj)}{σ:St}{H:Hp}{s s':af}{E:XK}{e:Value}(I:Inv X B σ H s)(J:X.ex=[])(h:CX1 X.prog X.w X.stack H s E e s') :
  ∃ a C H',e=.ref a/\Inv X B σ H' s'/\Fly X.s₀.heap H' s'.heap a C/\E e (some C) H':=by
 obtain⟨a,C,H',rfl,os,bare,un,hok,F,q⟩:=h
 have G:∀ b,s.heap.get? b=none->X.s₀.heap.get? b=none:=λ b z=>by
  cases e:X.s₀.heap.get? b with
  | none=>rfl
  | some o=>obtain⟨o',e'⟩:=I.base.there b o e (by rw[J];simp);rw[z]at e';cases e'
 obtain⟨n0,nH,a0,oe,vs,T,oT,ts,Z,h2,h3,Y,h5,h6,h7⟩:=F
 exact⟨a,C,H',rfl,I.call' os un hok bare (ch:=[]) (λ b z=>absurd z (by simp)),⟨G _ n0,nH,a0,oe,vs,T,oT,ts,Z,h2,h3,Y,G _ h5,h6,h7⟩,q⟩
section
variable {P:az} {w:World} {K:ac} {mg:Str->Option Value} {base:Heap} {N:List Str} {qual:Str} {scope:Scope} {f:Addr} {cd:Value} {A:aN} {outer:List Env} {s0:af} {H0:Hp} {E:XK}
theorem bV2:ag3 (CX1 P w) (at4 (CX1 P w) P w K mg base N qual scope f cd A outer s0 H0 E) E:=by
 intro B σ H s e s' I h
 obtain⟨a,C,H',rfl,J,F,q⟩:=CX1.inv I rfl h
 exact aM9 J rfl rfl rfl F λ h' u o G=>⟨a,C,H',rfl,J.os,J.bare,u,o,G,q⟩
def au8 (X:Cx)(E:XK):Prop:=∀(pins:List (Addr×Obj)) (σ:St) (H:Hp) (s:af) (h':Heap) (a C:Addr) (args:List Value),Inv X pins σ H s->Heap.MadeExcOf s.heap h' a (.ref C) args->E (.ref a) (some C) H->X.xe (.ref a) { s with heap:=h' }
theorem bT9:au8 (at4 (CX1 P w) P w K mg base N qual scope f cd A outer s0 H0 E) E:=by
 intro B σ H s h' a C args I M q
 have J:Inv (at4 (CX1 P w) P w K mg base N qual scope f cd A outer s0 H0 E) B σ H { s with heap:=h' }:=I.kept (t':=s.toks) M.keeps
 obtain⟨t,G,_⟩:=M.there
 refine aW7 (a0:=.ref t) J rfl rfl rfl ?_ ?_ G rfl rfl rfl rfl λ Z u o F=>⟨a,C,H,rfl,J.os,J.bare,u,o,F,q⟩
 ·show s0.heap.get? a=none
  cases e:s0.heap.get? a with
  | none=>rfl
  | some o =>
   obtain⟨Y,e'⟩:=I.base.there a o e (by show a ∉ ([]:List Addr);simp)
   rw[M.new]at e';cases e'
 ·cases e:H a with
  | none=>rfl
  | some o =>
   obtain⟨u,e'⟩:=(I.hok a o e).at_
   rw[M.new]at e';cases e'
end
noncomputable def excTail:List Value:=[.type "ValueError",.type "Exception",.type "BaseException",.type "object"]
noncomputable def nsQ (K:ac)(N:Addr):Bool:=match K.lookup N with
 | some ⟨_,_,.dict es _,_⟩=>(es.all λ e=>match e.key with|.str _ _=>true|_=>false)&&kH.all λ n=>(nsFind es n).isNone
 | _=>false
noncomputable def bb5 (K:ac):List Value->Bool
 | .ref A::tl=>(match K.lookup A with|some ⟨_,_,.cls cd,_⟩=>nsQ K cd.ns|_=>false)&&bb5 K tl
 | l=>l==excTail
noncomputable def bU3 (K:ac)(C:Addr):Bool:=match K.lookup C with
 | some ⟨c,_,.cls cd,⟨[_,_,_,_,k4,_]⟩⟩=>c==.type "type"&&(!cd.hasDel&&(nsQ K cd.ns&&((match cd.mro with|m::tl=>m==.ref C&&bb5 K tl|[]=>false)&&k4==some (.builtin "ValueError.__new__"))))
 | _=>false
theorem bj9 {K:ac}{N:Addr}(h:nsQ K N=true):∃ B:Str->Option Value,(∀ n∈kH,B n=none)/\∀ h:Heap,K.In h->h.Ns N B:=by
 unfold nsQ at h
 split at h
 ·rename_i c d es ep sl e
  rw[ag]at h
  refine⟨nsFind es,λ n hn=>?_,λ hp hK=>⟨_,es,ep,hK _ _ e,rfl,λ x hx=>?_,λ _=>rfl⟩⟩
  ·have:=aM.mp h.2 n hn
   exact Option.isNone_iff_eq_none.mp this
  ·have:=Array.all_eq_true'.mp h.1 x hx
   split at this
   ·rename_i q;exact⟨_,_,q⟩
   ·cases this
 ·cases h
theorem aJ9 {K:ac}:∀ {l:List Value},bb5 K l=true->∀ h:Heap,K.In h->OwnTailQ h excTail l
 | l,h,hp,hK=>by
  unfold bb5 at h
  split at h
  ·rename_i A Y
   rw[ag]at h
   obtain⟨B,F⟩:=h
   split at B
   ·rename_i c d J sl e
    obtain⟨G,q,n⟩:=bj9 B
    exact .own (hK _ _ e) (n hp hK) q (aJ9 F hp hK)
   ·cases B
  ·have:=eq_of_beq h
   subst this
   exact .base
structure ExcCls (K:ac)(C:Addr):Prop where
 obj:∃ bm N nm q bs hdct sn sub ab col dd k0 k1 k2 k3 k5 mN,K.lookup C=some (excClassObj nm q C N bs bm hdct sn sub ab col dd k0 k1 k2 k3 k5 "ValueError.__new__")/\(∀ n∈kH,mN n=none)/\∀ h:Heap,K.In h->h.Ns N mN/\OwnTailQ h excTail bm
theorem bv8 {K:ac}{C:Addr}(h:bU3 K C=true):ExcCls K C:=by
 unfold bU3 at h
 split at h
 ·rename_i c dd cd k0 k1 k2 k3 k4 k5 e
  obtain⟨nm,bs,a0,N,q,hdct,sn,sub,ab,col,G⟩:=cd
  simp only[ag,eB]at h
  obtain⟨J,F,h3,B,h5⟩:=h
  split at B
  ·rename_i m Y
   rw[ag]at B
   have e1:=eq_of_beq J
   have e5:=eq_of_beq h5
   have Z:=eq_of_beq B.1
   subst e1 e5 Z
   have F:G=false:=F
   subst F
   obtain⟨mN,q',n⟩:=bj9 h3
   exact⟨Y,N,nm,q,bs,hdct,sn,sub,ab,col,dd,k0,k1,k2,k3,k5,mN,e,q',λ hp hK=>⟨n hp hK,aJ9 B.2 hp hK⟩⟩
  ·cases B
 ·cases h
theorem bc6 {K:ac}{x D:Addr}(hc:ExcCls K D)(F:bQ K (.ref D) (aV "__getattribute__")=some (some (.builtin "BaseException.__getattribute__")))(hk:bQ K (.ref D) (aV "__getattr__")=some none)
  (G:bQ K (.ref D) (aV "__class__")=some (some (.builtin "object.__class__")))
  (hs:fZ K (.builtin "object.__class__") (aV "__get__")=some (some (.builtin "getset_descriptor.__get__")))
  (J:hZ K (.builtin "object.__class__")=some true) (Z:jj K D (.type "object")=some true) :
  eD K (.ref x) (.ref D) (λ h=>XAt h x D):=by
 obtain⟨bm,N,nm,q,bs,hdct,sn,sub,ab,col,dd,k0,k1,k2,k3,k5,mN,hl,hq,hN⟩:=hc.obj
 refine⟨λ M h _ I=>I.type,λ M h X I=>?_,λ h Y dd its n sl X B=>?_,λ {prog w A E Q s} X I h=>?_⟩
 ·intro A' Q' E' s' k q
  exact ae (wpAny_loadPart (k _ _ (X _ _ hl)) (ao q))
 ·cases e:(Value.ref D==Value.ref Y)with
  | false=>rfl
  | true =>
   have e:=eq_of_beq e
   cases e
   rw[X _ _ hl]at B
   cases congrArg (λ o:Option Obj=>o.map Obj.data) B
 ·obtain⟨o,ho,hcl⟩:=I
  have L:=XAt.type (M:=model prog w) ⟨o,ho,hcl⟩
  exact bO3 X L (ca0 X G hs J) F hk (X _ _ hl) (hN _ X).2 ho hcl (kA (aL5 X L Z (PySem.W.handed_on rfl h)))
noncomputable def excI (K:ac)(C:Addr):Bool:=bQ K (.ref C) (aV "__getattribute__")==some (some (.builtin "BaseException.__getattribute__"))&&(bQ K (.ref C) (aV "__getattr__")==some none&&(bQ K (.ref C) (aV "__class__")==some (some (.builtin "object.__class__"))&&(fZ K (.builtin "object.__class__") (aV "__get__")==some (some (.builtin "getset_descriptor.__get__"))&&(hZ K (.builtin "object.__class__")==some true&&jj K C (.type "object")==some true))))
theorem br0 {K:ac}{x C:Addr}(hc:ExcCls K C)(h:excI K C=true):eD K (.ref x) (.ref C) (λ h=>XAt h x C):=by
 unfold excI at h
 simp only[ag]at h
 obtain⟨h0,J,F,h3,G,B⟩:=h
 exact bc6 hc (eq_of_beq h0) (eq_of_beq J) (eq_of_beq F) (eq_of_beq h3) (eq_of_beq G) (eq_of_beq B)
section
variable {X:Cx} {E:XK} {C:Addr} {x:Str}
theorem bg0 {np F pos p:Pos}{y:Str}{j:Nat}(T:au8 X E)(hc:ExcCls X.K C)(hg:Gl X x)(hm:X.mg x=some (.ref C))(hh:X.A.handled=none)(hd:(x==("__debug__":Str))=false) :
  PS X (.Raise (some (.Call (.Name x np) [.Constant (.str y) j p] [] F)) none pos) (λ D σ H=>∀ a,E (.ref a) (some C) H):=by
 intro B s σ H D I q
 obtain⟨bm,N,nm,q',bs,hdct,sn,sub,ab,col,dd,k0,k1,k2,k3,k5,mN,e,hq,hN⟩:=hc.obj
 have Z:=hN _ I.kIn
 refine wpAny_Raise_call_subT (nm:=nm) (q:=q') (C:=C) (N:=N) (bs:=bs) (hdct:=hdct) (sn:=sn) (sub:=sub) (ab:=ab) (col:=col) (dd:=dd) (k0:=k0) (k1:=k1) (k2:=k2) (k3:=k3) (k5:=k5) iQ (OwnTail.hasType Z.2.tail iQ.hasBase) hh rfl (hq _ (av ..)) ?_
 refine thn (al7 (v:=.ref C) hg hm rfl hd B s σ H (λ v J=>v=.ref C/\J=H) I ⟨rfl,rfl⟩) λ u s1 ⟨v,J,I1,r,e1,e2⟩=>?_
 subst e1 e2
 refine⟨r,iI ?_⟩
 have pa:PA X [.Constant (.str y) j p] (aN3 (tC (.str y)) bl0):=zJ bm0 ad3
 refine thn (pa F B s1 σ J (λ vs Y=>vs.length=1/\Y=J) I1 ⟨rfl,rfl⟩) λ us s2 ⟨vs,Y,G,r2,e3,e4⟩=>?_
 subst e4
 have hl:us.length=1:=by rw[<-r2.length];exact e3
 refine⟨rfl,by show us.length<=_;rw[hl];decide,G.kIn _ _ e,(hN _ G.kIn).1,(hN _ G.kIn).2.tail,λ h' a M=>?_⟩
 exact T B σ Y s2 h' a C us G M (q a)
end
structure Tr (X:Cx)(pins:List (Addr×Obj))(σ:St)(H:Hp)(s:af)(a C:Addr)(fl:Value):Prop where
 inv:Inv X pins σ H s
 n0:X.s₀.heap.get? a=none
 nH:H a=none
 np:∀ p∈X.pn++pins,p.1≠a
 tr:∃ a0 oe vs T oT ts,s.heap.get? a=some oe/\(oe.cls=.ref C/\vs[0]?=some a0)/\oe.data=.fields vs/\vs[1]?=some (.ref T)/\X.s₀.heap.get? T=none/\H T=none/\(∀ p∈X.pn++pins,p.1≠T)/\T≠a/\s.heap.get? T=some oT/\oT.data=.fields ts/\ts[3]?=some fl
section
variable {X:Cx} {pins:List (Addr×Obj)} {σ:St} {H:Hp} {s:af} {a C T:Addr} {fl fl' a0:Value} {h':Heap}
theorem Tr.stk (B:X.stack=X.env::X.outer)(F:X.env.frame=some X.env.locals):∀ b∈X.fs,b∈frs X.stack:=λ b hb=>by rw[B];unfold frs;rw[aQ,F];exact ai _ hb
theorem Tr.moved (t:Tr X pins σ H s a C fl)(J:X.ex=[])(b1:X.stack=X.env::X.outer)(b4:X.env.frame=some X.env.locals){oT:Obj}{ts:Array Value}(a3:X.s₀.heap.get? T=none)(a2:H T=none)(a6:∀ p∈X.pn++pins,p.1≠T)(c0:s.heap.get? T=some oT)(b3:oT.data=.fields ts)
  (st:(zz s.heap (a::T::frs X.stack)).StaysIn h') (ff:h'.FunFrames (zz s.heap (a::T::frs X.stack)) X.stack) (tr:h'.TracedAtW (zz s.heap (a::T::frs X.stack)) a (.ref C) a0 fl')
  (sl:∀ b o,s.heap.get? b=some o->(∀ vs,o.data≠.fields vs)->∃ sl,h'.get? b=some { o with slots:=sl }):Tr X pins σ H { s with heap:=h' } a C fl':=by
 have I:=t.inv
 have un:=I.base
 rw[J]at un
 have a4:=Tr.stk b1 b4
 obtain⟨b0,oe,vs,_,_,_,g1,_,g3,_⟩:=t.tr
 have a1:∀ b,b∈a::T::frs X.stack->b=a\/b=T\/b∈frs X.stack:=λ b hb=>by
  rcases aA.mp hb with q|q
  ·exact .inl q
  ·exact .inr (aA.mp q)
 have keep:∀ b o,b≠a->b≠T->b ∉ frs X.stack->s.heap.get? b=some o->h'.get? b=some o:=λ b o n1 n2 n3 e=>st b o (by
  rw[qt λ z=>(a1 b z).elim n1 λ z=>z.elim n2 n3];exact e)
 have slot:∀ b o,b∈frs X.stack->s.heap.get? b=some o->∃ sl,h'.get? b=some { o with slots:=sl }:=λ b o n e=>by
  obtain⟨_,o',e',d⟩:=I.stack.mem n
  rw[e]at e';cases e'
  exact sl b o e d
 have b6:∀ b o,X.s₀.heap.get? b=some o->b ∉ X.fs->b ∉ frs X.stack:=λ b o e n z=>by
  rcases aA.mp (I.stkSub b z)with q|q
  ·subst q
   exact absurd (aD e) (kF.mpr I.ok.above)
  ·exact n q
 have F:∀ b o,X.s₀.heap.get? b=some o->b≠a/\b≠T:=λ b o e=>⟨λ z=>(by rw[z,t.n0]at e;cases e),λ z=>(by rw[z,a3]at e;cases e)⟩
 have c4:∀ b o,s.heap.get? b=some o->(∀ vs,o.data≠.fields vs)->b≠a/\b≠T:=λ b o e d=>⟨λ z=>(by rw[z,g1]at e;cases e;exact d _ g3),λ z=>(by rw[z,c0]at e;cases e;exact d _ b3)⟩
 have up:∀ b o,s.heap.get? b=some o->(∀ vs,o.data≠.fields vs)->∃ sl,h'.get? b=some { o with slots:=sl }:=sl
 have a5:Inv X pins σ H { s with heap:=h' }:=by
  refine⟨I.ok,I.os,I.bare,?_,?_,λ x c e=>?_,I.free,I.freeC,λ p hp=>?_,I.hok.part λ b u o e q=>?_,I.len⟩
  ·rw[J]
   refine⟨λ b o e n Y nx=>?_,λ b o e n Y nx=>?_,un.free,λ b o e nx=>?_,un.tups,un.frzs,un.tbls⟩
   ·exact keep b o (F b o e).1 (F b o e).2 (b6 b o e Y) (un.keep b o e n Y nx)
   ·obtain⟨c1,e1⟩:=un.slot b o e n Y nx
    obtain⟨G,e2⟩:=slot b _ (a4 b Y) e1
    exact⟨G,e2⟩
   ·obtain⟨o1,e1⟩:=un.there b o e nx
    by_cases z:b∈frs X.stack
    ·obtain⟨_,e2⟩:=slot b _ z e1
     exact⟨_,e2⟩
    ·exact⟨_,keep b o1 (F b o e).1 (F b o e).2 z e1⟩
  ·obtain⟨m,⟨o,es,ep,ho,hd,hr⟩,hl⟩:=I.loc
   obtain⟨c1,e1⟩:=up _ o ho (λ vs z=>by rw[hd]at z;cases z)
   refine⟨m,⟨_,es,ep,e1,hd,hr⟩,λ i x v h1 h2 h3=>?_⟩
   obtain⟨u,r,lk⟩:=hl i x v h1 h2 h3
   refine⟨u,r,?_⟩
   rcases lk with z|⟨z1,c,z2,oc,z3,Z⟩
   ·exact .inl z
   ·obtain⟨G,e2⟩:=up c oc z3 (λ vs z=>by rw[Z]at z;cases z)
    exact .inr ⟨z1,c,z2,_,e2,Z⟩
  ·obtain⟨v,oc,z3,Z⟩:=I.cell x c e
   obtain⟨G,e2⟩:=up c oc z3 (λ vs z=>by rw[Z]at z;cases z)
   exact⟨v,_,e2,Z⟩
  ·obtain⟨q1,q2,q3,q4,q5⟩:=I.pin p hp
   refine⟨keep _ _ (t.np p hp) (a6 p hp) (λ z=>?_) q1,q2,q3,q4,q5⟩
   rcases aA.mp (I.stkSub _ z)with q|q
   ·exact q3 q
   ·exact q4 q
  ·refine keep b o (λ z=>?_) (λ z=>?_) (λ z=>?_) q
   ·rw[z,t.nH]at e;cases e
   ·rw[z,a2]at e;cases e
   ·rw[I.stkFree b z]at e;cases e
 refine⟨a5,t.n0,t.nH,t.np,?_⟩
 obtain⟨c3,b2,B,c2,b5,h1,h2,h3,h4,h5,h6,h7,h8,h9⟩:=tr
 have key:X.s₀.heap.get? B=none/\H B=none/\∀ p∈X.pn++pins,p.1≠B:=by
  rcases without_none h5 with z|z
  ·rcases a1 B z with y|y|y
   ·exact absurd y h6
   ·subst y;exact⟨a3,a2,a6⟩
   ·obtain⟨_,o',e',d⟩:=ff.mem y
    rw[h7]at e';cases e'
    exact absurd h8 (d _)
  ·refine⟨?_,?_,λ p hp y=>?_⟩
   ·cases e:X.s₀.heap.get? B with
    | none=>rfl
    | some o=>obtain⟨o',e'⟩:=un.there B o e (by simp);rw[z]at e';cases e'
   ·cases e:H B with
    | none=>rfl
    | some o=>obtain⟨u,e'⟩:=(I.hok B o e).at_;rw[z]at e';cases e'
   ·have:=(I.pin p hp).1
    rw[y,z]at this;cases this
 exact⟨a0,c3,b2,B,c2,b5,h1,h2,h3,h4,key.1,key.2.1,key.2.2,h6,h7,h8,h9⟩
theorem Tr.noted (t:Tr X pins σ H s a C .none)(J:X.ex=[])(B:X.stack=X.env::X.outer)(F:X.env.frame=some X.env.locals){Q:Unit->af->Prop}{E:Value->af->Prop}
  (k:∀ h' fl,Tr X pins σ H { s with heap:=h' } a C fl->Q () { s with heap:=h' }):wpAny (model X.prog X.w) X.A (jX (.ref a) X.env) Q E s:=by
 have I:=t.inv
 obtain⟨a0,oe,vs,T,oT,ts,h1,h2,h3,h4,h5,h6,a1,h7,h8,h9,Z⟩:=t.tr
 have Y:s.heap.FunFrames (zz s.heap (a::T::frs X.stack)) X.stack:=ak6 I.stack λ b hb=>zp (ai _ (ai _ hb))
 have G:=I.ok.frames
 rw[B]at G
 refine wpAny_noteFrame_onW (base:=zz s.heap (a::T::frs X.stack)) G (by rw[<-B];exact Y) F ⟨oe,vs,T,oT,ts,h1,h2,h3,h4,zp (by simp),h7,h8,h9,Z⟩ zU (zp (av ..)) λ h' L=>?_
 rw[<-B]at L
 obtain⟨st,ff,tr,sl⟩:=L
 exact k h' _ (t.moved J B F h5 h6 a1 h8 h9 st ff tr sl)
theorem Tr.down (t:Tr X pins σ H s a C fl)(F:X.ex=[])(B:X.stack=X.env::X.outer)(Z:X.env.frame=some X.env.locals){A:aN}{Q:Unit->af->Prop}{E:Value->af->Prop}
  (k:∀ h',Tr X pins σ H { s with heap:=h' } a C .none->Q () { s with heap:=h' }):wpAny (model X.prog X.w) A (j2 (.ref a) none) Q E s:=by
 have I:=t.inv
 obtain⟨a0,oe,vs,T,oT,ts,h1,h2,h3,h4,h5,h6,Y,h7,h8,h9,J⟩:=t.tr
 have G:s.heap.FunFrames (zz s.heap (a::T::frs X.stack)) X.stack:=ak6 I.stack λ b hb=>zp (ai _ (ai _ hb))
 refine wpAny_setFlight_noneW (base:=zz s.heap (a::T::frs X.stack)) zU G ⟨oe,vs,T,oT,ts,h1,h2,h3,h4,zp (by simp),h7,h8,h9,J⟩ λ h' st ff tr sl=>?_
 exact k h' (t.moved F B Z h5 h6 Y h8 h9 st ff tr.at λ b o e d=>⟨o.slots,sl b o e d⟩)
theorem CX1.tr {s':af}{E:XK}{e:Value}(I:Inv X pins σ H s)(B:X.ex=[])(h:CX1 X.prog X.w X.stack H s E e s') :
  ∃ a C H',e=.ref a/\Tr X pins σ H' s' a C .none/\E e (some C) H':=by
 have h0:=h
 obtain⟨a,C,H',rfl,os,bare,un,hok,F,q⟩:=h
 obtain⟨a',C',a1,e,J,G,q'⟩:=CX1.inv I B h0
 have Y:∀ b,s.heap.get? b=none->X.s₀.heap.get? b=none:=λ b z=>by
  cases e:X.s₀.heap.get? b with
  | none=>rfl
  | some o=>obtain⟨o',e'⟩:=I.base.there b o e (by rw[B];simp);rw[z]at e';cases e'
 have pn:∀ b,s.heap.get? b=none->∀ p∈X.pn++pins,p.1≠b:=λ b z p hp y=>by
  have:=(I.pin p hp).1
  rw[y,z]at this;cases this
 obtain⟨n0,nH,a0,oe,vs,T,oT,ts,h1,h2,h3,h4,Z,h6,h7⟩:=F
 exact⟨a,C,H',rfl,⟨I.call' os un hok bare (ch:=[]) (λ b z=>absurd z (by simp)),Y _ n0,nH,pn _ n0,a0,oe,vs,T,oT,ts,h1,h2,h3,h4,Y _ Z,h6,pn _ Z,h7⟩,q⟩
end
noncomputable abbrev Cx.hnd (X:Cx)(a:Addr)(oe:Obj):Cx:={ X with A:=X.A.mark (some (.ref a)),calm:=false,pn:=(a,oe)::X.pn,xe:=λ _ _=>False }
section
variable {X:Cx} {pins:List (Addr×Obj)} {σ:St} {H:Hp} {s:af} {a C:Addr} {oe:Obj} {fl:Value}
theorem Cx.Ok.hnd (ok:X.Ok)(a:Addr)(oe:Obj):(X.hnd a oe).Ok:=⟨ok.mod,ok.kind,ok.glob,ok.blt,ok.above,ok.inj,ok.has,ok.cab,(λ z=>by cases z),ok.frames,ok.stk,ok.exf,ok.bs,ok.bsz,ok.noex,ok.exfs,ok.funs,ok.frf⟩
theorem Inv.apart (I:Inv X pins σ H s){b:Addr}{o:Obj}{vs:Array Value}(e:s.heap.get? b=some o)(d:o.data=.fields vs):b≠X.env.locals/\b ∉ X.fs/\∀ v,o.data≠.cell v:=by
 refine⟨λ z=>?_,λ z=>?_,λ v z=>by rw[d]at z;cases z⟩
 ·obtain⟨m,⟨B,es,ep,ho,hd,_⟩,_⟩:=I.loc
  rw[<-z,e]at ho;cases ho
  rw[d]at hd;cases hd
 ·obtain⟨_,B,e',d'⟩:=I.funs.mem z
  rw[e]at e';cases e'
  exact d' _ d
theorem Inv.hnd {vs:Array Value}(I:Inv X pins σ H s)(e:s.heap.get? a=some oe)(n:H a=none)(d:oe.data=.fields vs):Inv (X.hnd a oe) pins σ H s :=
 ⟨I.ok.hnd a oe,I.os,I.bare,I.base,I.loc,I.cell,I.free,I.freeC,λ p hp=>by
  rcases aA.mp hp with z|z
  ·subst z;exact⟨e,n,I.apart e d⟩
  ·exact I.pin p z,I.hok,I.len⟩
theorem Inv.unhnd (ok:X.Ok)(I:Inv (X.hnd a oe) pins σ H s):Inv X pins σ H s:=⟨ok,I.os,I.bare,I.base,I.loc,I.cell,I.free,I.freeC,λ p hp=>I.pin p (ai _ hp),I.hok,I.len⟩
theorem aT9 {M:Model}{A:aN}{E:Value->af->Prop}{i:Nat}{x:Str}{v:V}{Q:Unit->af->Prop}(I:Inv X pins σ H s)(hN:X.N.Nodup)(Y:X.N[i]?=some x)(hx:X.env.scope.names.lookup x=some .local)(hv:σ[i]?=some (some v))
  (h:∀ s',Inv X pins (σ.set i none) H s'->Q () s'):wpAny M A (unbindName X.env x) Q E s:=by
 obtain⟨m,hn,hl⟩:=id I.loc
 have F:(X.env.scope.kind==.class||(X.env.scope.kind==.module&&X.env.locals != X.env.globals))=false:=by rw[I.ok.kind];rfl
 obtain⟨u,r,lk⟩:=hl i x v Y hv (.inl hx)
 have hm:m x=some u:=by
  rcases lk with⟨_,e⟩|⟨e,_⟩
  ·exact e
  ·have G:X.env.kindOf x=some .local:=hx
   rw[G]at e
   rcases e with e|e<;>cases e
 have cne:=I.cne
 refine wpAny_unbindName_local hx hn hm F λ h' u' J hs=>?_
 obtain⟨oL,_,_,a0,_⟩:=id hn
 have B:∀ b o,X.s₀.heap.get? b=some o->b≠X.env.locals:=λ b o e=>aC (ay (aD e) I.ok.above)
 refine h _ ⟨I.ok,I.os,I.bare,⟨λ b o e n hb hx=>?_,λ b o e n hb hx=>?_,I.base.free,λ b o e hx=>?_,I.base.tups,I.base.frzs,I.base.tbls⟩,⟨_,J,λ j y v' e1 e2 e3=>?_⟩,λ y c e=>?_,I.free,I.freeC,λ p hp=>?_,I.hok.part λ b w o e q=>?_,by rw[bp];exact I.len⟩
 ·exact(hs.2 b (B b o e)).trans (I.base.keep b o e n hb hx)
 ·obtain⟨sl,e1⟩:=I.base.slot b o e n hb hx
  exact⟨sl,(hs.2 b (B b o e)).trans e1⟩
 ·obtain⟨o',e1⟩:=I.base.there b o e hx
  exact⟨o',(hs.2 b (B b o e)).trans e1⟩
 ·have hj:j≠i:=λ z=>by
   subst z
   rw[aO (ah.mp hv).1]at e2
   cases e2
  rw[aZ (cw hj)]at e2
  obtain⟨w,r',q⟩:=hl j y v' e1 e2 e3
  refine⟨w,r',?_⟩
  rcases q with⟨k,e⟩|⟨k,c,e,z⟩
  ·refine .inl ⟨k,?_⟩
   have:y≠x:=λ e=>hj (aq5 hN e1 (e▸Y))
   simp[this,e]
  ·exact .inr ⟨k,c,e,z.sameBut hs (cne y c e)⟩
 ·obtain⟨w',z⟩:=I.cell y c e
  exact⟨w',z.sameBut hs (cne y c e)⟩
 ·obtain⟨e,n,ne,Z,d⟩:=I.pin p hp
  exact⟨(hs.2 p.1 ne).trans e,n,ne,Z,d⟩
 ·refine(hs.2 b λ z=>?_).trans q
  rw[z,I.free]at e;cases e
theorem Tr.own (t:Tr X pins σ H s a C fl):∃ oe vs,s.heap.get? a=some oe/\oe.cls=.ref C/\oe.data=.fields vs:=by
 obtain⟨a0,oe,vs,T,G,ts,F,B,h3,_⟩:=t.tr
 exact⟨oe,vs,F,B.1,h3⟩
theorem Tr.again (t:Tr X pins σ H s a C fl){Q:V->Hp->Prop}{e:Expr}{v:V}(he:∀ oe,PE (X.hnd a oe) e (tC v)){E:Value->af->Prop}{R:Value->af->Prop}
  (k:∀ u s',RelV v u->Tr X pins σ H s' a C fl->R u s'):wpAny (model X.prog X.w) (X.A.mark (some (.ref a))) (eval e X.env) R E s:=by
 obtain⟨a0,oe,vs,T,B,ts,h1,h2,h3,h4,h5,Z,Y,h7,h8,h9,G⟩:=t.tr
 have I:=t.inv
 have J:Inv (X.hnd a oe) ((T,B)::pins) σ H s:=(I.hnd h1 t.nH h3).pins_of λ p hp=>by
  rcases aA.mp hp with z|z
  ·subst z;exact⟨h8,Z,I.apart h8 h9⟩
  ·exact I.pin p (aF _ z)
 refine a8 (he oe ((T,B)::pins) s σ H (λ w H1=>w=v/\H1=H) J ⟨rfl,rfl⟩) (λ u s1 ⟨w,H1,F,r,e1,e2⟩=>?_) (λ _ _ z=>bj z)
 subst e1 e2
 refine k u s1 r ⟨(F.pins_of λ p hp=>F.pin p (aF _ (ai _ hp))).unhnd I.ok,t.n0,t.nH,t.np,a0,oe,vs,T,B,ts,(F.pin (a,oe) (av ..)).1,h2,h3,h4,h5,Z,Y,h7,(F.pin (T,B) (aF _ (av ..))).1,h9,G⟩
end
section
variable {prog:az} {w:World} {A:aN} {R:jT->af->Prop} {I:Addr} {fp wr:List Addr} {n:Nat} {P:Nat->Value->Prop} {St:Nat->Heap->Prop} {h₀:Heap}
end
def bm1 (tk tv:TE):TE:=λ σ H Q=>∀ p,H p=none->tk σ (upd H p (.dT [])) λ x H1=>tv σ H1 λ y H2=>H2 p=some (.dT [])/\∃ b k,x=.ref b/\NK H2 k b/\Q (.ref p) (upd H2 p (.dT [(k,y)]))
theorem bc7 {X:Cx}{pos:Pos}{e f:Expr}{tk tv:TE}(hu:X.A.units+1<cLine)(hk:PE X e tk)(hv:PE X f tv):PE X (.Dict [some e] [f] pos) (bm1 tk tv):=by
 intro G s σ H Q I q
 have hn:=I.hok.fresh (ak s.heap.objs.size)
 have I1:=I.laid (a:=s.heap.objs.size) (o:=.dT []) (h':=s.heap.push { cls:=.type "dict",data:=.dict #[] }) (t':=s.toks) (λ _ _ q=>au _ q) (ak _) (bc3 s.heap I.big)
 refine wpAny_Dict_any rfl rfl (by nofun) (by show 1<=15;decide) (thn (bf3 hk hv bo0 G _ σ _ (λ ps F=>match ps with
  | [(x,y)]=>F s.heap.objs.size=some (.dT [])/\∃ b k,x=.ref b/\NK F k b/\Q (.ref s.heap.objs.size) (upd F s.heap.objs.size (.dT [(k,y)]))
  | _=>False) I1 (q _ hn)) λ ws s2 ⟨ps,F,J,B,r⟩=>?_)
 obtain⟨x,y,eps,e2,b,k,ex,nk,r2⟩:∃ x y,ps=[(x,y)]/\F s.heap.objs.size=some (.dT [])/\∃ b k,x=.ref b/\NK F k b/\Q (.ref s.heap.objs.size) (upd F s.heap.objs.size (.dT [(k,y)])):=by
  split at r
  ·exact⟨_,_,rfl,r⟩
  ·exact r.elim
 subst eps ex
 cases B with
 | @cons _ w _ _ Z t =>
  cases t
  obtain⟨w1,w2⟩:=w
  cases(show w1=Value.ref b from Z.1)
  unfold storeAll
  rw[hG]
  obtain⟨z,hd,xs,B,dd⟩:=bR3 J.hok e2
  cases B
  refine ae (ae (wpAny_dictSet_heap (knd:=ao0 X.prog X.w) (show _<_ from hu) (ao8 J.hok nk) dd λ h' Y hs=>?_))
  refine ao ?_
  show wpAny _ _ (forIn ([]:List (Value×Value)) _ _) _ _ _
  rw[fL]
  refine ao ⟨.ref _,_,?_,rfl,r2⟩
  obtain⟨qo,es,ep,hq,h2,h3,h4,_,h5⟩:=Y
  refine aE5 J (by rw[e2];exact True.intro) hs ⟨qo,hq⟩ ⟨by show 1<=aJ;rw[fR];omega,hd,_,.cons ⟨rfl,nk.mono λ c ys ec=>?_,Z.2⟩ .nil,qo,es,ep,hq,h2,h3,h4,h5⟩
  rw[zn (bE6 ec e2 (λ z=>nomatch z))]
  exact ec
section
variable {X:Cx} {pins:List (Addr×Obj)} {σ:St} {H:Hp} {s:af} {a C:Addr} {oe:Obj} {fl:Value}
end
theorem bh3 {X:Cx}{e:Expr}:PE X e (λ _ _ _=>False):=λ _ _ _ _ _ _ z=>z.elim
theorem bc1 {X:Cx}{e:Expr}:PG X e (λ _ _ _ _=>False):=λ _ _ _ _ _ _ _ _ _ z=>z.elim
theorem PG.nox {X:Cx}{e:Expr}{t:TG}(h:PG X.nox e t):PG X e t:=λ B s σ H v u Q I r hw =>
 a8 (h B s σ H v u Q (I.wish _) r hw) (λ _ _ ⟨σ',H',F,q⟩=>⟨σ',H',F.unwish,q⟩) λ _ _ z=>bj z
theorem PI.nox {X:Cx}{tg e:Expr}{t:TI}(h:PI X.nox tg e t):PI X tg e t:=λ B s σ H R I hw =>
 a8 (h B s σ H R (I.wish _) hw) (λ _ _ z=>a8 z (λ _ _ z=>by
  obtain⟨it,G,Z,J,H2,e,Y,T,F,f2,q⟩:=z
  exact⟨it,G,Z,J,H2,e,Y.unwish,T,F,f2,q⟩) λ _ _ z=>bj z) λ _ _ z=>bj z
theorem bN0 {P:az}{w:World}{A:aN}{E:Value->af->Prop}{s:af}{env:Env}{K:ac}{e C D:Addr}{t:Expr}{n:Str}{J:Stmt}{B:List Stmt}{pos:Pos}{rest:List eV}{Q:Flow->af->Prop}(hx:bD K (.ref C) (.ref D)=some true)
  (h:wpAny (model P w) (A.mark (some (.ref e))) (eval t env) (λ c G=>c=.ref D/\K.In G.heap/\(∃ oe,G.heap.get? e=some oe/\oe.cls=.ref C) /\
   wpAny (model P w) (A.mark (some (.ref e))) (j2 (.ref e) none) (λ _ s₂=>wpAny (model P w) (A.mark (some (.ref e))) (fD env n (.ref e)) (λ _ Y=>wpAny (model P w) (A.mark (some (.ref e))) (execs (J::B) env)
    (λ f s₄=>wpAny (model P w) A (do bindName env n .none;unbindBehindTheSuite env n pos) (λ _ Z=>Q f Z) E s₄)
    (AsSuiteRaised (model P w) (A.mark (some (.ref e))) env n pos (fA (model P w) (A.mark (some (.ref e))) env (jx (model P w) A env E))) Y) (fA (model P w) (A.mark (some (.ref e))) env (jx (model P w) A env E)) s₂) (fA (model P w) (A.mark (some (.ref e))) env (jx (model P w) A env E)) G) (fA (model P w) (A.mark (some (.ref e))) env (jx (model P w) A env E)) s) :
  wpAny (model P w) A (handleBy (.ref e) env (.ExceptHandler (some t) (some n) (J::B) pos::rest)) Q E s:=by
 refine wpAny_handleBy_cons (codeAny_handlers_test (a8 h (λ c G h₁=>?_) λ _ _ y=>y)) (by intro q;cases q)
 obtain⟨rfl,X,⟨oe,he,F⟩,hk⟩:=h₁
 have LT:dM (model P w) G.heap (jr (.ref e)) (.ref C):=by
  rw[<-F]
  exact(j1 he).andThen .now
 exact(PySem.W.exm_one X LT hx).here (codeAny_handlers_suite_as hk)
section
variable {X:Cx} {pins:List (Addr×Obj)} {σ:St} {H:Hp} {s:af} {a C D':Addr} {oe:Obj} {fl:Value}
theorem aK7 {x n:Str}{i:Nat}{np pos:Pos}{b₀:Stmt}{B:List Stmt}{rest:List eV}{th:TS}{D:Ends}(t:Tr X pins σ H s a C .none)(J:X.ex=[])(G:X.stack=X.env::X.outer)(Z:X.env.frame=some X.env.locals)
  (hx:bD X.K (.ref C) (.ref D')=some true) (hg:Gl X x) (hm:X.mg x=some (.ref D')) (hd:(x==("__debug__":Str))=false) (hN:X.N.Nodup) (hi:X.N[i]?=some n) (hl:X.env.scope.names.lookup n=some .local)
  (hb:∀ oe,oe.cls=.ref C->PSs (X.hnd a oe) (b₀::B) th) (hq:th { nx:=λ _ _=>False,rt:=D.rt } (σ.set i (some (.ref a))) H) :
  wpAny (model X.prog X.w) X.A (jX (.ref a) X.env) (λ _ s₂=>wpAny (model X.prog X.w) X.A (j2 (.ref a) none) (λ _ s₃=>wpAny (model X.prog X.w) X.A (handleBy (.ref a) X.env (.ExceptHandler (some (.Name x np)) (some n) (b₀::B) pos::rest)) (SP X pins D) X.xe s₃) X.xe s₂) X.xe s:=by
 refine t.noted J G Z λ h2 fl t2=>t2.down J G Z λ h3 t3=>?_
 refine bN0 (K:=X.K) hx ?_
 refine t3.again (Q:=λ _ _=>True) (v:=.ref D') (λ oe=>al7 (X:=X.hnd a oe) hg hm rfl hd) λ u s4 r t4=>?_
 obtain⟨a2,b2,a3,a5,b4⟩:=t4.own
 refine⟨r,t4.inv.kIn,⟨a2,a3,a5⟩,?_⟩
 refine t4.down J G Z λ h5 Y=>?_
 obtain⟨F,b3,a1,a6,a0⟩:=Y.own
 have J5:Inv X ((a,F)::pins) σ H { s4 with heap:=h5 }:=Y.inv.pins_of λ p hp=>by
  rcases aA.mp hp with z|z
  ·subst z;exact⟨a1,Y.nH,Y.inv.apart a1 a0⟩
  ·exact Y.inv.pin p (aF _ z)
 refine af4 J5 hN hi (.inl hl) (v:=.ref a) rfl (λ s6 J6=>?_) (.inr hl)
 have J7:Inv (X.hnd a F) pins (σ.set i (some (.ref a))) H s6:=(J6.pins_of λ p hp=>J6.pin p (aF _ (ai _ hp))).hnd (J6.pin (a,F) (aF _ (av ..))).1 Y.nH a0
 refine a8 (hb F a6 pins s6 _ H { nx:=λ _ _=>False,rt:=D.rt } J7 hq) (λ f s8 z=>?_) (λ _ _ z=>bj z)
 cases f with
 | next=>obtain⟨_,_,_,z⟩:=z;exact bj z
 | brk=>obtain⟨_,_,_,z⟩:=z;exact bj z
 | cont=>obtain⟨_,_,_,z⟩:=z;exact bj z
 | ret u8 =>
  obtain⟨v8,σ8,H8,J8,r8,q8⟩:=z
  have J8:=J8.unhnd Y.inv.ok
  refine ae (wpAny_bindName (af4 J8 hN hi (.inl hl) (v:=.non) (u:=.none) rfl (λ s9 J9=>?_) (.inr hl)))
  have a4:i < σ8.length:=by rw[J8.len];exact(ah.mp hi).1
  exact wpAny_onRaise (aT9 J9 hN hi hl (by rw[aO a4]) λ b1 b0=>⟨v8,_,H8,b0,r8,q8⟩)
end
end L2
end
noncomputable section
namespace DV
inductive D where
 | non|bl (b:Bool)|int (i:Int)|str (x:List Nat)|tup (l:List D)|ref (n:Nat)|fn (f:String)|clo (f:String) (cs:List D)
noncomputable instance:DecidableEq D:=λ a b=>gE (a=b)
noncomputable instance (x:D):Decidable (x=.non):=match x with
 | .non=>.isTrue rfl
 | .bl _=>.isFalse nofun
 | .int _=>.isFalse nofun
 | .str _=>.isFalse nofun
 | .tup _=>.isFalse nofun
 | .ref _=>.isFalse nofun
 | .fn _=>.isFalse nofun
 | .clo _ _=>.isFalse nofun
inductive O where
 | lst (l:List D)|ro (l:List D)|dic (l:List (D×D))|ins (c:String) (fs:List (String×D))|dit (l:List (D×D))
noncomputable instance:DecidableEq O:=λ a b=>gE (a=b)
noncomputable abbrev Sto:=List O
noncomputable def O.kd:O->Nat
 | .lst _=>0|.ro _=>1|.dic _=>2|.ins _ _=>3|.dit _=>4
inductive R (α:Type) where
 | ok (a:α) (s:Sto)|exc (e:D) (s:Sto)|bad
noncomputable abbrev M (α:Type):=Sto->R α
noncomputable def R.bind {α β:Type}(r:R α)(f:α->Sto->R β):R β:=match r with
 | .ok a s=>f a s
 | .exc e s=>.exc e s
 | .bad=>.bad
@[simp] theorem R.bind_ok {α β:Type} (a:α) (s:Sto) (f:α->Sto->R β):(R.ok a s).bind f=f a s:=rfl
@[simp] theorem R.bind_bad {α β:Type} (f:α->Sto->R β):(R.bad:R α).bind f=.bad:=rfl
@[simp] theorem R.bind_exc {α β:Type} (e:D) (s:Sto) (f:α->Sto->R β):(R.exc e s:R α).bind f=.exc e s:=rfl
theorem R.bind_inv {α β:Type}{r:R α}{f:α->Sto->R β}{b:β}{t:Sto}(h:r.bind f=.ok b t):∃ a s,r=.ok a s/\f a s=.ok b t:=by
 cases r with
 | ok a s=>exact⟨a,s,rfl,h⟩
 | exc e s=>cases h
 | bad=>cases h
@[simp] theorem R.bind_assoc {α β γ:Type} (r:R α) (f:α->Sto->R β) (g:β->Sto->R γ):(r.bind f).bind g=r.bind λ a s=>(f a s).bind g:=by cases r<;>rfl
mutual
noncomputable def D.bnd (n:Nat):D->Bool
 | .tup l=>D.bndL n l
 | .ref k=>decide (k<n)
 | .clo _ l=>D.bndL n l
 | _=>true
noncomputable def D.bndL (n:Nat):List D->Bool
 | []=>true
 | d::l=>D.bnd n d&&D.bndL n l
end
noncomputable def O.bnd (n:Nat):O->Bool
 | .lst l=>D.bndL n l
 | .ro l=>D.bndL n l
 | .dic l=>D.bndL n (l.map (·.1))&&D.bndL n (l.map (·.2))
 | .ins _ fs=>D.bndL n (fs.map (·.2))
 | .dit l=>D.bndL n (l.map (·.1))&&D.bndL n (l.map (·.2))
mutual
noncomputable def D.plain:D->Bool
 | .non=>true|.int _=>true|.str _=>true
 | .tup l=>D.plainL l
 | _=>false
noncomputable def D.plainL:List D->Bool
 | []=>true
 | d::l=>D.plain d&&D.plainL l
end
mutual
noncomputable def D.ncl:D->Bool
 | .tup l=>D.nclL l
 | .clo _ _=>false
 | _=>true
noncomputable def D.nclL:List D->Bool
 | []=>true
 | d::l=>D.ncl d&&D.nclL l
end
noncomputable def O.ncl:O->Bool
 | .lst l=>D.nclL l
 | .ro l=>D.nclL l
 | .dic l=>D.nclL (l.map (·.2))
 | .dit l=>D.nclL (l.map (·.2))
 | _=>false
noncomputable def D.key:D->Bool
 | .int _=>true|.str _=>true|_=>false
noncomputable def D.hdI:List D->Bool
 | .int _::_=>true|.non::_=>true|.tup _::_=>true|_=>false
noncomputable def D.keyF:D->Bool
 | .int _=>true|.non=>true|.str x=>decide (x.length<=1000)|_=>false
noncomputable def D.keyS:D->Bool
 | .tup l=>D.hdI l&&(l.all D.keyF&&decide (l.length<=1000))|d=>D.keyF d
noncomputable def D.keyT:D->Bool
 | .tup l=>D.hdI l&&(l.all D.keyS&&decide (l.length<=1000))|_=>false
noncomputable def LIM:Nat:=1000000
@[irreducible] noncomputable def BIG:Nat:=2^60000
@[irreducible] noncomputable def DIVL:Nat:=2^4096
inductive BOp where
 | add|sub|mul|fdiv|mod|pow|shl|shr|band|bor
 deriving DecidableEq
inductive COp where
 | eq|ne|lt|le|gt|ge|isin|notin
 deriving DecidableEq
inductive Cn where
 | non|bl (b:Bool)|int (i:Int)|str (x:List Nat)
 deriving DecidableEq
noncomputable def Cn.d:Cn->D
 | .non=>.non|.bl b=>.bl b|.int i=>.int i|.str x=>.str x
inductive Bi where
 | len|abs|int|str|min2|max2|max3|min3|isInt|isBool|isStr|isTup|isList|ord
 deriving DecidableEq
inductive Mk where
 | tuple|list|all|any|sum|min|max|sorted|lenset
 deriving DecidableEq
inductive Mt where
 | append|pop|index|count|reverse|clear|bitlen|get1|get2|setdefault|update|split|partition
 deriving DecidableEq
inductive Tg where
 | one (i:Nat)|tup (is:List Nat)
 deriving DecidableEq
mutual
inductive E where
 | var (i:Nat)|cst (c:Cn)|glob (x:String)
 | bin (op:BOp) (a b:E)|neg (a:E)|not (a:E)
 | cmp (op:COp) (a b:E)|chain (o p:COp) (a b c:E)
 | isN (a:E)|notN (a:E)|isB (a:E) (b:Bool)|notB (a:E) (b:Bool)
 | and (a b:E)|or (a b:E)|ite (c a b:E)
 | tup (es:Es)|lst (es:Es)|dic (ks vs:Es)|dicT|dicU (k v:E)|get2 (o k d:E)|bitl (a:E)|lrng (a:E)|fstr (es:Es)|inC (e:E) (c:String)|getC (c:String) (e:E)
 | ix (a b:E)|slL (a lo:E)|slU (a hi:E)|slLU (a lo hi:E)|rev (a:E)
 | call (f:String) (as:As)|callC (f:String) (as:As)|callV (i:Nat) (es:Es)
 | bi (b:Bi) (es:Es)|mk (k:Mk) (l:L)|mkD (k:Mk) (l:L) (d:E)
 | meth (m:Mt) (o:E) (es:Es)|ext (o:E) (l:L)|extS (o e:E)|join (o e:E)|mks (k:Mk) (e:E)|mkDs (k:Mk) (e d:E)|minK (id:String) (e:E) (j:Int)|spl (o:E) (c:Nat)
inductive Es where
 | nil|cons (e:E) (es:Es)
inductive As where
 | nil|ex (e:E) (as:As)|lam (id:String) (caps:List Nat) (as:As)|fn (f:String) (as:As)
inductive I where
 | seq (e:E)|rng1 (a:E)|rng2 (a b:E)|rng3 (a b:E) (c:Int)|rngD (a:E)|enum (it:I)|zip (a b:I)|items (e:E)
inductive L where
 | comp (tg:Tg) (it:I) (e:E) (caps:List (Option Nat))|compIf (tg:Tg) (it:I) (c e:E) (caps:List (Option Nat))|disp (es:Es)|seq (e:E)|itm (e:E)
end
mutual
inductive S where
 | asg (tg:Tg) (e:E)|setIx (o i e:E)|aug (i:Nat) (e:E)|ex (e:E)|ret (e:E)|retN
 | ite (c:E) (a b:Ss)|whl (c:E) (b:Ss)|for_ (tg:Tg) (it:I) (b:Ss)|pass|cont|brk|raise|und (i:Nat)
inductive Ss where
 | nil|cons (s:S) (ss:Ss)
end
noncomputable abbrev Env:=List (Option D)
noncomputable def ac7 (o:O):M D:=λ s=>.ok (.ref s.length) (s++[o])
noncomputable def pur (d:D):M D:=λ s=>.ok d s
noncomputable def bad {α:Type}:M α:=λ _=>.bad
noncomputable def mulOk (a b:Int):Bool:=decide (a.natAbs<2^64)||decide (b.natAbs<2^64)||(decide (a.natAbs<BIG)&&decide (b.natAbs<BIG))
noncomputable def rep:Nat->List Nat->List Nat
 | 0,_=>[]
 | n+1,a=>a++rep n a
noncomputable def aO5:Nat->List D->List D
 | 0,_=>[]
 | n+1,a=>a++aO5 n a
noncomputable def ae8:BOp->D->D->M D
 | .add,.int a,.int b=>pur (.int (a+b))
 | .add,.str a,.str b=>if a.length+b.length<=LIM then pur (.str (a++b))else bad
 | .add,.tup a,.tup b=>if a.length+b.length<=LIM then pur (.tup (a++b))else bad
 | .add,.ref a,.ref b=>λ s=>match s[a]?,s[b]? with
  | some (.lst l),some (.lst m)=>if l.length+m.length<=LIM then ac7 (.lst (l++m)) s else .bad
  | _,_=>.bad
 | .mul,.int a,.int b=>if mulOk a b then pur (.int (a*b))else bad
 | .mul,.str a,.int n=>if 0<=n/\n<=1000000/\a.length*n.toNat<=LIM then pur (.str (rep n.toNat a))else bad
 | .mul,.tup a,.int n=>if 0<=n/\n<=1000000/\a.length*n.toNat<=LIM then pur (.tup (aO5 n.toNat a))else bad
 | .mul,.ref a,.int n=>λ s=>match s[a]? with
  | some (.lst l)=>if 0<=n/\n<=1000000/\l.length*n.toNat<=LIM then ac7 (.lst (aO5 n.toNat l)) s else .bad
  | _=>.bad
 | .fdiv,.int a,.int b=>if 0<b/\b<(DIVL:Int)then pur (.int (a / b))else bad
 | .mod,.int a,.int b=>if 0<b then pur (.int (a % b))else bad
 | .pow,.int a,.int b=>if 0<=b/\b<=1000000/\a.natAbs<2^64 then pur (.int (a^b.toNat))else bad
 | .shl,.int a,.int b=>if 0<=b/\b<=1000000/\a.natAbs<2^64 then pur (.int (a*2^b.toNat))else bad
 | _,_,_=>bad
noncomputable def kd (s:Sto):D->Nat
 | .non=>0|.bl _=>1|.int _=>1|.str _=>2|.tup _=>3
 | .ref r=>match s[r]? with|some (.lst _)=>4|_=>9
 | _=>9
noncomputable def aA4 (a b:Nat):Bool:=a==9||b==9||a==b
noncomputable def b2i (b:Bool):Int:=if b then 1 else 0
noncomputable def aU9:D->D->Option Bool
 | .non,.non=>some true
 | .bl a,.bl b=>some (a==b)
 | .int a,.int b=>some (a==b)
 | .bl a,.int b=>some (b2i a==b)
 | .int a,.bl b=>some (a==b2i b)
 | .str a,.str b=>some (a==b)
 | _,_=>none
noncomputable def ac8 (s:Sto)(a b:D):Option Bool:=match aU9 a b with
 | some z=>some z
 | none=>if aA4 (kd s a) (kd s b)then none else some false
noncomputable def eqL (f:D->D->Option Bool):List D->List D->Option Bool
 | [],[]=>some true
 | [],_::_=>some false
 | _::_,[]=>some false
 | a::l,b::m=>match f a b,eqL f l m with
  | some x,some y=>some (x&&y)
  | _,_=>none
noncomputable def eqv (s:Sto):Nat->D->D->Option Bool
 | 0,a,b=>ac8 s a b
 | n+1,a,b=>match a,b with
  | .tup l,.tup m=>eqL (eqv s n) l m
  | .ref x,.ref y=>match s[x]?,s[y]? with
   | some (.lst l),some (.lst m)=>if l.length=m.length then eqL (eqv s n) l m else some false
   | _,_=>none
  | a,b=>ac8 s a b
noncomputable def DEEP:Nat:=30
noncomputable def eqM (a b:D):M D:=λ s=>match eqv s DEEP a b with
 | some r=>.ok (.bl r) s
 | none=>.bad
noncomputable def inL (s:Sto)(x:D):List D->Option Bool
 | []=>some false
 | y::l=>match eqv s DEEP y x,inL s x l with
  | some a,some b=>some (a||b)
  | _,_=>none
noncomputable def look (k:D):List (D×D)->Option D
 | []=>none
 | (a,v)::l=>if a=k then some v else look k l
noncomputable def inM (a b:D):M Bool:=λ s=>match b with
 | .tup l=>match inL s a l with|some r=>.ok r s|none=>.bad
 | .ref r=>match s[r]? with
  | some (.lst l)=>match inL s a l with|some r=>.ok r s|none=>.bad
  | some (.dic l)=>if a.key then .ok (look a l).isSome s else .bad
  | some (.dit l)=>if a.keyT then .ok (look a l).isSome s else .bad
  | _=>.bad
 | .str y=>match a with|.str [c]=>.ok (decide (c∈y)) s|_=>.bad
 | _=>.bad
noncomputable def qp:COp->D->D->M D
 | .eq,a,b=>eqM a b
 | .ne,a,b=>λ s=>match eqv s DEEP a b with|some r=>.ok (.bl (!r)) s|none=>.bad
 | .lt,.int a,.int b=>pur (.bl (decide (a<b)))
 | .le,.int a,.int b=>pur (.bl (decide (a<=b)))
 | .gt,.int a,.int b=>pur (.bl (decide (b<a)))
 | .isin,a,b=>λ s=>(inM a b s).bind λ r s=>.ok (.bl r) s
 | .notin,a,b=>λ s=>(inM a b s).bind λ r s=>.ok (.bl (!r)) s
 | _,_,_=>bad
noncomputable def ixn (n:Nat)(i:Int):Option Nat:=if 0<=i then(if i<n then some i.toNat else none)else if -(n:Int)<=i then some (i+n).toNat else none
noncomputable def sbd (n:Nat)(i:Int):Nat:=if 0<=i then min i.toNat n else(i+n).toNat
noncomputable def loB (n:Nat):Option Int->Nat
 | none=>0
 | some i=>sbd n i
noncomputable def hiB (n:Nat):Option Int->Nat
 | none=>n
 | some i=>sbd n i
noncomputable def az9 {α:Type}(l:List α)(lo hi:Option Int):List α:=(l.drop (loB l.length lo)).take (hiB l.length hi - loB l.length lo)
noncomputable def ixM (a b:D):M D:=λ s=>match a,b with
 | .tup l,.int i=>match(ixn l.length i).bind λ j=>l[j]? with|some d=>.ok d s|none=>.bad
 | .str l,.int i=>match(ixn l.length i).bind λ j=>l[j]? with|some c=>.ok (.str [c]) s|none=>.bad
 | .ref r,b=>match s[r]? with
  | some (.lst l)=>match b with
   | .int i=>match(ixn l.length i).bind λ j=>l[j]? with|some d=>.ok d s|none=>.bad
   | _=>.bad
  | some (.ro l)=>match b with
   | .int i=>match(ixn l.length i).bind λ j=>l[j]? with|some d=>.ok d s|none=>.bad
   | _=>.bad
  | some (.dic l)=>if b.key then match look b l with|some d=>.ok d s|none=>.bad else .bad
  | some (.dit l)=>if b.keyT then match look b l with|some d=>.ok d s|none=>.bad else .bad
  | _=>.bad
 | _,_=>.bad
noncomputable def slM (a:D)(lo hi:Option Int):M D:=λ s=>match a with
 | .tup l=>.ok (.tup (az9 l lo hi)) s
 | .str l=>.ok (.str (az9 l lo hi)) s
 | .ref r=>match s[r]? with
  | some (.lst l)=>ac7 (.lst (az9 l lo hi)) s
  | _=>.bad
 | _=>.bad
noncomputable def bZ3 (a:D):M D:=λ s=>match a with
 | .str l=>.ok (.str l.reverse) s
 | .ref r=>match s[r]? with
  | some (.lst l)=>ac7 (.lst l.reverse) s
  | _=>.bad
 | _=>.bad
noncomputable def an5:List D->Option (List Bool)
 | []=>some []
 | .bl b::l=>(an5 l).map (b::·)
 | _=>none
noncomputable def qq:List D->Option (List Int)
 | []=>some []
 | .int i::l=>(qq l).map (i::·)
 | _=>none
noncomputable def af3:List D->Option (List (List Nat))
 | []=>some []
 | .str i::l=>(af3 l).map (i::·)
 | _=>none
noncomputable def bv1 (d:D):M D:=λ s=>match d with
 | .tup l=>.ok (.int l.length) s
 | .str l=>.ok (.int l.length) s
 | .ref r=>match s[r]? with
  | some (.lst l)=>.ok (.int l.length) s
  | some (.ro l)=>.ok (.int l.length) s
  | _=>.bad
 | _=>.bad
noncomputable def isK (k:Nat)(d:D):M D:=λ s=>match d with
 | .non=>.ok (.bl false) s
 | .bl _=>.ok (.bl (k==1||k==2)) s
 | .int _=>.ok (.bl (k==1)) s
 | .str _=>.ok (.bl (k==3)) s
 | .tup _=>.ok (.bl (k==4)) s
 | .ref r=>match s[r]? with
  | some (.lst _)=>.ok (.bl (k==5)) s
  | _=>.bad
 | _=>.bad
noncomputable def bi1 (f:D->M D):List D->M D
 | [d]=>f d
 | _=>bad
noncomputable def aO1:List D->M D
 | [.str [c]]=>λ s=>if 48<=c/\c<=57 then .ok (.int ((c - 48:Nat):Int)) s else .bad
 | _=>bad
noncomputable def aV8:List D->M D
 | [.int i]=>λ s=>if 0<=i/\i<=9 then .ok (.str [48+i.toNat]) s else .bad
 | [.str w]=>λ s=>.ok (.str w) s
 | _=>bad
noncomputable def bi:Bi->List D->M D
 | .len,l=>bi1 bv1 l
 | .abs,l=>λ s=>match qq l with|some [i]=>.ok (.int (if i<0 then -i else i)) s|_=>.bad
 | .int,l=>λ s=>match an5 l with|some [b]=>.ok (.int (if b then 1 else 0)) s|some _=>.bad|none=>aO1 l s
 | .str,l=>aV8 l
 | .min2,l=>λ s=>match qq l with|some [a,b]=>.ok (.int (if b<a then b else a)) s|_=>.bad
 | .max2,l=>λ s=>match qq l with|some [a,b]=>.ok (.int (if b > a then b else a)) s|_=>.bad
 | .max3,l=>λ s=>match qq l with|some [a,b,c]=>.ok (.int (max (max a b) c)) s|_=>.bad
 | .isInt,l=>bi1 (isK 1) l
 | .isBool,l=>bi1 (isK 2) l
 | .isStr,l=>bi1 (isK 3) l
 | .isTup,l=>bi1 (isK 4) l
 | .isList,l=>bi1 (isK 5) l
 | _,_=>bad
noncomputable def minI:List Int->Option Int
 | []=>none
 | a::l=>some (l.foldl min a)
noncomputable def cb6:List Int->Option Int
 | []=>none
 | a::l=>some (l.foldl max a)
noncomputable def ins (a:Int):List Int->List Int
 | []=>[a]
 | b::l=>if a<=b then a::b::l else b::ins a l
noncomputable def bO5:List Int->List Int
 | []=>[]
 | a::l=>ins a (bO5 l)
noncomputable def cf0 (is:List Int):Bool:=is.all (λ i=>decide (-1000000000<=i/\i<=1000000000))&&decide (is.length<=1000000)
noncomputable def mk:Mk->List D->M D
 | .tuple,l=>λ s=>.ok (.tup l) s
 | .list,l=>ac7 (.lst l)
 | .all,l=>λ s=>match an5 l with|some bs=>.ok (.bl (bs.all id)) s|none=>.bad
 | .any,l=>λ s=>match an5 l with|some bs=>.ok (.bl (bs.any id)) s|none=>.bad
 | .sum,l=>λ s=>match qq l with|some is=>if cf0 is then .ok (.int is.sum) s else .bad|none=>.bad
 | .min,l=>λ s=>match(qq l).bind minI with|some m=>.ok (.int m) s|none=>.bad
 | .max,l=>λ s=>match(qq l).bind cb6 with|some m=>.ok (.int m) s|none=>.bad
 | .sorted,l=>λ s=>match qq l with|some is=>ac7 (.lst ((bO5 is).map D.int)) s|none=>.bad
 | .lenset,l=>bad
noncomputable def mkD (k:Mk)(l:List D)(d:D):M D:=λ s=>match k with
 | .min=>match qq l with|some is=>(match minI is with|some m=>.ok (.int m) s|none=>.ok d s)|none=>.bad
 | .max=>match qq l with|some is=>(match cb6 is with|some m=>.ok (.int m) s|none=>.ok d s)|none=>.bad
 | _=>.bad
noncomputable def as5 (k v:D)(l:List (D×D)):List (D×D):=if(look k l).isSome then l.map (λ p=>if p.1=k then(p.1,v)else p)else l++[(k,v)]
noncomputable def setIx (o i v:D):Sto->R Unit:=λ s=>match o with
 | .ref r=>match s[r]? with
  | some (.lst l)=>match i with
   | .int i=>match ixn l.length i with|some j=>.ok () (s.set r (.lst (l.set j v)))|none=>.bad
   | _=>.bad
  | some (.dic l)=>if i.key&&decide (l.length<LIM)then .ok () (s.set r (.dic (as5 i v l)))else .bad
  | some (.dit l)=>if i.keyT&&decide (l.length<LIM)then .ok () (s.set r (.dit (as5 i v l)))else .bad
  | _=>.bad
 | _=>.bad
noncomputable def bW6 (o k e:D):M D:=λ s=>match o with
 | .ref r=>match s[r]? with
  | some (.dit l)=>if k.keyT then .ok ((look k l).getD e) s else .bad
  | _=>.bad
 | _=>.bad
noncomputable def idx (s:Sto)(x:D):Nat->List D->Option Nat
 | _,[]=>none
 | n,y::l=>match eqv s DEEP y x with
  | some true=>some n
  | some false=>idx s x (n+1) l
  | none=>none
noncomputable def meth:Mt->D->List D->M D
 | .append,.ref r,[d]=>λ s=>match s[r]? with
  | some (.lst l)=>if l.length<LIM then .ok .non (s.set r (.lst (l++[d])))else .bad
  | _=>.bad
 | .pop,.ref r,[]=>λ s=>match s[r]? with
  | some (.lst l)=>match l.getLast? with|some d=>.ok d (s.set r (.lst l.dropLast))|none=>.bad
  | _=>.bad
 | .reverse,.ref r,[]=>λ s=>match s[r]? with
  | some (.lst l)=>.ok .non (s.set r (.lst l.reverse))
  | _=>.bad
 | .clear,.ref r,[]=>λ s=>match s[r]? with
  | some (.lst l)=>.ok .non (s.set r (.lst []))
  | _=>.bad
 | .index,.ref r,[d]=>λ s=>match s[r]? with
  | some (.lst l)=>match inL s d l,idx s d 0 l with|some true,some n=>.ok (.int n) s|_,_=>.bad
  | _=>.bad
 | _,_,_=>bad
noncomputable def bJ0 (o:D)(l:List D):M D:=λ s=>match o with
 | .ref r=>match s[r]? with
  | some (.lst m)=>if m.length+l.length<=LIM then .ok .non (s.set r (.lst (m++l)))else .bad
  | _=>.bad
 | _=>.bad
noncomputable def bR6 (sep:List Nat):List (List Nat)->List Nat
 | []=>[]
 | [p]=>p
 | p::q::ps=>p++(sep++bR6 sep (q::ps))
noncomputable def aX2 (c:Nat):List Nat->List (List Nat)
 | []=>[[]]
 | x::l=>if x=c then[]::aX2 c l else match aX2 c l with
  | p::ps=>(x::p)::ps
  | []=>[[x]]
noncomputable def ca1 (c:Nat)(x:D):M D:=λ s=>match x with
 | .str w=>if w.length+2<=LIM then ac7 (.lst ((aX2 c w).map D.str)) s else .bad
 | _=>.bad
noncomputable def bq6 (x y:D):M D:=λ s=>match x with
 | .str []=>match y with
  | .ref r=>match s[r]? with
   | some (.lst l)=>match af3 l with
    | some ss=>if ss.flatten.length<=LIM then .ok (.str ss.flatten) s else .bad
    | none=>.bad
   | _=>.bad
  | _=>.bad
 | .str (c::sep)=>match y with
  | .ref r=>match s[r]? with
   | some (.lst l)=>match af3 l with
    | some ss=>if(ss.map λ w=>w.length+(c::sep).length).sum<=LIM then .ok (.str (bR6 (c::sep) ss)) s else .bad
    | none=>.bad
   | _=>.bad
  | _=>.bad
 | _=>.bad
noncomputable def extS (o d:D):M D:=λ s=>match d with
 | .ref k=>match s[k]? with
  | some (.lst l)=>bJ0 o l s
  | _=>.bad
 | _=>.bad
structure Fns where
 call:String->List D->M D
 lam:String->List D->List D->M D
 con:String->Option D
 xcall:String->List D->Sto->Option (String×Sto)
 xc:String->Bool
 xt:String->Bool
 cdc:String->Option (List (List Nat×List Nat))
noncomputable def aA3 (ρ:Env)(i:Nat):M D:=λ s=>match ρ[i]? with|some (some d)=>.ok d s|_=>.bad
noncomputable def bA1 (ρ:Env):List Nat->Option (List D)
 | []=>some []
 | i::is=>match ρ[i]?,bA1 ρ is with|some (some d),some l=>some (d::l)|_,_=>none
noncomputable def zZ (ρ:Env)(caps:List (Option Nat)):Env:=caps.map λ o=>match o with|none=>none|some j=>(ρ[j]?).join
noncomputable def an3 (ρ:Env)(i:Nat)(d:D):Option Env:=if i < ρ.length then some (ρ.set i (some d))else none
noncomputable def ak1 (ρ:Env)(i:Nat):Option Env:=if i < ρ.length then some (ρ.set i none)else none
noncomputable def ai4 (ρ:Env):List Nat->List D->Option Env
 | [],[]=>some ρ
 | i::is,d::l=>(an3 ρ i d).bind λ ρ=>ai4 ρ is l
 | _,_=>none
noncomputable def zN (ρ:Env):Tg->D->Option Env
 | .one i,d=>an3 ρ i d
 | .tup is,.tup l=>ai4 ρ is l
 | _,_=>none
structure Sq where
 its:List D
 src:List Nat
noncomputable def aO2 (d:D):M Sq:=λ s=>match d with
 | .tup l=>.ok ⟨l,[]⟩ s
 | .str l=>.ok ⟨l.map λ c=>.str [c],[]⟩ s
 | .ref r=>match s[r]? with
  | some (.lst l)=>.ok ⟨l,[r]⟩ s
  | some (.ro l)=>.ok ⟨l,[]⟩ s
  | _=>.bad
 | _=>.bad
noncomputable def aL1 (d:D):M Sq:=λ s=>match d with
 | .tup l=>.ok ⟨l,[]⟩ s
 | .str l=>.ok ⟨l.map λ c=>.str [c],[]⟩ s
 | .ref r=>match s[r]? with
  | some (.lst l)=>.ok ⟨l,[r]⟩ s
  | some (.ro l)=>.ok ⟨l,[]⟩ s
  | _=>.bad
 | _=>.bad
noncomputable def ba2 (d:D):M Sq:=λ s=>match d with
 | .tup l=>.ok ⟨l,[]⟩ s
 | .ref r=>match s[r]? with
  | some (.lst l)=>.ok ⟨l,[r]⟩ s
  | some (.ro l)=>.ok ⟨l,[]⟩ s
  | _=>.bad
 | _=>.bad
noncomputable def cg7 (p:D×D):D:=match p.1 with
 | .tup l=>.tup (l++[p.2])
 | _=>.non
noncomputable def bX8 (d:D):Sto->R (List D):=λ s=>match d with
 | .ref r=>match s[r]? with
  | some (.dit l)=>if l.length<=LIM then .ok (l.map cg7) s else .bad
  | _=>.bad
 | _=>.bad
noncomputable def bj7 (d:D):Sto->R (List D):=λ s=>match d with
 | .tup l=>.ok l s
 | .str l=>.ok (l.map λ c=>.str [c]) s
 | .ref r=>match s[r]? with
  | some (.lst l)=>.ok l s
  | some (.ro l)=>.ok l s
  | _=>.bad
 | _=>.bad
noncomputable def bi2 (d:D):Sto->R (List D):=λ s=>match d with
 | .ref r=>match s[r]? with
  | some (.lst l)=>.ok l s
  | _=>.bad
 | _=>.bad
noncomputable def cf1 (j:Int):D->Option Int
 | .tup l=>match(ixn l.length j).bind λ k=>l[k]? with|some (.int z)=>some z|_=>none
 | _=>none
noncomputable def bJ5 (j:Int):List D->Option (List Int)
 | []=>some []
 | d::l=>match cf1 j d with
  | some z=>(match bJ5 j l with|some zs=>some (z::zs)|none=>none)
  | none=>none
noncomputable def bX9 (f:Nat->Int):Nat->Nat
 | 0=>0
 | k+1=>if f (k+1)<f (bX9 f k)then k+1 else bX9 f k
noncomputable def bx7 (j:Int)(l:List D):M D:=λ s=>match bJ5 j l with
 | some ks=>(match l[bX9 (λ i=>ks.getD i 0) (l.length - 1)]? with|some d=>.ok d s|none=>.bad)
 | none=>.bad
noncomputable def W62:Int:=4611686018427387904
noncomputable def zW (a b:Int):List D:=(aU (b - a).toNat).map λ(k:Nat)=>.int (a+k)
noncomputable def bitsN (i:Int):Nat:=if i=0 then 0 else i.natAbs.log2+1
noncomputable def bD5 (x:D):M D:=λ s=>match x with|.int i=>.ok (.int (bitsN i:Nat)) s|_=>.bad
noncomputable def bJ7 (x:D):M D:=λ s=>match x with|.int i=>if 0<=i/\i<=1000000 then ac7 (.lst (zW 0 i)) s else .bad|_=>.bad
noncomputable def ca2 (a:Int):List D:=(aU (a+1).toNat).map λ(k:Nat)=>.int (a+(k:Int)*(-1))
noncomputable def cf2 (a b c:Int):List D:=if 0<c then(aU ((b - a+c - 1) / c).toNat).map λ(k:Nat)=>.int (a+c*k)else(aU ((a - b+(-c) - 1) / (-c)).toNat).map λ(k:Nat)=>.int (a+c*k)
noncomputable def bu9 (n:Nat):List D->List D
 | []=>[]
 | d::l=>.tup [.int n,d]::bu9 (n+1) l
noncomputable def bT5:List D->List D->List D
 | a::l,b::m=>.tup [a,b]::bT5 l m
 | _,_=>[]
noncomputable def chk (s0 s:Sto)(src:List Nat):Bool:=src.all λ r=>decide (s[r]?=s0[r]?)
noncomputable def tru {α:Type}(r:R D)(f:Bool->Sto->R α):R α:=r.bind λ d s=>match d with|.bl b=>f b s|_=>.bad
@[simp] theorem tru_bl {α:Type} (b:Bool) (s:Sto) (f:Bool->Sto->R α):tru (.ok (.bl b) s) f=f b s:=rfl
noncomputable def ae1 (ok:Sto->Bool)(g:D->Env->Sto->R (Option D×Env)):List D->Env->Sto->R (List D)
 | [],_,s=>if ok s then .ok [] s else .bad
 | d::l,ρ,s=>if ok s then(g d ρ s).bind λ p s=>(ae1 ok g l p.2 s).bind λ r s=>.ok (match p.1 with|some v=>v::r|none=>r) s else .bad
noncomputable def bP3 (l:List D):M D:=λ s=>match af3 l with|some ws=>if ws.flatten.length<=LIM then .ok (.str ws.flatten) s else .bad|none=>.bad
noncomputable def cb3 (F:Fns)(c:String)(x:D):M D:=λ s=>match F.cdc c,x with|some kvs,.str w=>.ok (.bl (kvs.lookup w).isSome) s|_,_=>.bad
noncomputable def bG9 (F:Fns)(c:String)(x:D):M D:=λ s=>match F.cdc c,x with|some kvs,.str w=>(match kvs.lookup w with|some v=>if v.length<=LIM then .ok (.str v) s else .bad|none=>.bad)|_,_=>.bad
mutual
noncomputable def ev (F:Fns):E->Env->Sto->R D
 | .var i,ρ,s=>aA3 ρ i s
 | .cst c,_,s=>.ok c.d s
 | .glob x,_,s=>match F.con x with|some d=>.ok d s|none=>.bad
 | .bin op a b,ρ,s=>(ev F a ρ s).bind λ x s=>(ev F b ρ s).bind λ y s=>ae8 op x y s
 | .neg a,ρ,s=>(ev F a ρ s).bind λ x s=>match x with|.int i=>.ok (.int (-i)) s|_=>.bad
 | .not a,ρ,s=>tru (ev F a ρ s) λ b s=>.ok (.bl (!b)) s
 | .cmp op a b,ρ,s=>(ev F a ρ s).bind λ x s=>(ev F b ρ s).bind λ y s=>qp op x y s
 | .chain o p a b c,ρ,s=>(ev F a ρ s).bind λ x s=>(ev F b ρ s).bind λ y s=>tru (qp o x y s) λ k s=>if k then(ev F c ρ s).bind λ z s=>qp p y z s else .ok (.bl false) s
 | .isN a,ρ,s=>(ev F a ρ s).bind λ x s=>.ok (.bl (decide (x=.non))) s
 | .notN a,ρ,s=>(ev F a ρ s).bind λ x s=>.ok (.bl (!decide (x=.non))) s
 | .isB a b,ρ,s=>(ev F a ρ s).bind λ x s=>match x with|.bl c=>.ok (.bl (c==b)) s|_=>.bad
 | .notB a b,ρ,s=>(ev F a ρ s).bind λ x s=>match x with|.bl c=>.ok (.bl (!(c==b))) s|_=>.bad
 | .and a b,ρ,s=>tru (ev F a ρ s) λ c s=>if c then tru (ev F b ρ s) λ c s=>.ok (.bl c) s else .ok (.bl false) s
 | .or a b,ρ,s=>tru (ev F a ρ s) λ c s=>if c then .ok (.bl true) s else tru (ev F b ρ s) λ c s=>.ok (.bl c) s
 | .ite c a b,ρ,s=>tru (ev F c ρ s) λ k s=>if k then ev F a ρ s else ev F b ρ s
 | .tup es,ρ,s=>(evs F es ρ s).bind λ l s=>.ok (.tup l) s
 | .lst es,ρ,s=>(evs F es ρ s).bind λ l s=>ac7 (.lst l) s
 | .dic .nil .nil,ρ,s=>ac7 (.dic []) s
 | .dic (.cons k .nil) (.cons v .nil),ρ,s=>(ev F k ρ (s++[.dic []])).bind λ kd s1=>(ev F v ρ s1).bind λ vd s2=>if kd.key=true/\s2[s.length]?=some (.dic [])then .ok (.ref s.length) (s2.set s.length (.dic [(kd,vd)]))else .bad
 | .dic _ _,ρ,s=>.bad
 | .dicT,_,s=>ac7 (.dit []) s
 | .dicU k v,ρ,s=>(ev F k ρ (s++[.dit []])).bind λ kd s1=>(ev F v ρ s1).bind λ vd s2=>if kd.keyT=true/\s2[s.length]?=some (.dit [])then .ok (.ref s.length) (s2.set s.length (.dit [(kd,vd)]))else .bad
 | .get2 o k d,ρ,s=>(ev F o ρ s).bind λ x s=>(ev F k ρ s).bind λ y s=>(ev F d ρ s).bind λ z s=>bW6 x y z s
 | .bitl a,ρ,s=>(ev F a ρ s).bind λ x s=>bD5 x s
 | .lrng a,ρ,s=>(ev F a ρ s).bind λ x s=>bJ7 x s
 | .fstr es,ρ,s=>(evs F es ρ s).bind λ l s=>bP3 l s
 | .inC e c,ρ,s=>(ev F e ρ s).bind λ x s=>cb3 F c x s
 | .getC c e,ρ,s=>(ev F e ρ s).bind λ x s=>bG9 F c x s
 | .ix a b,ρ,s=>(ev F a ρ s).bind λ x s=>(ev F b ρ s).bind λ y s=>ixM x y s
 | .slL a lo,ρ,s=>(ev F a ρ s).bind λ x s=>(ev F lo ρ s).bind λ y s=>match y with|.int i=>slM x (some i) none s|_=>.bad
 | .slU a hi,ρ,s=>(ev F a ρ s).bind λ x s=>(ev F hi ρ s).bind λ y s=>match y with|.int i=>slM x none (some i) s|_=>.bad
 | .slLU a lo hi,ρ,s=>(ev F a ρ s).bind λ x s=>(ev F lo ρ s).bind λ y s=>match y with|.int i=>(ev F hi ρ s).bind (λ z s=>match z with|.int j=>slM x (some i) (some j) s|_=>.bad)|_=>.bad
 | .rev a,ρ,s=>(ev F a ρ s).bind λ x s=>bZ3 x s
 | .call f as,ρ,s=>(ag6 F as ρ s).bind λ l s=>F.call f l s
 | .callC f as,ρ,s=>(ag6 F as ρ s).bind λ l s=>(F.call f l s).bind λ d s'=>if(d.ncl&&s'.all O.ncl)=true then .ok d s' else .bad
 | .callV i es,ρ,s=>(evs F es ρ s).bind λ l s=>match ρ[i]? with
  | some (some (.fn f))=>F.call f l s
  | some (some (.clo id cs))=>F.lam id cs l s
  | _=>.bad
 | .bi b es,ρ,s=>(evs F es ρ s).bind λ l s=>bi b l s
 | .mk k it,ρ,s=>(evL F it ρ s).bind λ q s=>mk k q s
 | .mkD k it d,ρ,s=>(evL F it ρ s).bind λ q s=>(ev F d ρ s).bind λ d s=>mkD k q d s
 | .meth m o es,ρ,s=>(ev F o ρ s).bind λ x s=>(evs F es ρ s).bind λ l s=>meth m x l s
 | .ext o it,ρ,s=>(ev F o ρ s).bind λ x s=>(evL F it ρ s).bind λ q s=>bJ0 x q s
 | .extS o e,ρ,s=>(ev F o ρ s).bind λ x s=>(ev F e ρ s).bind λ y s=>extS x y s
 | .join o e,ρ,s=>(ev F o ρ s).bind λ x s=>(ev F e ρ s).bind λ y s=>bq6 x y s
 | .mks k e,ρ,s=>(ev F e ρ s).bind λ x s=>(bi2 x s).bind λ q s=>mk k q s
 | .mkDs k e d,ρ,s=>(ev F e ρ s).bind λ x s=>(ev F d ρ s).bind λ z s=>(bi2 x s).bind λ q s=>mkD k q z s
 | .minK _ e j,ρ,s=>(ev F e ρ s).bind λ x s=>(bi2 x s).bind λ q s=>bx7 j q s
 | .spl o c,ρ,s=>(ev F o ρ s).bind λ x s=>ca1 c x s
noncomputable def evs (F:Fns):Es->Env->Sto->R (List D)
 | .nil,_,s=>.ok [] s
 | .cons e es,ρ,s=>(ev F e ρ s).bind λ d s=>(evs F es ρ s).bind λ l s=>.ok (d::l) s
noncomputable def ag6 (F:Fns):As->Env->Sto->R (List D)
 | .nil,_,s=>.ok [] s
 | .ex e as,ρ,s=>(ev F e ρ s).bind λ d s=>(ag6 F as ρ s).bind λ l s=>.ok (d::l) s
 | .lam id caps as,ρ,s=>match bA1 ρ caps with
  | some cs=>(ag6 F as ρ s).bind λ l s=>.ok (.clo id cs::l) s
  | none=>.bad
 | .fn f as,ρ,s=>(ag6 F as ρ s).bind λ l s=>.ok (.fn f::l) s
noncomputable def evI (F:Fns):I->Env->Sto->R Sq
 | .seq e,ρ,s=>(ev F e ρ s).bind λ d s=>aO2 d s
 | .rng1 a,ρ,s=>(ev F a ρ s).bind λ x s=>match x with|.int i=>if -W62<=i/\i<W62 then .ok ⟨zW 0 i,[]⟩ s else .bad|_=>.bad
 | .rng2 a b,ρ,s=>(ev F a ρ s).bind λ x s=>(ev F b ρ s).bind λ y s=>match x,y with|.int i,.int j=>if(-W62<=i/\i<W62)/\-W62<=j/\j<W62 then .ok ⟨zW i j,[]⟩ s else .bad|_,_=>.bad
 | .rng3 a b c,ρ,s=>(ev F a ρ s).bind λ x s=>(ev F b ρ s).bind λ y s=>match x,y with|.int i,.int j=>if c=2/\(0<=i/\i<1048576)/\0<=j/\j<1048576 then .ok ⟨cf2 i j c,[]⟩ s else .bad|_,_=>.bad
 | .rngD a,ρ,s=>(ev F a ρ s).bind λ x s=>match x with|.int i=>if 0<=i/\i<1048576 then .ok ⟨ca2 i,[]⟩ s else .bad|_=>.bad
 | .enum (.seq e),ρ,s=>(ev F e ρ s).bind λ d s=>(ba2 d s).bind λ q s=>.ok ⟨bu9 0 q.its,q.src⟩ s
 | .zip (.seq a) (.seq b),ρ,s=>(ev F a ρ s).bind λ x s=>(ev F b ρ s).bind λ y s=>(aL1 x s).bind λ p s=>(aL1 y s).bind λ q s=>.ok ⟨bT5 p.its q.its,p.src++q.src⟩ s
 | .enum _,_,_=>.bad
 | .zip _ _,_,_=>.bad
 | .items e,ρ,s=>.bad
noncomputable def evL (F:Fns):L->Env->Sto->R (List D)
 | .comp tg it e caps,ρ,s=>(evI F it ρ s).bind λ q s0=>if q.its.length<=LIM then ae1 (λ s=>chk s0 s q.src) (λ d ρ s=>match zN ρ tg d with
   | some ρ=>(ev F e ρ s).bind λ v s=>.ok (some v,ρ) s
   | none=>.bad) q.its (zZ ρ caps) s0 else .bad
 | .compIf tg it c e caps,ρ,s=>(evI F it ρ s).bind λ q s0=>if q.its.length<=LIM then ae1 (λ s=>chk s0 s q.src) (λ d ρ s=>match zN ρ tg d with
   | some ρ=>tru (ev F c ρ s) λ k s=>if k then(ev F e ρ s).bind λ v s=>.ok (some v,ρ) s else .ok (none,ρ) s
   | none=>.bad) q.its (zZ ρ caps) s0 else .bad
 | .disp es,ρ,s=>evs F es ρ s
 | .seq e,ρ,s=>(ev F e ρ s).bind λ d s=>bj7 d s
 | .itm e,ρ,s=>(ev F e ρ s).bind λ d s=>bX8 d s
end
inductive Ct where
 | next (ρ:Env)|ret (d:D)|cont (ρ:Env)|brk (ρ:Env)
noncomputable def qz (ok:Sto->Bool)(g:D->Env->Sto->R Ct):List D->Env->Sto->R Ct
 | [],ρ,s=>if ok s then .ok (.next ρ) s else .bad
 | d::l,ρ,s=>if ok s then(g d ρ s).bind λ c s=>match c with
   | .next ρ=>qz ok g l ρ s
   | .cont ρ=>qz ok g l ρ s
   | .brk ρ=>.ok (.next ρ) s
   | .ret d=>.ok (.ret d) s
  else .bad
noncomputable def qW (c:Env->Sto->R D)(g:Env->Sto->R Ct):Nat->Env->Sto->R Ct
 | 0,_,_=>.bad
 | n+1,ρ,s=>tru (c ρ s) λ b s=>if b then(g ρ s).bind λ c' s=>match c' with
   | .next ρ=>qW c g n ρ s
   | .cont ρ=>qW c g n ρ s
   | .brk ρ=>.ok (.next ρ) s
   | .ret d=>.ok (.ret d) s
  else .ok (.next ρ) s
open Classical in
noncomputable def whl (c:Env->Sto->R D)(g:Env->Sto->R Ct)(ρ:Env)(s:Sto):R Ct :=
 if h:∃ n,qW c g n ρ s≠.bad then qW c g h.choose ρ s else .bad
mutual
noncomputable def ex (F:Fns):S->Env->Sto->R Ct
 | .asg tg e,ρ,s=>(ev F e ρ s).bind λ d s=>match zN ρ tg d with|some ρ=>.ok (.next ρ) s|none=>.bad
 | .setIx o i e,ρ,s=>(ev F e ρ s).bind λ d s=>(ev F o ρ s).bind λ x s=>(ev F i ρ s).bind λ y s=>(setIx x y d s).bind λ _ s=>.ok (.next ρ) s
 | .aug i e,ρ,s=>(aA3 ρ i s).bind λ x s=>(ev F e ρ s).bind λ y s=>match x,y with
  | .int a,.int b=>match an3 ρ i (.int (a+b))with|some ρ=>.ok (.next ρ) s|none=>.bad
  | _,_=>.bad
 | .ex e,ρ,s=>(ev F e ρ s).bind λ _ s=>.ok (.next ρ) s
 | .ret e,ρ,s=>(ev F e ρ s).bind λ d s=>.ok (.ret d) s
 | .retN,_,s=>.ok (.ret .non) s
 | .ite c a b,ρ,s=>tru (ev F c ρ s) λ k s=>if k then exs F a ρ s else exs F b ρ s
 | .whl c b,ρ,s=>whl (ev F c) (exs F b) ρ s
 | .for_ tg it b,ρ,s=>(evI F it ρ s).bind λ q s0=>qz (λ s=>chk s0 s q.src) (λ d ρ s=>match zN ρ tg d with
   | some ρ=>exs F b ρ s
   | none=>.bad) q.its ρ s0
 | .pass,ρ,s=>.ok (.next ρ) s
 | .cont,ρ,s=>.ok (.cont ρ) s
 | .brk,ρ,s=>.ok (.brk ρ) s
 | .raise,_,_=>.bad
 | .und i,ρ,s=>match ak1 ρ i with|some ρ=>.ok (.next ρ) s|none=>.bad
noncomputable def exs (F:Fns):Ss->Env->Sto->R Ct
 | .nil,ρ,s=>.ok (.next ρ) s
 | .cons st ss,ρ,s=>(ex F st ρ s).bind λ c s=>match c with|.next ρ=>exs F ss ρ s|c=>.ok c s
end
structure Df where
 name:String
 ps:Nat
 vs:Nat
 body:Ss
structure Lm where
 id:String
 ps:Nat
 cs:Nat
 body:E
inductive HT where
 | ve
 | isi (cs:List String)|one (c:String)|not (t:HT)|or (a b:HT)
inductive Hd where
 | ret (t:HT)|iff (t:HT) (b:Bool) (h:Hd)|nob (b:Bool)|noe|iffN (t:HT) (h:Hd)|aoN (a b:HT)|sup (x:String) (h:Hd)
noncomputable def subC (c d:String):Bool:=c==d||(d == "TollError"||d == "ValueError")
noncomputable def HT.val (c:String):HT->Bool
 | .isi cs=>cs.any (subC c)
 | .one d=>subC c d
 | .not t=>!t.val c
 | .or a b=>if a.val c then true else b.val c
 | .ve=>true
noncomputable def HT.ok (p:String->Bool):HT->Bool
 | .isi cs=>cs.all p
 | .one d=>p d
 | .not t=>t.ok p
 | .or a b=>a.ok p&&b.ok p
 | .ve=>true
noncomputable def Hd.val (c:String):Hd->Bool
 | .ret t=>t.val c
 | .iff t b h=>if t.val c then b else h.val c
 | .nob b=>b
 | .noe=>false
 | .iffN _ h=>h.val c
 | .aoN a b=>a.val c&&b.val c
 | .sup _ h=>h.val c
noncomputable def Hd.ok (p:String->Bool):Hd->Bool
 | .ret t=>t.ok p
 | .iff t _ h=>t.ok p&&h.ok p
 | .nob _=>true
 | .noe=>true
 | .iffN t h=>t.ok p&&h.ok p
 | .aoN a b=>a.ok p&&b.ok p
 | .sup x h=>p x&&h.ok p
noncomputable def Hd.vD (c:String):Hd->D
 | .ret t=>.bl (t.val c)
 | .iff t b h=>if t.val c then .bl b else h.vD c
 | .nob b=>.bl b
 | .noe=>.non
 | .iffN t h=>if t.val c then .non else h.vD c
 | .aoN a b=>if a.val c then(if b.val c then .bl true else .non)else .non
 | .sup _ h=>h.vD c
noncomputable def Hd.cls (c:String):Hd->String
 | .sup x _=>x|_=>c
noncomputable def Hd.supOk (c:String):Hd->Bool
 | .sup x _=>subC c x|_=>true
noncomputable def Hd.nn:Hd->Bool
 | .nob _=>true|.noe=>true|_=>false
noncomputable def af7 (ok:Sto->Bool)(g:D->Env->Sto->R Ct)(gx:D->Env->Sto->Option (String×Sto)):List D->Env->Sto->Option (String×Sto)
 | [],_,_=>none
 | d::l,ρ,s=>if ok s then match g d ρ s with
   | .ok (.next ρ1) s1=>af7 ok g gx l ρ1 s1
   | .ok (.cont ρ1) s1=>af7 ok g gx l ρ1 s1
   | .ok _ _=>none
   | _=>gx d ρ s
  else none
noncomputable def zL (c:Env->Sto->R D)(g:Env->Sto->R Ct)(gx:Env->Sto->Option (String×Sto)):Nat->Env->Sto->Option (String×Sto)
 | 0,_,_=>none
 | n+1,ρ,s=>match c ρ s with
  | .ok (.bl true) s1=>match g ρ s1 with
   | .ok (.next ρ1) s2=>zL c g gx n ρ1 s2
   | .ok (.cont ρ1) s2=>zL c g gx n ρ1 s2
   | .ok _ _=>none
   | _=>gx ρ s1
  | _=>none
open Classical in
noncomputable def whlX (c:Env->Sto->R D)(g:Env->Sto->R Ct)(gx:Env->Sto->Option (String×Sto))(ρ:Env)(s:Sto):Option (String×Sto):=if h:∃ n,(zL c g gx n ρ s).isSome=true then zL c g gx h.choose ρ s else none
inductive XB where
 | no|rais (c:String)|call (f:String) (as:As)|iteT (c:E) (a r:XB)|seq (s:S) (b:XB)
 | iteE (c:E) (a r:XB)|forX (tg:Tg) (it:I) (b:Ss) (x:XB)|whlX (c:E) (b:Ss) (x:XB)
noncomputable def xB (F:Fns):XB->Env->Sto->Option (String×Sto)
 | .no,_,_=>none
 | .rais c,_,s=>if F.xc c=true then some (c,s)else none
 | .call f as,ρ,s=>match ag6 F as ρ s with|.ok l s1=>F.xcall f l s1|_=>none
 | .iteT c a r,ρ,s=>match ev F c ρ s with|.ok (.bl b) s1=>if b then xB F a ρ s1 else xB F r ρ s1|_=>none
 | .seq st b,ρ,s=>match ex F st ρ s with|.ok (.next ρ1) s1=>xB F b ρ1 s1|_=>none
 | .forX tg it b x,ρ,s=>match evI F it ρ s with
  | .ok q s0=>af7 (λ s=>chk s0 s q.src) (λ d ρ s=>match zN ρ tg d with
   | some ρ=>exs F b ρ s
   | none=>.bad) (λ d ρ s=>match zN ρ tg d with
   | some ρ=>xB F x ρ s
   | none=>none) q.its ρ s0
  | _=>none
 | .iteE c a r,ρ,s=>match ev F c ρ s with|.ok (.bl b) s1=>if b then xB F a ρ s1 else xB F r ρ s1|_=>none
 | .whlX c b x,ρ,s=>DV.whlX (ev F c) (exs F b) (xB F x) ρ s
structure Xf where
 ps:Nat
 vs:Nat
 body:XB
structure Tf where
 ps:Nat
 vs:Nat
 body:Ss
 xb:XB
 c:String
 i:Nat
 h:Hd
 tl:Ss
structure Pr where
 df:String->Option Df
 lm:String->Option Lm
 con:String->Option D
 xf:String->Option Xf
 tf:String->Option Tf
 xc:String->Bool
 xt:String->Bool
 cdc:String->Option (List (List Nat×List Nat))
noncomputable def ak9 (st st':Sto):Bool:=(aU st.length).all λ i=>decide (st'[i]?=st[i]?)||(match st'[i]? with|some o=>o.bnd st.length|none=>false)
noncomputable def zq (st:Sto)(d:D)(st':Sto):R D :=
 if ak9 st st' then
  match d with
  | .ref r=>if r<st.length then .ok d (st'.take st.length)else match st'[r]? with
   | some o=>if o.bnd st.length then .ok (.ref st.length) (st'.take st.length++[o])else .ok d st'
   | none=>.bad
  | d=>if d.bnd st.length then .ok d (st'.take st.length)else .ok d st'
 else .ok d st'
noncomputable def Hd.out (h:Hd)(c:String)(s s':Sto):R D:=match h with
 | .noe=>zq s (.ref s'.length) (s'++[.lst []])
 | h=>zq s (h.vD c) s'
noncomputable def bf9 (F:Fns)(d:Tf)(l:List D)(s:Sto):R D:=match xB F d.xb (l.map some++aq d.vs none) s with
 | some (c,s')=>if c=d.c/\F.xc c=true/\d.h.ok F.xt=true then d.h.out c s s' else .bad
 | none=>(exs F d.body (l.map some++aq d.vs none) s).bind λ c s1=>match c with
  | .ret v=>zq s v s1
  | .next ρ=>(exs F d.tl ρ s1).bind λ c s2=>match c with
   | .ret v=>zq s v s2
   | .next _=>zq s .non s2
   | _=>.bad
  | _=>.bad
noncomputable def aa0 (P:Pr):Nat->Fns
 | 0=>⟨λ _ _ _=>.bad,λ _ _ _ _=>.bad,P.con,λ _ _ _=>none,P.xc,P.xt,P.cdc⟩
 | n+1=>⟨λ f l s=>match P.df f with
   | some d=>if l.length=d.ps then(exs (aa0 P n) d.body (l.map some++aq d.vs none) s).bind λ c s'=>match c with
     | .ret v=>zq s v s'
     | .next _=>zq s .non s'
     | _=>.bad else .bad
   | none=>match P.tf f with
    | some d=>if l.length=d.ps then bf9 (aa0 P n) d l s else .bad
    | none=>.bad,
  λ id cs l s=>match P.lm id with
   | some d=>if l.length=d.ps/\cs.length=d.cs/\(D.nclL l&&D.nclL cs&&s.all O.ncl)=true then(ev (aa0 P n) d.body (l.map some++cs.map some) s).bind λ v s'=>zq s v s' else .bad
   | none=>.bad,P.con,
  λ f l s=>match P.xf f with
   | some d=>if l.length=d.ps then xB (aa0 P n) d.body (l.map some++aq d.vs none) s else none
   | none=>none,P.xc,P.xt,P.cdc⟩
def KP (s s':Sto):Prop:=∀(i:Nat) (o:O),s[i]?=some o->∃ o',s'[i]?=some o'/\o'.kd=o.kd
theorem KP.refl (s:Sto):KP s s:=λ i o h=>⟨o,h,rfl⟩
theorem KP.trans {a b c:Sto}(h:KP a b)(g:KP b c):KP a c:=λ i o e=>by
 obtain⟨F,e1,k1⟩:=h i o e
 obtain⟨B,e2,k2⟩:=g i F e1
 exact⟨B,e2,k2.trans k1⟩
theorem KP.app (s t:Sto):KP s (s++t):=λ i o e=>⟨o,by rw[aL (ah.mp e).1];exact e,rfl⟩
theorem KP.set {s:Sto}{r:Nat}{o B:O}(h:s[r]?=some B)(k:o.kd=B.kd):KP s (s.set r o):=λ i u e=>by
 by_cases z:r=i
 ·subst z
  rw[h]at e;cases e
  exact⟨o,aO (ah.mp h).1,k⟩
 ·exact⟨u,by rw[aZ z];exact e,rfl⟩
def KR {α:Type}(s:Sto)(r:R α):Prop:=∀ a s',r=.ok a s'->KP s s'
theorem KR.bad {α:Type}{s:Sto}:KR s (.bad:R α):=λ _ _ h=>by cases h
theorem KR.ok {α:Type}{s:Sto}{a:α}:KR s (.ok a s):=λ _ _ h=>by cases h;exact KP.refl _
theorem KR.bind {α β:Type}{s:Sto}{r:R α}{f:α->Sto->R β}(h:KR s r)(g:∀ a s1,KR s1 (f a s1)):KR s (r.bind f):=λ b s' e=>by
 obtain⟨a,s1,e1,e2⟩:=R.bind_inv e
 exact(h a s1 e1).trans (g a s1 b s' e2)
theorem KR.tru {α:Type}{s:Sto}{r:R D}{f:Bool->Sto->R α}(h:KR s r)(g:∀ a s1,KR s1 (f a s1)):KR s (tru r f):=KR.bind h λ a s1=>by
 cases a with
 | bl b=>exact g b s1
 | _=>exact KR.bad
theorem KR.if {α:Type}{s:Sto}{c:Prop}[Decidable c]{a b:R α}(h:KR s a)(g:KR s b):KR s (if c then a else b):=by split;exact h;exact g
theorem KR.al {s:Sto}{o:O}:KR s (ac7 o s):=λ _ _ h=>by cases h;exact KP.app _ _
theorem KR.pu {s:Sto}{d:D}:KR s (pur d s):=λ _ _ h=>by cases h;exact KP.refl _
theorem KR.bd {s:Sto}:KR s ((DV.bad:M D) s):=λ _ _ h=>by cases h
theorem KR.im {s:Sto}{c:Prop}{_:Decidable c}{d:D}:KR s ((if c then pur d else DV.bad:M D) s):=by split;exact KR.pu;exact KR.bd
theorem KR.ia {s:Sto}{c:Prop}{_:Decidable c}{o:O}:KR s (if c then ac7 o s else .bad):=KR.if KR.al KR.bd
theorem bb4 (op:BOp)(x y:D)(s:Sto):KR s (ae8 op x y s):=by
 cases op with
 | add=>cases x with
  | int a=>cases y with
   | int b=>exact KR.pu
   | _=>exact KR.bd
  | str a=>cases y with
   | str b=>exact KR.im
   | _=>exact KR.bd
  | tup a=>cases y with
   | tup b=>exact KR.im
   | _=>exact KR.bd
  | ref a=>cases y with
   | ref b =>
    show KR s (match s[a]?,s[b]? with|some (.lst l),some (.lst m)=>if l.length+m.length<=LIM then ac7 (.lst (l++m)) s else .bad|_,_=>.bad)
    split
    ·exact KR.ia
    ·exact KR.bd
   | _=>exact KR.bd
  | _=>exact KR.bd
 | sub=>intro a s' h;exact absurd h (by nofun)
 | mul=>cases x with
  | int a=>cases y with
   | int b=>exact KR.im
   | _=>exact KR.bd
  | str a=>cases y with
   | int b=>exact KR.im
   | _=>exact KR.bd
  | tup a=>cases y with
   | int b=>exact KR.im
   | _=>exact KR.bd
  | ref a=>cases y with
   | int n =>
    show KR s (match s[a]? with|some (.lst l)=>if 0<=n/\n<=1000000/\l.length*n.toNat<=LIM then ac7 (.lst (aO5 n.toNat l)) s else .bad|_=>.bad)
    split
    ·exact KR.ia
    ·exact KR.bd
   | _=>exact KR.bd
  | _=>exact KR.bd
 | fdiv=>cases x with
  | int a=>cases y with
   | int b=>exact KR.im
   | _=>exact KR.bd
  | _=>exact KR.bd
 | mod=>cases x with
  | int a=>cases y with
   | int b=>exact KR.im
   | _=>exact KR.bd
  | _=>exact KR.bd
 | pow=>cases x with
  | int a=>cases y with
   | int b=>exact KR.im
   | _=>exact KR.bd
  | _=>exact KR.bd
 | shl=>cases x with
  | int a=>cases y with
   | int b=>exact KR.im
   | _=>exact KR.bd
  | _=>exact KR.bd
 | shr=>intro a s' h;exact absurd h (by nofun)
 | band=>intro a s' h;exact absurd h (by nofun)
 | _=>exact KR.bd
theorem aU6 (op:COp)(x y:D)(s:Sto):KR s (qp op x y s):=by
 have B:∀ a b:D,KR s (inM a b s):=λ a b=>by
  intro r s' h
  unfold inM at h
  split at h
  ·split at h<;>cases h;exact KP.refl _
  ·split at h
   ·split at h<;>cases h;exact KP.refl _
   ·split at h<;>cases h;exact KP.refl _
   ·split at h<;>cases h;exact KP.refl _
   ·cases h
  ·split at h<;>cases h;exact KP.refl _
  ·cases h
 cases op with
 | isin=>exact KR.bind (B x y) λ _ _=>KR.ok
 | notin=>exact KR.bind (B x y) λ _ _=>KR.ok
 | eq=>intro a s' h;change eqM x y s=_ at h;unfold eqM at h;split at h<;>cases h;exact KP.refl _
 | ne =>
  intro a s' h
  change(match eqv s DEEP x y with|some r=>R.ok (D.bl (!r)) s|none=>.bad)=_ at h
  split at h<;>cases h;exact KP.refl _
 | _ =>
  intro a s' h
  cases x with
  | int i=>(cases y with
   | int j=>cases h<;>exact KP.refl _
   | _=>cases h)
  | _=>cases h
theorem bW2 (x y:D)(s:Sto):KR s (ixM x y s):=by
 intro a s' h
 unfold ixM at h
 repeat' split at h
 all_goals first|(cases h;exact KP.refl _;done)|(cases h;done)
theorem bB5 (x:D)(F B:Option Int)(s:Sto):KR s (slM x F B s):=by
 intro a s' h
 unfold slM at h
 repeat' split at h
 all_goals first|(cases h;exact KP.refl _;done)|(cases h;exact KP.app _ _;done)|(cases h;done)
theorem bo2 (x:D)(s:Sto):KR s (bj7 x s):=by
 intro a s' h
 unfold bj7 at h
 repeat' split at h
 all_goals first|(cases h;exact KP.refl _;done)|(cases h;done)
theorem aD3 (x:D)(s:Sto):KR s (bi2 x s):=by
 intro a s' h
 unfold bi2 at h
 repeat' split at h
 all_goals first|(cases h;exact KP.refl _;done)|(cases h;done)
theorem bp0 (x:D)(s:Sto):KR s (aO2 x s):=by
 intro a s' h
 unfold aO2 at h
 repeat' split at h
 all_goals first|(cases h;exact KP.refl _;done)|(cases h;done)
theorem aF4 (x:D)(s:Sto):KR s (aL1 x s):=by
 intro a s' h
 unfold aL1 at h
 repeat' split at h
 all_goals first|(cases h;exact KP.refl _;done)|(cases h;done)
theorem bb1 (x:D)(s:Sto):KR s (ba2 x s):=by
 intro a s' h
 unfold ba2 at h
 repeat' split at h
 all_goals first|(cases h;exact KP.refl _;done)|(cases h;done)
theorem bo6 (x y:D)(s:Sto):KR s (bq6 x y s):=by
 intro a s' h
 unfold bq6 at h
 repeat' split at h
 all_goals first|(cases h;exact KP.refl _;done)|(cases h;done)
theorem bv0 (l:List D)(s:Sto):KR s (aV8 l s):=by
 intro a s' h
 unfold aV8 at h
 split at h
 ·split at h<;>cases h;exact KP.refl _
 ·cases h;exact KP.refl _
 ·cases h
theorem bq0 (l:List D)(s:Sto):KR s (aO1 l s):=by
 intro a s' h
 unfold aO1 at h
 split at h
 ·split at h<;>cases h;exact KP.refl _
 ·cases h
theorem bV5 (b:Bi)(l:List D)(s:Sto):KR s (bi b l s):=by
 have k1:∀ f:D->M D,(∀ d,KR s (f d s))->KR s (bi1 f l s):=λ f B=>by
  cases l with
  | nil=>exact KR.bad
  | cons d t=>(cases t with
   | nil=>exact B d
   | cons _ _=>exact KR.bad)
 have k2:∀ k d,KR s (isK k d s):=λ k d=>by
  intro a s' h
  unfold isK at h
  repeat' split at h
  all_goals first|(cases h;exact KP.refl _;done)|(cases h;done)
 have k3:∀ d,KR s (bv1 d s):=λ d=>by
  intro a s' h
  unfold bv1 at h
  repeat' split at h
  all_goals first|(cases h;exact KP.refl _;done)|(cases h;done)
 cases b with
 | len=>exact k1 _ k3
 | isInt=>exact k1 _ (k2 1)
 | isBool=>exact k1 _ (k2 2)
 | isStr=>exact k1 _ (k2 3)
 | isTup=>exact k1 _ (k2 4)
 | isList=>exact k1 _ (k2 5)
 | str=>exact bv0 l s
 | int =>
  intro a s' h
  have h:(match an5 l with|some [b]=>R.ok (D.int (if b then 1 else 0)) s|some _=>.bad|none=>aO1 l s)=.ok a s':=h
  split at h
  ·cases h;exact KP.refl _
  ·cases h
  ·exact bq0 l s a s' h
 | _ =>
  intro a s' h
  unfold bi at h
  first|(cases h;done)|(simp only at h;split at h<;>first|(cases h;exact KP.refl _;done)|(cases h;done))
theorem bQ6 (k:Mk)(l:List D)(s:Sto):KR s (mk k l s):=by
 cases k with
 | tuple=>exact KR.ok
 | list=>exact KR.al
 | lenset=>exact KR.bad
 | _ =>
  intro a s' h
  unfold mk at h
  simp only at h
  repeat' split at h
  all_goals first|(cases h;exact KP.refl _;done)|(cases h;exact KP.app _ _;done)|(cases h;done)
theorem bl4 (k:Mk)(l:List D)(d:D)(s:Sto):KR s (mkD k l d s):=by
 intro a s' h
 unfold mkD at h
 repeat' split at h
 all_goals first|(cases h;exact KP.refl _;done)|(cases h;done)
theorem br8 (m : Mt) (o : D) (l : List D) (s : Sto) : KR s (meth m o l s) := by
  have lc : ∀ {r : Nat} {f : List D -> R D}, (∀ l, s[r]? = some (.lst l) -> KR s (f l)) -> KR s (match s[r]? with|some (.lst l) => f l|_ => .bad : R D) := λ {r f} h => by
    cases e : s[r]? with
    | none => exact KR.bad
    | some ob => cases ob with
      | lst l => exact h l e
      | _ => exact KR.bad
  cases o with
  | ref r => cases m with
    | append => match l with
      | [d] => exact lc λ l e => KR.if (λ _ _ h => by cases h; exact KP.set e rfl) KR.bad
      | [] => exact KR.bd
      | _ :: _ :: _ => exact KR.bd
    | pop => match l with
      | [] => exact lc λ l e => by
                show KR s (match l.getLast? with|some d => R.ok d (s.set r (.lst l.dropLast))|none => .bad : R D)
                split
                · exact λ _ _ h => by cases h; exact KP.set e rfl
                · exact KR.bad
      | _ :: _ => exact KR.bd
    | reverse => match l with
      | [] => exact lc λ l e => λ _ _ h => by cases h; exact KP.set e rfl
      | _ :: _ => exact KR.bd
    | clear => match l with
      | [] => exact lc λ l e => λ _ _ h => by cases h; exact KP.set e rfl
      | _ :: _ => exact KR.bd
    | index => match l with
      | [d] => exact lc λ l e => by
                show KR s (match inL s d l, idx s d 0 l with|some true, some n => R.ok (.int n) s|_, _ => .bad : R D)
                split
                · exact λ _ _ h => by cases h; exact KP.refl _
                · exact KR.bad
      | [] => exact KR.bd
      | _ :: _ :: _ => exact KR.bd
    | _ => exact KR.bd
  | _ => cases m <;> exact KR.bd
theorem aS6 (o:D)(l:List D)(s:Sto):KR s (bJ0 o l s):=by
 intro a s' h
 unfold bJ0 at h
 repeat' split at h
 all_goals first|(cases h;done)|(rename_i e _;cases h;exact KP.set e rfl;done)
theorem bf1 (o i v:D)(s:Sto):KR s (setIx o i v s):=by
 intro a s' h
 unfold setIx at h
 cases o with
 | ref r =>
  simp only at h
  cases e:s[r]? with
  | none=>rw[e]at h;cases h
  | some ob =>
   rw[e]at h
   cases ob with
   | lst l =>
    cases i with
    | int k=>simp only at h;split at h<;>cases h;exact KP.set e rfl
    | _=>cases h
   | dic l=>simp only at h;split at h<;>cases h;exact KP.set e rfl
   | dit l=>simp only at h;split at h<;>cases h;exact KP.set e rfl
   | _=>cases h
 | _=>cases h
theorem bB7 (o k e:D)(s:Sto):KR s (bW6 o k e s):=by
 intro a s' h
 unfold bW6 at h
 repeat' split at h
 all_goals first|(cases h;exact KP.refl _;done)|(cases h;done)
theorem bu0 (d:D)(s:Sto):KR s (bX8 d s):=by
 intro a s' h
 unfold bX8 at h
 repeat' split at h
 all_goals first|(cases h;exact KP.refl _;done)|(cases h;done)
structure FK (F:Fns):Prop where
 call:∀ f l s,KR s (F.call f l s)
 lam:∀ id cs l s,KR s (F.lam id cs l s)
 xcall:∀ f l s c s',F.xcall f l s=some (c,s')->KP s s'
theorem at2 {ok:Sto->Bool}{g:D->Env->Sto->R (Option D×Env)}(hg:∀ d ρ s,KR s (g d ρ s)):∀(l:List D) (ρ:Env) (s:Sto),KR s (ae1 ok g l ρ s)
 | [],ρ,s=>KR.if KR.ok KR.bad
 | d::l,ρ,s=>KR.if (KR.bind (hg d ρ s) λ p s1=>KR.bind (at2 hg l p.2 s1) λ r s2=>KR.ok) KR.bad
section
variable {F:Fns} (hF:FK F)
theorem aW5 (ρ:Env)(i:Nat)(s:Sto):KR s (aA3 ρ i s):=by
 intro a s' h
 unfold aA3 at h
 split at h<;>cases h;exact KP.refl _
include hF
mutual
theorem zb:∀(e:E) (ρ:Env) (s:Sto),KR s (ev F e ρ s)
 | .var i,ρ,s=>aW5 ρ i s
 | .cst c,ρ,s=>KR.ok
 | .glob x,ρ,s=>by
  intro a s' h
  change(match F.con x with|some d=>R.ok d s|none=>.bad)=_ at h
  split at h<;>cases h;exact KP.refl _
 | .bin op a b,ρ,s=>KR.bind (zb a ρ s) λ x s=>KR.bind (zb b ρ s) λ y s=>bb4 op x y s
 | .neg a,ρ,s=>KR.bind (zb a ρ s) λ x s=>by
  cases x with
  | int i=>exact KR.ok
  | _=>exact KR.bad
 | .not a,ρ,s=>KR.tru (zb a ρ s) λ b s=>KR.ok
 | .cmp op a b,ρ,s=>KR.bind (zb a ρ s) λ x s=>KR.bind (zb b ρ s) λ y s=>aU6 op x y s
 | .chain o p a b c,ρ,s=>KR.bind (zb a ρ s) λ x s=>KR.bind (zb b ρ s) λ y s=>KR.tru (aU6 o x y s) λ k s=>KR.if (KR.bind (zb c ρ s) λ z s=>aU6 p y z s) KR.ok
 | .isN a,ρ,s=>KR.bind (zb a ρ s) λ x s=>KR.ok
 | .notN a,ρ,s=>KR.bind (zb a ρ s) λ x s=>KR.ok
 | .isB a b,ρ,s=>KR.bind (zb a ρ s) λ x s=>by
  cases x with
  | bl i=>exact KR.ok
  | _=>exact KR.bad
 | .notB a b,ρ,s=>KR.bind (zb a ρ s) λ x s=>by
  cases x with
  | bl i=>exact KR.ok
  | _=>exact KR.bad
 | .and a b,ρ,s=>KR.tru (zb a ρ s) λ c s=>KR.if (KR.tru (zb b ρ s) λ c s=>KR.ok) KR.ok
 | .or a b,ρ,s=>KR.tru (zb a ρ s) λ c s=>KR.if KR.ok (KR.tru (zb b ρ s) λ c s=>KR.ok)
 | .ite c a b,ρ,s=>KR.tru (zb c ρ s) λ k s=>KR.if (zb a ρ s) (zb b ρ s)
 | .tup es,ρ,s=>KR.bind (ae4 es ρ s) λ l s=>KR.ok
 | .lst es,ρ,s=>KR.bind (ae4 es ρ s) λ l s=>KR.al
 | .dic .nil .nil,ρ,s=>KR.al
 | .dic (.cons k .nil) (.cons v .nil),ρ,s=>by
  intro a s' h
  obtain⟨kd,s1,e1,h⟩:=R.bind_inv (show(ev F k ρ (s++[.dic []])).bind _=_ from h)
  obtain⟨B,s2,e2,h⟩:=R.bind_inv h
  split at h
  case isFalse=>cases h
  rename_i hc
  cases h
  exact((KP.app _ _).trans ((zb k ρ _ _ _ e1).trans (zb v ρ _ _ _ e2))).trans (KP.set hc.2 rfl)
 | .dic .nil (.cons _ _),ρ,s=>KR.bad
 | .dic (.cons _ .nil) .nil,ρ,s=>KR.bad
 | .dic (.cons _ .nil) (.cons _ (.cons _ _)),ρ,s=>KR.bad
 | .dic (.cons _ (.cons _ _)) _,ρ,s=>KR.bad
 | .dicT,ρ,s=>KR.al
 | .dicU k v,ρ,s=>by
  intro a s' h
  obtain⟨kd,s1,e1,h⟩:=R.bind_inv (show(ev F k ρ (s++[.dit []])).bind _=_ from h)
  obtain⟨B,s2,e2,h⟩:=R.bind_inv h
  split at h
  case isFalse=>cases h
  rename_i hc
  cases h
  exact((KP.app _ _).trans ((zb k ρ _ _ _ e1).trans (zb v ρ _ _ _ e2))).trans (KP.set hc.2 rfl)
 | .fstr es,ρ,s=>KR.bind (ae4 es ρ s) λ x s=>by
  intro a s' h
  unfold bP3 at h
  split at h
  ·split at h<;>cases h;exact KP.refl _
  ·cases h
 | .inC e c,ρ,s=>KR.bind (zb e ρ s) λ x s=>by
  intro a s' h
  unfold cb3 at h
  split at h<;>cases h;exact KP.refl _
 | .getC c e,ρ,s=>KR.bind (zb e ρ s) λ x s=>by
  intro a s' h
  unfold bG9 at h
  split at h
  ·split at h
   ·split at h<;>cases h;exact KP.refl _
   ·cases h
  ·cases h
 | .bitl a,ρ,s=>KR.bind (zb a ρ s) λ x s=>by
  intro a s' h
  unfold bD5 at h
  repeat' split at h
  all_goals first|(cases h;exact KP.refl _;done)|(cases h;done)
 | .lrng a,ρ,s=>KR.bind (zb a ρ s) λ x s=>by
  intro a s' h
  unfold bJ7 at h
  repeat' split at h
  all_goals first|(cases h;exact KP.app _ _;done)|(cases h;done)
 | .get2 o k d,ρ,s=>KR.bind (zb o ρ s) λ x s=>KR.bind (zb k ρ s) λ y s=>KR.bind (zb d ρ s) λ z s=>bB7 x y z s
 | .ix a b,ρ,s=>KR.bind (zb a ρ s) λ x s=>KR.bind (zb b ρ s) λ y s=>bW2 x y s
 | .slL a lo,ρ,s=>KR.bind (zb a ρ s) λ x s=>KR.bind (zb lo ρ s) λ y s=>by
  cases y with
  | int i=>exact bB5 _ _ _ _
  | _=>exact KR.bad
 | .slU a hi,ρ,s=>KR.bind (zb a ρ s) λ x s=>KR.bind (zb hi ρ s) λ y s=>by
  cases y with
  | int i=>exact bB5 _ _ _ _
  | _=>exact KR.bad
 | .slLU a lo hi,ρ,s=>KR.bind (zb a ρ s) λ x s=>KR.bind (zb lo ρ s) λ y s=>by
  cases y with
  | int i =>
   refine KR.bind (zb hi ρ s) λ z s=>?_
   cases z with
   | int j=>exact bB5 _ _ _ _
   | _=>exact KR.bad
  | _=>exact KR.bad
 | .rev a,ρ,s=>KR.bind (zb a ρ s) λ x s=>by
  cases x with
  | str l=>exact KR.ok
  | ref r =>
   intro a s' h
   unfold bZ3 at h
   repeat' split at h
   all_goals first|(cases h;exact KP.refl _;done)|(cases h;exact KP.app _ _;done)|(cases h;done)
  | _=>exact KR.bad
 | .call f as,ρ,s=>KR.bind (ah4 as ρ s) λ l s=>hF.call f l s
 | .callC f as,ρ,s=>KR.bind (ah4 as ρ s) λ l s=>KR.bind (hF.call f l s) λ d s'=>KR.if KR.ok KR.bad
 | .callV i es,ρ,s=>KR.bind (ae4 es ρ s) λ l s=>by
  intro a s' h
  split at h
  ·exact hF.call _ _ _ _ _ h
  ·exact hF.lam _ _ _ _ _ _ h
  ·cases h
 | .bi b es,ρ,s=>KR.bind (ae4 es ρ s) λ l s=>bV5 b l s
 | .mk k it,ρ,s=>KR.bind (aQ0 it ρ s) λ q s=>bQ6 k q s
 | .mkD k it d,ρ,s=>KR.bind (aQ0 it ρ s) λ q s=>KR.bind (zb d ρ s) λ d s=>bl4 k q d s
 | .meth m o es,ρ,s=>KR.bind (zb o ρ s) λ x s=>KR.bind (ae4 es ρ s) λ l s=>br8 m x l s
 | .ext o it,ρ,s=>KR.bind (zb o ρ s) λ x s=>KR.bind (aQ0 it ρ s) λ q s=>aS6 x q s
 | .extS o e,ρ,s=>KR.bind (zb o ρ s) λ x s=>KR.bind (zb e ρ s) λ y s=>by
  intro a s' h
  unfold extS at h
  repeat' split at h
  all_goals first|(cases h;done)|exact aS6 _ _ _ _ _ h
 | .join o e,ρ,s=>KR.bind (zb o ρ s) λ x s=>KR.bind (zb e ρ s) λ y s=>bo6 x y s
 | .mks k e,ρ,s=>KR.bind (zb e ρ s) λ x s=>KR.bind (aD3 x s) λ q s=>bQ6 k q s
 | .mkDs k e d,ρ,s=>KR.bind (zb e ρ s) λ x s=>KR.bind (zb d ρ s) λ z s=>KR.bind (aD3 x s) λ q s=>bl4 k q z s
 | .minK _ e j,ρ,s=>KR.bind (zb e ρ s) λ x s=>KR.bind (aD3 x s) λ q s=>by
  intro a s' h
  unfold bx7 at h
  split at h
  ·split at h<;>cases h;exact KP.refl _
  ·cases h
 | .spl o c,ρ,s=>KR.bind (zb o ρ s) λ x s=>by
  intro a s' h
  unfold ca1 at h
  split at h
  ·split at h<;>cases h;exact KP.app _ _
  ·cases h
theorem ae4:∀(es:Es) (ρ:Env) (s:Sto),KR s (evs F es ρ s)
 | .nil,ρ,s=>KR.ok
 | .cons e es,ρ,s=>KR.bind (zb e ρ s) λ d s=>KR.bind (ae4 es ρ s) λ l s=>KR.ok
theorem ah4:∀(B:As) (ρ:Env) (s:Sto),KR s (ag6 F B ρ s)
 | .nil,ρ,s=>KR.ok
 | .ex e B,ρ,s=>KR.bind (zb e ρ s) λ d s=>KR.bind (ah4 B ρ s) λ l s=>KR.ok
 | .lam id caps B,ρ,s=>by
  intro a s' h
  change(match bA1 ρ caps with|some cs=>(ag6 F B ρ s).bind λ l s=>R.ok (D.clo id cs::l) s|none=>.bad)=_ at h
  split at h
  ·exact KR.bind (ah4 B ρ s) (λ l s=>KR.ok) _ _ h
  ·cases h
 | .fn f B,ρ,s=>KR.bind (ah4 B ρ s) λ l s=>KR.ok
theorem aG9:∀(it:I) (ρ:Env) (s:Sto),KR s (evI F it ρ s)
 | .seq e,ρ,s=>KR.bind (zb e ρ s) λ d s=>bp0 d s
 | .rng1 a,ρ,s=>KR.bind (zb a ρ s) λ x s=>by
  cases x with
  | int i=>exact KR.if KR.ok KR.bad
  | _=>exact KR.bad
 | .rng2 a b,ρ,s=>KR.bind (zb a ρ s) λ x s=>KR.bind (zb b ρ s) λ y s=>by
  cases x with
  | int i=>(cases y with
   | int j=>exact KR.if KR.ok KR.bad
   | _=>exact KR.bad)
  | _=>exact KR.bad
 | .rngD a,ρ,s=>KR.bind (zb a ρ s) λ x s=>by
  cases x with
  | int i=>exact KR.if KR.ok KR.bad
  | _=>exact KR.bad
 | .rng3 a b c,ρ,s=>KR.bind (zb a ρ s) λ x s=>KR.bind (zb b ρ s) λ y s=>by
  cases x with
  | int i=>(cases y with
   | int j=>exact KR.if KR.ok KR.bad
   | _=>exact KR.bad)
  | _=>exact KR.bad
 | .enum (.seq e),ρ,s=>KR.bind (zb e ρ s) λ d s=>KR.bind (bb1 d s) λ q s=>KR.ok
 | .zip (.seq a) (.seq b),ρ,s=>KR.bind (zb a ρ s) λ x s=>KR.bind (zb b ρ s) λ y s=>KR.bind (aF4 x s) λ p s=>KR.bind (aF4 y s) λ q s=>KR.ok
 | .enum (.rng1 _),ρ,s=>KR.bad
 | .enum (.rng2 _ _),ρ,s=>KR.bad
 | .enum (.rng3 _ _ _),ρ,s=>KR.bad
 | .enum (.rngD _),ρ,s=>KR.bad
 | .enum (.enum _),ρ,s=>KR.bad
 | .enum (.zip _ _),ρ,s=>KR.bad
 | .enum (.items _),ρ,s=>KR.bad
 | .zip (.rng1 _) _,ρ,s=>KR.bad
 | .zip (.rng2 _ _) _,ρ,s=>KR.bad
 | .zip (.rng3 _ _ _) _,ρ,s=>KR.bad
 | .zip (.rngD _) _,ρ,s=>KR.bad
 | .zip (.enum _) _,ρ,s=>KR.bad
 | .zip (.zip _ _) _,ρ,s=>KR.bad
 | .zip (.items _) _,ρ,s=>KR.bad
 | .zip (.seq _) (.rng1 _),ρ,s=>KR.bad
 | .zip (.seq _) (.rng2 _ _),ρ,s=>KR.bad
 | .zip (.seq _) (.rng3 _ _ _),ρ,s=>KR.bad
 | .zip (.seq _) (.rngD _),ρ,s=>KR.bad
 | .zip (.seq _) (.enum _),ρ,s=>KR.bad
 | .zip (.seq _) (.zip _ _),ρ,s=>KR.bad
 | .zip (.seq _) (.items _),ρ,s=>KR.bad
 | .items e,ρ,s=>KR.bad
theorem aQ0:∀(it:L) (ρ:Env) (s:Sto),KR s (evL F it ρ s)
 | .comp tg it e caps,ρ,s=>KR.bind (aG9 it ρ s) λ q s0=>KR.if (at2 (λ d ρ s=>by
   intro a s' h
   split at h
   ·exact KR.bind (zb e _ s) (λ v s=>KR.ok) _ _ h
   ·cases h) _ _ _) KR.bad
 | .compIf tg it c e caps,ρ,s=>KR.bind (aG9 it ρ s) λ q s0=>KR.if (at2 (λ d ρ s=>by
   intro a s' h
   split at h
   ·exact KR.tru (zb c _ s) (λ k s=>KR.if (KR.bind (zb e _ s) λ v s=>KR.ok) KR.ok) _ _ h
   ·cases h) _ _ _) KR.bad
 | .disp es,ρ,s=>ae4 es ρ s
 | .seq e,ρ,s=>KR.bind (zb e ρ s) λ d s=>bo2 d s
 | .itm e,ρ,s=>KR.bind (zb e ρ s) λ d s=>bu0 d s
end
theorem aD2 {ok:Sto->Bool}{g:D->Env->Sto->R Ct}(hg:∀ d ρ s,KR s (g d ρ s)):∀(l:List D) (ρ:Env) (s:Sto),KR s (qz ok g l ρ s)
 | [],ρ,s=>KR.if KR.ok KR.bad
 | d::l,ρ,s=>KR.if (KR.bind (hg d ρ s) λ c s=>by
   cases c with
   | next ρ=>exact aD2 hg l ρ s
   | cont ρ=>exact aD2 hg l ρ s
   | brk ρ=>exact KR.ok
   | ret d=>exact KR.ok) KR.bad
theorem aB8 {c:Env->Sto->R D}{g:Env->Sto->R Ct}(hc:∀ ρ s,KR s (c ρ s))(hg:∀ ρ s,KR s (g ρ s)):∀(n:Nat) (ρ:Env) (s:Sto),KR s (qW c g n ρ s)
 | 0,ρ,s=>KR.bad
 | n+1,ρ,s=>KR.tru (hc ρ s) λ b s=>KR.if (KR.bind (hg ρ s) λ B s=>by
   cases B with
   | next ρ=>exact aB8 hc hg n ρ s
   | cont ρ=>exact aB8 hc hg n ρ s
   | brk ρ=>exact KR.ok
   | ret d=>exact KR.ok) KR.ok
mutual
theorem bC5:∀(st:S) (ρ:Env) (s:Sto),KR s (ex F st ρ s)
 | .asg tg e,ρ,s=>KR.bind (zb hF e ρ s) λ d s=>by
  intro a s' h
  split at h<;>cases h;exact KP.refl _
 | .setIx o i e,ρ,s=>KR.bind (zb hF e ρ s) λ d s=>KR.bind (zb hF o ρ s) λ x s=>KR.bind (zb hF i ρ s) λ y s=>KR.bind (bf1 x y d s) λ _ s=>KR.ok
 | .aug i e,ρ,s=>KR.bind (aW5 ρ i s) λ x s=>KR.bind (zb hF e ρ s) λ y s=>by
  intro a s' h
  repeat' split at h
  all_goals first|(cases h;exact KP.refl _;done)|(cases h;done)
 | .ex e,ρ,s=>KR.bind (zb hF e ρ s) λ d s=>KR.ok
 | .ret e,ρ,s=>KR.bind (zb hF e ρ s) λ d s=>KR.ok
 | .retN,ρ,s=>KR.ok
 | .ite c a b,ρ,s=>KR.tru (zb hF c ρ s) λ k s=>KR.if (ae5 a ρ s) (ae5 b ρ s)
 | .whl c b,ρ,s=>by
  intro r s' h
  change whl (ev F c) (exs F b) ρ s=_ at h
  unfold whl at h
  split at h
  ·exact aB8 hF (λ ρ s=>zb hF c ρ s) (λ ρ s=>ae5 b ρ s) _ ρ s _ _ h
  ·cases h
 | .for_ tg it b,ρ,s=>KR.bind (aG9 hF it ρ s) λ q s0=>aD2 hF (λ d ρ s=>by
   intro a s' h
   split at h
   ·exact ae5 b _ _ _ _ h
   ·cases h) _ _ _
 | .pass,ρ,s=>KR.ok
 | .cont,ρ,s=>KR.ok
 | .brk,ρ,s=>KR.ok
 | .raise,ρ,s=>KR.bad
 | .und i,ρ,s=>by
  intro a s' h
  change(match ak1 ρ i with|some ρ=>R.ok (Ct.next ρ) s|none=>.bad)=_ at h
  split at h<;>cases h;exact KP.refl _
theorem ae5:∀(B:Ss) (ρ:Env) (s:Sto),KR s (exs F B ρ s)
 | .nil,ρ,s=>KR.ok
 | .cons st B,ρ,s=>KR.bind (bC5 st ρ s) λ c s=>by
  cases c with
  | next ρ=>exact ae5 B ρ s
  | _=>exact KR.ok
end
end
theorem qc {s st:Sto}{d:D}(h:KP s st):KR s (zq s d st):=by
 have tk:∀ t,KP s (st.take s.length++t):=λ t i o e=>by
  obtain⟨F,e',k⟩:=h i o e
  have G:=(ah.mp e).1
  have J:=(ah.mp e').1
  refine⟨F,?_,k⟩
  rw[aL (by rw[b7];omega),jy,if_pos G];exact e'
 have B:KP s (st.take s.length):=by have:=tk [];rwa [bh]at this
 intro a s' e
 unfold zq at e
 repeat' split at e
 all_goals first|(cases e;exact B;done)|(cases e;exact tk _;done)|(cases e;exact h;done)|(cases e;done)
theorem au0 {ok:Sto->Bool}{g:D->Env->Sto->R Ct}{B:D->Env->Sto->Option (String×Sto)}(hg:∀ d ρ s,KR s (g d ρ s))(hx:∀ d ρ s c s',B d ρ s=some (c,s')->KP s s'):∀(l:List D) (ρ:Env) (s:Sto) (c:String) (s':Sto),af7 ok g B l ρ s=some (c,s')->KP s s'
 | [],ρ,s,c,s',h=>by cases h
 | d::l,ρ,s,c,s',h=>by
  unfold af7 at h
  split at h
  ·split at h
   ·rename_i e;exact(hg d ρ s _ _ e).trans (au0 hg hx l _ _ _ _ h)
   ·rename_i e;exact(hg d ρ s _ _ e).trans (au0 hg hx l _ _ _ _ h)
   ·cases h
   ·exact hx _ _ _ _ _ h
  ·cases h
theorem at9 {t:Env->Sto->R D}{g:Env->Sto->R Ct}{F:Env->Sto->Option (String×Sto)}(B:∀ ρ s,KR s (t ρ s))(hg:∀ ρ s,KR s (g ρ s))(hx:∀ ρ s c s',F ρ s=some (c,s')->KP s s'):∀(n:Nat) (ρ:Env) (s:Sto) (c:String) (s':Sto),zL t g F n ρ s=some (c,s')->KP s s'
 | 0,ρ,s,c,s',h=>by cases h
 | n+1,ρ,s,c,s',h=>by
  unfold zL at h
  split at h
  ·rename_i s1 e1
   have k:=B ρ s _ _ e1
   split at h
   ·rename_i e;exact k.trans ((hg ρ s1 _ _ e).trans (at9 B hg hx n _ _ _ _ h))
   ·rename_i e;exact k.trans ((hg ρ s1 _ _ e).trans (at9 B hg hx n _ _ _ _ h))
   ·cases h
   ·exact k.trans (hx _ _ _ _ h)
  ·cases h
theorem aq7 {F:Fns}(B:FK F):∀(b:XB) (ρ:Env) (s:Sto) (c:String) (s':Sto),xB F b ρ s=some (c,s')->KP s s'
 | .no,ρ,s,c,s',h=>by cases h
 | .rais d,ρ,s,c,s',h=>by
  change(if F.xc d=true then some (d,s)else none)=_ at h
  split at h
  ·cases h;exact KP.refl _
  ·cases h
 | .call f as,ρ,s,c,s',h=>by
  change(match ag6 F as ρ s with|.ok l s1=>F.xcall f l s1|_=>none)=_ at h
  split at h
  ·rename_i l s1 e;exact(ah4 B as ρ s _ _ e).trans (B.xcall _ _ _ _ _ h)
  ·cases h
 | .iteT d a r,ρ,s,c,s',h=>by
  change(match ev F d ρ s with|.ok (.bl b) s1=>if b then xB F a ρ s1 else xB F r ρ s1|_=>none)=_ at h
  split at h
  ·rename_i b s1 e
   have k:=zb B d ρ s _ _ e
   split at h
   ·exact k.trans (aq7 B a _ _ _ _ h)
   ·exact k.trans (aq7 B r _ _ _ _ h)
  ·cases h
 | .seq st b,ρ,s,c,s',h=>by
  change(match ex F st ρ s with|.ok (.next ρ1) s1=>xB F b ρ1 s1|_=>none)=_ at h
  split at h
  ·rename_i ρ1 s1 e;exact(bC5 B st ρ s _ _ e).trans (aq7 B b _ _ _ _ h)
  ·cases h
 | .iteE d a r,ρ,s,c,s',h=>by
  change(match ev F d ρ s with|.ok (.bl b) s1=>if b then xB F a ρ s1 else xB F r ρ s1|_=>none)=_ at h
  split at h
  ·rename_i b s1 e
   have k:=zb B d ρ s _ _ e
   split at h
   ·exact k.trans (aq7 B a _ _ _ _ h)
   ·exact k.trans (aq7 B r _ _ _ _ h)
  ·cases h
 | .forX tg it b x,ρ,s,c,s',h=>by
  change(match evI F it ρ s with
   | .ok q s0=>af7 (λ s=>chk s0 s q.src) (λ d ρ s=>match zN ρ tg d with
    | some ρ=>exs F b ρ s
    | none=>.bad) (λ d ρ s=>match zN ρ tg d with
    | some ρ=>xB F x ρ s
    | none=>none) q.its ρ s0
   | _=>none)=_ at h
  split at h
  ·rename_i q s0 e
   refine(aG9 B it ρ s _ _ e).trans (au0 ?_ ?_ _ _ _ _ _ h)
   ·intro d ρ s
    split
    ·exact ae5 B _ _ _
    ·exact KR.bad
   ·intro d ρ s c s' h
    split at h
    ·exact aq7 B x _ _ _ _ h
    ·cases h
  ·cases h
 | .whlX d b x,ρ,s,c,s',h=>by
  change whlX (ev F d) (exs F b) (xB F x) ρ s=_ at h
  unfold whlX at h
  split at h
  ·exact at9 (zb B d) (ae5 B b) (λ ρ s c s' h=>aq7 B x _ _ _ _ h) _ _ _ _ _ h
  ·cases h
theorem bJ9 {h:Hd}{c:String}{s st:Sto}(k:KP s st):KR s (h.out c s st):=by
 unfold Hd.out
 split
 ·exact qc (k.trans (KP.app _ _))
 ·exact qc k
theorem bt1 {F:Fns}(B:FK F)(d:Tf)(l:List D)(s:Sto):KR s (bf9 F d l s):=by
 intro a s' h
 unfold bf9 at h
 split at h
 ·rename_i c s1 e
  have k:=aq7 B _ _ _ _ _ e
  split at h
  ·exact bJ9 k _ _ h
  ·cases h
 ·obtain⟨c,s1,e1,h⟩:=R.bind_inv h
  have k1:=ae5 B _ _ _ _ _ e1
  cases c with
  | ret v=>exact qc k1 _ _ h
  | next ρ =>
   obtain⟨c,s2,e2,h⟩:=R.bind_inv h
   have k2:=k1.trans (ae5 B _ _ _ _ _ e2)
   cases c with
   | ret v=>exact qc k2 _ _ h
   | next ρ=>exact qc k2 _ _ h
   | _=>cases h
  | _=>cases h
theorem ae3 (P:Pr):∀ n,FK (aa0 P n)
 | 0=>⟨λ _ _ _=>KR.bad,λ _ _ _ _=>KR.bad,λ _ _ _ _ _ h=>by cases h⟩
 | n+1=>by
  refine⟨λ f l s=>?_,λ id cs l s=>?_,λ f l s c s' h=>?_⟩
  ·intro a s' h
   unfold aa0 at h
   simp only at h
   split at h
   case h_2 =>
    split at h
    case h_2=>cases h
    split at h
    case isFalse=>cases h
    exact bt1 (ae3 P n) _ _ _ _ _ h
   split at h
   case isFalse=>cases h
   obtain⟨c,s1,e1,h⟩:=R.bind_inv h
   have k1:=ae5 (ae3 P n) _ _ _ _ _ e1
   cases c with
   | ret v=>exact qc k1 _ _ h
   | next ρ=>exact qc k1 _ _ h
   | _=>cases h
  ·intro a s' h
   unfold aa0 at h
   simp only at h
   split at h
   case h_2=>cases h
   split at h
   case isFalse=>cases h
   obtain⟨v,s1,e1,h⟩:=R.bind_inv h
   exact qc (zb (ae3 P n) _ _ _ _ _ e1) _ _ h
  ·unfold aa0 at h
   simp only at h
   split at h
   case h_2=>cases h
   split at h
   case isFalse=>cases h
   exact aq7 (ae3 P n) _ _ _ _ _ h
end DV
end
open DV renaming Sto->lv,D->lw,Env->lx,R->lz,ev->lA,aa0->lC,LIM->lE,eqv->lG,tru->lH,Pr->lI,DEEP->lJ,subC->lK,Fns->lL,as5->lM,eqL->lN,rep->lO,kd->lP,zN->lQ,ac8->lS,Es->lT,az9->lU,O->lV,Ct->lW,look->lX,chk->lY,evs->lZ,Tg->l6,an3->l7,xB->l8,aO5->l9,sbd->ma,ag6->mf,exs->mn,Bi->mq,loB->mr,inL->mw,ixn->my,minI->mB,aA4->mD,ac7->mF,qq->mG,Sq->mH,ae1->mJ,zZ->mK,As->mM,Lm->mO,Df->mP,M->mQ,hiB->mR,slM->mU,an5->mV,ai4->mW,evI->mY,af3->mZ,zW->ng,Mk->nh,Mt->ni,E->nj,mk->nq,zq->nr,aU9->nu,COp->nv,inM->nw,aA3->ny,bi->nz,meth->nA,BOp->nD,pur->nE,W62->nG,qz->nI,Hd->nJ,XB->nK,af7->nM,ak9->nN
open DV.D renaming bndL->ly,bnd->lB,hdI->lF,keyS->lR,nclL->mz,keyF->nB,ncl->nF
open DV.O renaming bnd->lD
noncomputable section
namespace L2
theorem fb {α:Type}{d:α}{s:lv}{p:Prop}(h:(DV.R.bad:lz α)=.ok d s):p:=nomatch h
open PySem PySem.Spec PyProof.Rows
structure LamI where
 qual:Str
 params:bW
 body:Expr
 scope:Scope
 ps:List Str
 fr:List Str
 nm:Option (Str×Pos)
def CloAt (H:Hp)(f:Addr)(J:LamI)(cap:List V)(clos:List (Str×Addr)):Prop:=match J.nm with
 | none=>aE8 H f J.qual J.params J.body J.scope J.fr cap clos
 | some p=>an0 H f p.1 J.qual J.params [.Return (some J.body) p.2] J.scope J.fr cap clos
def au7 (H:Hp)(f:Addr)(J:LamI)(clos:List (Str×Addr)):Prop:=match J.nm with
 | none=>∃ pm c' ctv,H f=some (bB9 f (dw "<lambda>" J.qual J.params J.body J.scope clos pm (.ref c') ctv))/\H c'=some (ay4 c' J.qual)
 | some p=>∃ doc pm c' ctv,H f=some (bB9 f (fX p.1 J.qual J.params [.Return (some J.body) p.2] J.scope clos .none .none doc pm none (.ref c') ctv))/\H c'=some (ay4 c' J.qual)
structure Gm where
 K:ac
 fa:String->Option Addr
 lg:String->LamI->Prop
 T:List (Addr×Str)
variable (Γ:Gm)
mutual
noncomputable def RV (φ:Nat->Addr)(H:Hp):lw->V->Prop
 | .non,v=>v=.non
 | .bl b,v=>v=.bl b
 | .int i,v=>v=.int i
 | .str x,v=>v=.str ⟨x.toArray⟩/\x.length<=lE
 | .tup l,v=>∃ a xs,v=.ref a/\(SqT Γ.K H a xs/\(lF l=true->H a=some (.tup xs)))/\RVL φ H l xs
 | .ref n,v=>v=.ref (φ n)
 | .fn f,v=>∃ a,Γ.fa f=some a/\v=.ref a
 | .clo id cs,v=>∃ f cap J clos,v=.ref f/\Γ.lg id J/\CloAt H f J cap clos/\cap.length=J.fr.length/\RVL φ H cs cap
noncomputable def RVL (φ:Nat->Addr)(H:Hp):List lw->List V->Prop
 | [],xs=>xs=[]
 | d::l,xs=>∃ x r,xs=x::r/\RV φ H d x/\RVL φ H l r
end
noncomputable def bS0:HO->Bool
 | .tup _=>true
 | .frz _ _=>true
 | .ext _=>true
 | _=>false
def Kp (H H':Hp):Prop:=∀ b o,H b=some o->bS0 o=true->H' b=some o
theorem Kp.refl (H:Hp):Kp H H:=λ _ _ h _=>h
theorem Kp.trans {H F B:Hp}(a:Kp H F)(b:Kp F B):Kp H B:=λ c o h f=>b c o (a c o h f) f
theorem Kp.new {H B:Hp}{p:Addr}{o:HO}(a:Kp H B)(h:B p=none):Kp H (upd B p o):=λ c u e f=>by
 have e1:=a c u e f
 rw[zn (zo e1 h)];exact e1
theorem Kp.put {H B:Hp}{p:Addr}{o u:HO}(a:Kp H B)(h:B p=some u)(hu:bS0 u=false):Kp H (upd B p o):=λ c v e f=>by
 have e1:=a c v e f
 rw[zn (λ z=>by subst z;rw[h]at e1;cases e1;rw[hu]at f;cases f)];exact e1
theorem Kp.sqT {K:ac}{H H':Hp}{a:Addr}{B:List V}(e:Kp H H')(h:SqT K H a B):SqT K H' a B:=by
 rcases h with(h|⟨o,h⟩)|h
 ·exact .inl (.inl (e _ _ h rfl))
 ·exact .inl (.inr ⟨o,e _ _ h rfl⟩)
 ·exact .inr h
theorem aE8.kp {H H':Hp}{f:Addr}{qual:Str}{params:bW}{body:Expr}{scope:Scope}{fr:List Str}{cap:List V}{B:List (Str×Addr)}(h:aE8 H f qual params body scope fr cap B)(e:Kp H H'):aE8 H' f qual params body scope fr cap B:=by
 obtain⟨pm,c',F,J,h2,h3,G,h5,Z⟩:=h
 refine⟨pm,c',F,e _ _ J rfl,e _ _ h2 rfl,λ x c q=>?_,G,h5,λ i x v a b=>?_⟩
 ·obtain⟨o,v,z,d⟩:=h3 x c q
  exact⟨o,v,e _ _ z rfl,d⟩
 ·obtain⟨c,o,u,z1,z2,Y⟩:=Z i x v a b
  exact⟨c,o,u,z1,e _ _ z2 rfl,Y⟩
theorem an0.kp {H H':Hp}{f:Addr}{name qual:Str}{params:bW}{body:List Stmt}{scope:Scope}{fr:List Str}{cap:List V}{B:List (Str×Addr)}(h:an0 H f name qual params body scope fr cap B)(e:Kp H H'):an0 H' f name qual params body scope fr cap B:=by
 obtain⟨F,pm,c',G,Y,h2,h3,J,h5,h6⟩:=h
 refine⟨F,pm,c',G,e _ _ Y rfl,e _ _ h2 rfl,λ x c q=>?_,J,h5,λ i x v a b=>?_⟩
 ·obtain⟨o,v,z,d⟩:=h3 x c q
  exact⟨o,v,e _ _ z rfl,d⟩
 ·obtain⟨c,o,u,z1,z2,Z⟩:=h6 i x v a b
  exact⟨c,o,u,z1,e _ _ z2 rfl,Z⟩
theorem CloAt.kp {H H':Hp}{f:Addr}{J:LamI}{cap:List V}{B:List (Str×Addr)}(h:CloAt H f J cap B)(e:Kp H H'):CloAt H' f J cap B:=by
 unfold CloAt at h ⊢
 cases q:J.nm with
 | none=>rw[q]at h;exact aE8.kp h e
 | some p=>rw[q]at h;exact an0.kp h e
theorem au7.kp {H H':Hp}{f:Addr}{J:LamI}{B:List (Str×Addr)}(h:au7 H f J B)(e:Kp H H'):au7 H' f J B:=by
 unfold au7 at h ⊢
 cases q:J.nm with
 | none =>
  rw[q]at h
  obtain⟨Y,c',F,h1,Z⟩:=h
  exact⟨Y,c',F,e _ _ h1 rfl,e _ _ Z rfl⟩
 | some p =>
  rw[q]at h
  obtain⟨G,Y,c',F,h1,Z⟩:=h
  exact⟨G,Y,c',F,e _ _ h1 rfl,e _ _ Z rfl⟩
theorem CloAt.fn {K:ac}{H:Hp}{f:Addr}{J:LamI}{cap:List V}{B:List (Str×Addr)}(h:CloAt H f J cap B):bS2 K H f:=by
 unfold CloAt at h
 cases q:J.nm with
 | none=>rw[q]at h;obtain⟨Y,Z,G,F,_⟩:=h;exact .inl ⟨_,F⟩
 | some p=>rw[q]at h;exact an0.fn h
structure Gw (φ:Nat->Addr)(n:Nat)(H:Hp)(φ':Nat->Addr)(H':Hp):Prop where
 map:∀ i,i<n->φ' i=φ i
 kp:Kp H H'
variable {Γ:Gm}
mutual
theorem RV.monoW {φ φ':Nat->Addr}{n:Nat}{H H':Hp}(g:Gw φ n H φ' H'):∀(d:lw) (v:V),d.bnd n=true->RV Γ φ H d v->RV Γ φ' H' d v
 | .non,_,_,h=>by unfold RV at h ⊢;exact h
 | .bl _,_,_,h=>by unfold RV at h ⊢;exact h
 | .int _,_,_,h=>by unfold RV at h ⊢;exact h
 | .str _,_,_,h=>by unfold RV at h ⊢;exact h
 | .tup l,_,b,h=>by
  unfold RV at h ⊢
  unfold lB at b
  obtain⟨a,F,e,q,r⟩:=h
  exact⟨a,F,e,⟨g.kp.sqT q.1,λ z=>g.kp _ _ (q.2 z) rfl⟩,RVL.monoW g l F b r⟩
 | .ref k,_,b,h=>by
  unfold RV at h ⊢
  unfold lB at b
  rw[g.map k (of_decide_eq_true b)];exact h
 | .fn _,_,_,h=>by unfold RV at h ⊢;exact h
 | .clo id cs,_,b,h=>by
  unfold RV at h ⊢
  unfold lB at b
  obtain⟨f,cap,J,B,e,Y,Z,h3,G⟩:=h
  exact⟨f,cap,J,B,e,Y,Z.kp g.kp,h3,RVL.monoW g cs cap b G⟩
theorem RVL.monoW {φ φ':Nat->Addr}{n:Nat}{H H':Hp}(g:Gw φ n H φ' H'):∀(l:List lw) (B:List V),ly n l=true->RVL Γ φ H l B->RVL Γ φ' H' l B
 | [],_,_,h=>by unfold RVL at h ⊢;exact h
 | d::l,_,b,h=>by
  unfold RVL at h ⊢
  unfold ly at b
  rw[ag]at b
  obtain⟨x,r,e,q,t⟩:=h
  exact⟨x,r,e,RV.monoW g d x b.1 q,RVL.monoW g l r b.2 t⟩
end
mutual
theorem zh {n m:Nat}(h:n<=m):∀ d:lw,d.bnd n=true->d.bnd m=true
 | .non,_=>rfl
 | .bl _,_=>rfl
 | .int _,_=>rfl
 | .str _,_=>rfl
 | .tup l,b=>by unfold lB at b ⊢;exact ab1 h l b
 | .ref k,b=>by unfold lB at b ⊢;exact decide_eq_true (ay (of_decide_eq_true b) h)
 | .fn _,_=>rfl
 | .clo _ l,b=>by unfold lB at b ⊢;exact ab1 h l b
theorem ab1 {n m:Nat}(h:n<=m):∀ l:List lw,ly n l=true->ly m l=true
 | [],_=>rfl
 | d::l,b=>by
  unfold ly at b ⊢
  rw[ag]at b ⊢
  exact⟨zh h d b.1,ab1 h l b.2⟩
end
theorem aa8 {n:Nat}:∀ {l:List lw},ly n l=true↔∀ d∈l,d.bnd n=true
 | []=>by unfold ly;simp
 | d::l=>by
  unfold ly
  rw[ag,aa8 (l:=l)]
  simp
theorem zO {n:Nat}{l m:List lw}(h:ly n l=true)(h':ly n m=true):ly n (l++m)=true :=
 aa8.mpr λ d hd=>(aW.mp hd).elim (aa8.mp h d) (aa8.mp h' d)
theorem aF3 {n:Nat}{l m:List lw}(h:ly n l=true)(s:∀ d∈m,d∈l):ly n m=true:=aa8.mpr λ d hd=>aa8.mp h d (s d hd)
theorem ag1 {n:Nat}{l:List lw}{i:Nat}{d:lw}(h:ly n l=true)(e:l[i]?=some d):d.bnd n=true:=aa8.mp h d (a7 e)
section
variable {φ:Nat->Addr} {H:Hp}
theorem RVL.nil:RVL Γ φ H [] []:=by unfold RVL;rfl
theorem RVL.cons {d:lw}{l:List lw}{x:V}{B:List V}(a:RV Γ φ H d x)(b:RVL Γ φ H l B):RVL Γ φ H (d::l) (x::B):=by unfold RVL;exact⟨x,B,rfl,a,b⟩
theorem RVL.unnil {B:List V}(h:RVL Γ φ H [] B):B=[]:=by unfold RVL at h;exact h
theorem RVL.uncons {d:lw}{l:List lw}{B:List V}(h:RVL Γ φ H (d::l) B):∃ x r,B=x::r/\RV Γ φ H d x/\RVL Γ φ H l r:=by unfold RVL at h;exact h
theorem RVL.length:∀ {l:List lw} {B:List V},RVL Γ φ H l B->B.length=l.length
 | [],_,h=>by rw[h.unnil];rfl
 | d::l,_,h=>by
  obtain⟨x,r,rfl,_,t⟩:=h.uncons
  rw[bf,bf,RVL.length t]
theorem RVL.get:∀ {l:List lw} {B:List V} {i:Nat} {d:lw},RVL Γ φ H l B->l[i]?=some d->∃ x,B[i]?=some x/\RV Γ φ H d x
 | [],_,_,_,_,e=>by simp at e
 | d::l,_,0,d',h,e=>by
  obtain⟨x,r,rfl,q,t⟩:=h.uncons
  have e':d=d':=by simpa using e
  subst e'
  exact⟨x,rfl,q⟩
 | d::l,_,i+1,_,h,e=>by
  obtain⟨x,r,rfl,q,t⟩:=h.uncons
  obtain⟨y,e1,e2⟩:=RVL.get (i:=i) t (by simpa using e)
  exact⟨y,by simpa using e1,e2⟩
theorem RVL.append:∀ {l m:List lw} {B ys:List V},RVL Γ φ H l B->RVL Γ φ H m ys->RVL Γ φ H (l++m) (B++ys)
 | [],_,_,_,h,h'=>by rw[h.unnil];exact h'
 | d::l,_,_,_,h,h'=>by
  obtain⟨x,r,rfl,q,t⟩:=h.uncons
  exact .cons q (RVL.append t h')
theorem RVL.drop:∀ {l:List lw} {B:List V} (n:Nat),RVL Γ φ H l B->RVL Γ φ H (l.drop n) (B.drop n)
 | _,_,0,h=>h
 | [],_,n+1,h=>by rw[h.unnil];exact .nil
 | d::l,_,n+1,h=>by
  obtain⟨x,r,rfl,q,t⟩:=h.uncons
  exact RVL.drop n t
theorem RVL.take:∀ {l:List lw} {B:List V} (n:Nat),RVL Γ φ H l B->RVL Γ φ H (l.take n) (B.take n)
 | _,_,0,h=>.nil
 | [],_,n+1,h=>by rw[h.unnil];exact .nil
 | d::l,_,n+1,h=>by
  obtain⟨x,r,rfl,q,t⟩:=h.uncons
  exact .cons q (RVL.take n t)
theorem RVL.set:∀ {l:List lw} {B:List V} {d:lw} {x:V} (i:Nat),RVL Γ φ H l B->RV Γ φ H d x->RVL Γ φ H (l.set i d) (B.set i x)
 | [],_,_,_,_,h,_=>by rw[h.unnil];exact .nil
 | d::l,_,_,_,0,h,q=>by
  obtain⟨x,r,rfl,_,t⟩:=h.uncons
  exact .cons q t
 | d::l,_,_,_,i+1,h,q=>by
  obtain⟨x,r,rfl,F,t⟩:=h.uncons
  exact .cons F (RVL.set i t q)
theorem RVL.reverse:∀ {l:List lw} {B:List V},RVL Γ φ H l B->RVL Γ φ H l.reverse B.reverse
 | [],_,h=>by rw[h.unnil];exact .nil
 | d::l,_,h=>by
  obtain⟨x,r,rfl,q,t⟩:=h.uncons
  rw[ee,ee]
  exact(RVL.reverse t).append (.cons q .nil)
theorem RV.intE {i:Int}{v:V}(h:RV Γ φ H (.int i) v):v=.int i:=by unfold RV at h;exact h
theorem RV.blE {i:Bool}{v:V}(h:RV Γ φ H (.bl i) v):v=.bl i:=by unfold RV at h;exact h
theorem RV.nonE {v:V}(h:RV Γ φ H .non v):v=.non:=by unfold RV at h;exact h
theorem RV.strE {x:List Nat}{v:V}(h:RV Γ φ H (.str x) v):v=.str ⟨x.toArray⟩:=by unfold RV at h;exact h.1
theorem RV.strL {x:List Nat}{v:V}(h:RV Γ φ H (.str x) v):x.length<=lE:=by unfold RV at h;exact h.2
theorem RV.tupE {l:List lw}{v:V}(h:RV Γ φ H (.tup l) v):∃ a B,v=.ref a/\SqT Γ.K H a B/\RVL Γ φ H l B:=by unfold RV at h;obtain⟨a,B,e,q,r⟩:=h;exact⟨a,B,e,q.1,r⟩
theorem RV.tupZ {l:List lw}{v:V}(h:RV Γ φ H (.tup l) v):∃ a B,(v=.ref a/\(lF l=true->H a=some (.tup B)))/\SqT Γ.K H a B/\RVL Γ φ H l B:=by unfold RV at h;obtain⟨a,B,e,q,r⟩:=h;exact⟨a,B,⟨e,q.2⟩,q.1,r⟩
theorem RVL.tonil {l:List lw}(h:RVL Γ φ H l []):l=[]:=cj.mp h.length.symm
theorem RV.tupK {l:List lw}{v:V}(h:RV Γ φ H (.tup l) v)(z:lF l=true):∃ a B,v=.ref a/\H a=some (.tup B)/\RVL Γ φ H l B:=by unfold RV at h;obtain⟨a,B,e,q,r⟩:=h;exact⟨a,B,e,q.2 z,r⟩
theorem RV.refE {n:Nat}{v:V}(h:RV Γ φ H (.ref n) v):v=.ref (φ n):=by unfold RV at h;exact h
theorem RV.intI {i:Int}:RV Γ φ H (.int i) (.int i):=by unfold RV;rfl
theorem RV.blI {i:Bool}:RV Γ φ H (.bl i) (.bl i):=by unfold RV;rfl
theorem RV.nonI:RV Γ φ H .non .non:=by unfold RV;rfl
theorem RV.strI {x:List Nat}(h:x.length<=lE):RV Γ φ H (.str x) (.str ⟨x.toArray⟩):=by unfold RV;exact⟨rfl,h⟩
theorem RV.tupI {l:List lw}{a:Addr}{B:List V}(h:H a=some (.tup B))(q:RVL Γ φ H l B):RV Γ φ H (.tup l) (.ref a):=by unfold RV;exact⟨a,B,rfl,⟨SqT.of h,λ _=>h⟩,q⟩
theorem RV.tupC {l:List lw}{a:Addr}{B:List V}(h:SqT Γ.K H a B)(z:lF l=true->H a=some (.tup B))(q:RVL Γ φ H l B):RV Γ φ H (.tup l) (.ref a):=by unfold RV;exact⟨a,B,rfl,⟨h,z⟩,q⟩
theorem RV.refI {n:Nat}:RV Γ φ H (.ref n) (.ref (φ n)):=by unfold RV;rfl
end
theorem bw9 {n:Nat}{l:List lw}(h:lF (l9 n l)=true):lF l=true:=by
 cases n with
 | zero=>cases h
 | succ n =>
  cases l with
  | nil => 
   have:∀ k,l9 k ([]:List lw)=[]:=λ k=>by
    induction k with
    | zero=>rfl
    | succ k ih=>show[]++l9 k []=[];rw[ih];rfl
   rw[this]at h;cases h
  | cons a l =>
   have e:l9 (n+1) (a::l)=a::(l++l9 n (a::l)):=rfl
   rw[e]at h
   cases a with
   | int _=>rfl
   | non=>rfl
   | tup _=>rfl
   | _=>cases h
theorem aQ2 {α:Type}{l:List α}{B F:Option Int}(h:(lU l B F).length=l.length):lU l B F=l:=by
 unfold lU at h ⊢
 rw[b7,eN]at h
 by_cases z:l=[]
 ·subst z;simp
 ·have hp:=jc.mpr z
  have e1:mr l.length B=0:=by omega
  rw[e1]at h ⊢
  rw[eF]
  exact eG (by omega)
def SqF (K:ac)(H:Hp)(a:Addr)(xs:List V):Prop:=SqL K H a xs/\∀ H',Kp H H'->SqL K H' a xs
noncomputable def aX3:lw->Option Key
 | .int i=>some (.inl i)
 | .str x=>some (.inr ⟨x.toArray⟩)
 | _=>none
noncomputable def fOf:lw->Option FK
 | .non=>some none
 | .int i=>some (some (.inl i))
 | .str x=>some (some (.inr ⟨x.toArray⟩))
 | _=>none
noncomputable def qR {κ:Type}(f:lw->Option κ):List lw->Option (List κ)
 | []=>some []
 | d::l=>match f d,qR f l with
  | some k,some r=>some (k::r)
  | _,_=>none
noncomputable def nOf:lw->Option NI
 | .tup l=>(qR fOf l).map .inr
 | d=>(fOf d).map .inl
noncomputable def ap8:List lw->Option (List NI):=qR nOf
noncomputable def bM4:lw->Option (List NI)
 | .tup l=>if(lF l&&(l.all lR&&decide (l.length<=1000)))=true then ap8 l else none
 | _=>none
noncomputable def RVD {κ:Type}(kf:lw->Option κ)(Γ:Gm)(φ:Nat->Addr)(H:Hp):List (lw×lw)->List (κ×V)->Prop
 | [],kvs=>kvs=[]
 | (d,e)::l,kvs=>∃ k v r,kvs=(k,v)::r/\kf d=some k/\RV Γ φ H e v/\RVD kf Γ φ H l r
variable (Γ)
noncomputable def RO (φ:Nat->Addr)(H:Hp)(a:Addr):lV->Prop
 | .lst l=>∃ xs,H a=some (.lst xs)/\RVL Γ φ H l xs
 | .ro l=>∃ xs,SqF Γ.K H a xs/\RVL Γ φ H l xs
 | .dic l=>∃ kvs,H a=some (.dK kvs)/\RVD aX3 Γ φ H l kvs
 | .dit l=>∃ kvs,H a=some (.dT kvs)/\RVD bM4 Γ φ H l kvs
 | .ins _ _=>False
noncomputable abbrev okd:lV->Nat:=DV.O.kd
noncomputable def isMut:lV->Bool
 | .ro _=>false
 | _=>true
structure Rp (φ:Nat->Addr)(H:Hp)(s:lv):Prop where
 inj:∀(i j:Nat) (o o':lV),s[i]?=some o->s[j]?=some o'->isMut o=true->isMut o'=true->φ i=φ j->i=j
 obj:∀(i:Nat) (o:lV),s[i]?=some o->RO Γ φ H (φ i) o
 wf:∀(i:Nat) (o:lV),s[i]?=some o->o.bnd s.length=true
 tab:TabsH Γ.T H
structure RE (φ:Nat->Addr)(H:Hp)(n:Nat)(ρ:lx)(σ:St):Prop where
 len:ρ.length=σ.length
 val:∀(i:Nat) (d:lw),ρ[i]?=some (some d)->d.bnd n=true/\∃ v,σ[i]?=some (some v)/\RV Γ φ H d v
structure Gr (φ:Nat->Addr)(s:lv)(H:Hp)(φ':Nat->Addr)(s':lv)(H':Hp):Prop where
 w:Gw φ s.length H φ' H'
 le:s.length<=s'.length
 new:∀ i:Nat,s.length<=i->i<s'.length->H (φ' i)=none
 kd:∀(i:Nat) (o o':lV),s[i]?=some o->s'[i]?=some o'->okd o'=okd o
 st:∀ b,H b≠none->H' b≠none
 fr:∀ b o,H b=some o->(∀ ps,o≠.tbl ps)->(∀(i:Nat) (ob:lV),s[i]?=some ob->isMut ob=true->φ i≠b)->H' b=some o
variable {Γ}
theorem bo9 {o B:lV}(h:okd B=okd o)(m:isMut B=true):isMut o=true:=by
 cases o with
 | ro _=>cases B with
  | ro _=>cases m
  | _=>cases h
 | _=>rfl
theorem Gr.mu {φ φ':Nat->Addr}{s s':lv}{H H':Hp}(g:Gr φ s H φ' s' H')(i:Nat)(o B:lV)(e:s[i]?=some o)(e':s'[i]?=some B)(m:isMut B=true):isMut o=true:=bo9 (g.kd i o B e e') m
theorem Gr.refl (φ:Nat->Addr)(s:lv)(H:Hp):Gr φ s H φ s H:=⟨⟨λ _ _=>rfl,Kp.refl H⟩,ak _,λ i G B=>absurd B (by omega),λ i o F e e'=>by rw[e]at e';cases e';rfl,λ _ h=>h,λ _ _ h _ _=>h⟩
theorem Gr.trans {φ φ1 φ2:Nat->Addr}{s s1 s2:lv}{H H1 Z:Hp}(a:Gr φ s H φ1 s1 H1)(b:Gr φ1 s1 H1 φ2 s2 Z)(_h:s.length<=s1.length):Gr φ s H φ2 s2 Z:=by
 refine⟨⟨λ i B=>(b.w.map i (ay B a.le)).trans (a.w.map i B),a.w.kp.trans b.w.kp⟩,am a.le b.le,λ i h1 h2=>?_,λ i o o' e e'=>?_,λ c h=>b.st c (a.st c h),λ c o h J ne=>?_⟩
 ·by_cases B:i<s1.length
  ·rw[b.w.map i B];exact a.new i h1 B
  ·have e:=b.new i (by omega) h2
   cases q:H (φ2 i)with
   | none=>rfl
   | some o=>exact absurd e (a.st _ (by rw[q];simp))
 ·have hl:i<s1.length:=ay (ah.mp e).1 a.le
  obtain⟨G,e1⟩:∃ G,s1[i]?=some G:=⟨s1[i],aj hl⟩
  exact(b.kd i G o' e1 e').trans (a.kd i o G e e1)
 ·refine b.fr c o (a.fr c o h J ne) J λ i ob e m z=>?_
  by_cases B:i<s.length
  ·obtain⟨F,Y⟩:∃ F,s[i]?=some F:=⟨s[i],aj B⟩
   exact ne i F Y (a.mu i F ob Y e m) (by rw[<-a.w.map i B];exact z)
  ·have:=a.new i (by omega) (ah.mp e).1
   rw[z,h]at this;cases this
theorem RV.mono {φ φ':Nat->Addr}{s s':lv}{H H':Hp}(g:Gr φ s H φ' s' H')(d:lw)(v:V)(b:d.bnd s.length=true)(h:RV Γ φ H d v):RV Γ φ' H' d v:=RV.monoW g.w d v b h
theorem RVL.mono {φ φ':Nat->Addr}{s s':lv}{H H':Hp}(g:Gr φ s H φ' s' H')(d:List lw)(v:List V)(b:ly s.length d=true)(h:RVL Γ φ H d v):RVL Γ φ' H' d v:=RVL.monoW g.w d v b h
theorem RE.mono {φ φ':Nat->Addr}{s s':lv}{H H':Hp}{ρ:lx}{σ:St}(h:RE Γ φ H s.length ρ σ)(g:Gr φ s H φ' s' H')(hn:s.length<=s'.length):RE Γ φ' H' s'.length ρ σ :=
 ⟨h.len,λ i d e=>by
  obtain⟨b,v,e1,e2⟩:=h.val i d e
  exact⟨zh hn d b,v,e1,RV.mono g d v b e2⟩⟩
def ad9 (Γ:Gm)(φ:Nat->Addr)(s:lv)(H:Hp)(d:lw)(s':lv)(Q:VK):Prop :=
 ∀ v φ' H',Gr φ s H φ' s' H'->s.length<=s'.length->d.bnd s'.length=true->RV Γ φ' H' d v->Rp Γ φ' H' s'->Q v H'
theorem ad9.trans {φ φ1:Nat->Addr}{s s1 s':lv}{H B:Hp}{d:lw}{Q:VK}(h:ad9 Γ φ s H d s' Q)(g:Gr φ s H φ1 s1 B)(l:s.length<=s1.length):ad9 Γ φ1 s1 B d s' Q :=
 λ v φ' H' g' F b r p=>h v φ' H' (g.trans g' l) (am l F) b r p
theorem ad9.here {φ:Nat->Addr}{s:lv}{H:Hp}{d:lw}{Q:VK}{v:V}(h:ad9 Γ φ s H d s Q)(p:Rp Γ φ H s)(b:d.bnd s.length=true)(r:RV Γ φ H d v):Q v H :=
 h v φ H (Gr.refl φ s H) (ak _) b r p
theorem RVD.monoW {κ:Type}{F:lw->Option κ}{φ φ':Nat->Addr}{n:Nat}{H H':Hp}(g:Gw φ n H φ' H'):∀(l:List (lw×lw)) (B:List (κ×V)),ly n (l.map (·.2))=true->RVD F Γ φ H l B->RVD F Γ φ' H' l B
 | [],_,_,h=>h
 | (d,e)::l,_,b,h=>by
  obtain⟨k,v,r,e1,e2,e3,G⟩:=h
  rw[aS]at b
  unfold ly at b
  rw[ag]at b
  exact⟨k,v,r,e1,e2,RV.monoW g e v b.1 e3,RVD.monoW g l r b.2 G⟩
theorem RO.mono {φ φ':Nat->Addr}{n:Nat}{H H':Hp}{a:Addr}{o:lV}(h:RO Γ φ H a o)(g:Gw φ n H φ' H')(b:o.bnd n=true)(hl:isMut o=true->∀ u,H a=some u->H' a=some u):RO Γ φ' H' a o:=by
 cases o with
 | lst l =>
  unfold lD at b
  obtain⟨F,e,r⟩:=h
  exact⟨F,hl rfl _ e,RVL.monoW g l F b r⟩
 | ro l =>
  unfold lD at b
  obtain⟨F,e,r⟩:=h
  exact⟨F,⟨e.2 _ g.kp,λ G k=>e.2 _ (g.kp.trans k)⟩,RVL.monoW g l F b r⟩
 | dic l =>
  unfold lD at b
  rw[ag]at b
  obtain⟨B,e,r⟩:=h
  exact⟨B,hl rfl _ e,RVD.monoW g l B b.2 r⟩
 | dit l =>
  unfold lD at b
  rw[ag]at b
  obtain⟨B,e,r⟩:=h
  exact⟨B,hl rfl _ e,RVD.monoW g l B b.2 r⟩
 | ins _ _=>exact h.elim
theorem RO.there {φ:Nat->Addr}{H:Hp}{a:Addr}{o:lV}(h:RO Γ φ H a o)(m:isMut o=true):∃ u,H a=some u/\bS0 u=false/\∀ ps,u≠.tbl ps:=by
 cases o with
 | lst l=>obtain⟨B,e,_⟩:=h;exact⟨_,e,rfl,by nofun⟩
 | ro l=>cases m
 | dic l=>obtain⟨B,e,_⟩:=h;exact⟨_,e,rfl,by nofun⟩
 | dit l=>obtain⟨B,e,_⟩:=h;exact⟨_,e,rfl,by nofun⟩
 | ins _ _=>exact h.elim
theorem Rp.addr {φ:Nat->Addr}{H:Hp}{s:lv}(p:Rp Γ φ H s){i:Nat}{l:List lw}(e:s[i]?=some (.lst l)):∃ B,H (φ i)=some (.lst B)/\RVL Γ φ H l B:=p.obj i _ e
theorem zV {n m:Nat}(h:n<=m)(o:lV)(b:o.bnd n=true):o.bnd m=true:=by
 cases o with
 | lst l=>unfold lD at b ⊢;exact ab1 h l b
 | ro l=>unfold lD at b ⊢;exact ab1 h l b
 | dic l =>
  unfold lD at b ⊢
  rw[ag]at b ⊢
  exact⟨ab1 h _ b.1,ab1 h _ b.2⟩
 | dit l =>
  unfold lD at b ⊢
  rw[ag]at b ⊢
  exact⟨ab1 h _ b.1,ab1 h _ b.2⟩
 | ins c l=>unfold lD at b ⊢;exact ab1 h _ b
theorem TabsH.keepF {T:List (Addr×Str)}{H H':Hp}(h:TabsH T H)(k:∀ b o,(bS0 o=true\/∃ ps,o=.tbl ps)->H b=some o->H' b=some o):TabsH T H':=λ y hy=>by
 obtain⟨ps,e,t,c⟩:=h y hy
 refine⟨ps,k _ _ (.inr ⟨_,rfl⟩) e,t,λ pos F q=>?_⟩
 obtain⟨B,e1,e2⟩:=c pos F q
 exact⟨B,e1,k _ _ (.inl rfl) e2⟩
theorem Rp.new {φ:Nat->Addr}{H:Hp}{s:lv}{p:Addr}{u:HO}{o:lV}(r:Rp Γ φ H s)(hp:H p=none)(hb:o.bnd s.length=true)
  (ho:∀ φ' H',Gw φ s.length H φ' H'->H' p=some u->RO Γ φ' H' p o):Gr φ s H (λ i=>if i=s.length then p else φ i) (s++[o]) (upd H p u)/\Rp Γ (λ i=>if i=s.length then p else φ i) (upd H p u) (s++[o]):=by
 have g:Gw φ s.length H (λ i=>if i=s.length then p else φ i) (upd H p u):=⟨λ i B=>if_neg (aC B),(Kp.refl H).new hp⟩
 have key:∀ i F,(s++[o])[i]?=some F->(i<s.length/\s[i]?=some F)\/(i=s.length/\F=o):=λ i F e=>by
  rcases f7 i s.length with h|h|h
  ·rw[aL h]at e;exact .inl ⟨h,e⟩
  ·subst h;simp at e;exact .inr ⟨rfl,e.symm⟩
  ·rw[bH (by simp;omega)]at e;cases e
 refine⟨⟨g,by simp,λ i h1 h2=>?_,λ i o1 o2 e1 e2=>?_,λ b hb=>?_,λ b ob hb _ _=>by rw[zn (zo hb hp)];exact hb⟩,λ i j Y J G ej mi Z e=>?_,λ i F e=>?_,λ i F e=>?_,r.tab.new hp⟩
 ·rw[aE,dg]at h2
  rw[if_pos (by omega)];exact hp
 ·rcases key i o2 e2 with⟨_,e⟩|⟨B,_⟩
  ·rw[e1]at e;cases e;rfl
  ·have:=(ah.mp e1).1;omega
 ·unfold upd;split
  ·simp
  ·exact hb
 ·rcases key i Y G with⟨B,G⟩|⟨B,rfl⟩<;>rcases key j J ej with⟨hj,ej⟩|⟨hj,ej'⟩
  ·rw[if_neg (aC B),if_neg (aC hj)]at e
   exact r.inj i j Y J G ej mi Z e
  ·rw[if_neg (aC B),if_pos hj]at e
   obtain⟨u,hu,_,_⟩:=(r.obj i Y G).there mi
   rw[e,hp]at hu;cases hu
  ·rw[if_neg (aC hj),if_pos B]at e
   obtain⟨u,hu,_,_⟩:=(r.obj j J ej).there Z
   rw[<-e,hp]at hu;cases hu
  ·rw[B,hj]
 ·rcases key i F e with⟨B,e⟩|⟨B,rfl⟩
  ·show RO Γ _ _ (if i=s.length then p else φ i) F
   rw[if_neg (aC B)]
   exact(r.obj i F e).mono g (r.wf i F e) λ _ v hv=>by rw[zn (zo hv hp)];exact hv
  ·show RO Γ _ _ (if i=s.length then p else φ i) F
   rw[if_pos B]
   exact ho _ _ g zu
 ·rw[aE,dg]
  rcases key i F e with⟨B,e⟩|⟨B,rfl⟩
  ·exact zV (du _) _ (r.wf i F e)
  ·exact zV (du _) _ hb
theorem Rp.set {φ:Nat->Addr}{H:Hp}{s:lv}{k:Nat}{u:HO}{o F:lV}(r:Rp Γ φ H s)(hk:s[k]?=some F)(Y:isMut F=true)(hb:o.bnd s.length=true)
  (ho:∀ H',Gw φ s.length H φ H'->H' (φ k)=some u->RO Γ φ H' (φ k) o) (a1:okd o=okd F:=by rfl):Gr φ s H φ (s.set k o) (upd H (φ k) u)/\Rp Γ φ (upd H (φ k) u) (s.set k o):=by
 obtain⟨v0,G,f0,Z⟩:=(r.obj k F hk).there Y
 have a0:k<s.length:=(ah.mp hk).1
 have g:Gw φ s.length H φ (upd H (φ k) u):=⟨λ _ _=>rfl,(Kp.refl H).put G f0⟩
 have key:∀ i B,(s.set k o)[i]?=some B->(i≠k/\s[i]?=some B)\/(i=k/\B=o):=λ i B e=>by
  by_cases h:i=k
  ·subst h;rw[aO a0]at e;exact .inr ⟨rfl,(ax e).symm⟩
  ·rw[aZ (cw h)]at e;exact .inl ⟨h,e⟩
 have mm:∀ i B,(s.set k o)[i]?=some B->isMut B=true->∃ J,s[i]?=some J/\isMut J=true:=λ i B e m=>by
  rcases key i B e with⟨_,e⟩|⟨h,_⟩
  ·exact⟨B,e,m⟩
  ·exact⟨F,by rw[h];exact hk,Y⟩
 refine⟨⟨g,by simp,λ i h1 h2=>by rw[bp]at h2;omega,λ i o1 o2 e1 e2=>?_,λ b hb=>?_,λ b ob hb nt ne=>by rw[zn (cw (ne k F hk Y))];exact hb⟩,λ i j oi oj ei ej mi mj e=>?_,λ i B e=>?_,λ i B e=>?_,r.tab.keepF λ b v hv q=>?_⟩
 ·rcases key i o2 e2 with⟨_,e⟩|⟨h,rfl⟩
  ·rw[e1]at e;cases e;rfl
  ·subst h;rw[hk]at e1;cases e1;exact a1
 ·unfold upd;split
  ·simp
  ·exact hb
 ·obtain⟨o1,e1,m1⟩:=mm i oi ei mi
  obtain⟨o2,e2,m2⟩:=mm j oj ej mj
  exact r.inj i j o1 o2 e1 e2 m1 m2 e
 ·rcases key i B e with⟨h,e⟩|⟨h,rfl⟩
  ·refine(r.obj i B e).mono g (r.wf i B e) λ m v hv=>?_
   rw[zn λ z=>h (r.inj i k B F e hk m Y z)];exact hv
  ·subst h
   exact ho _ g zu
 ·rw[bp]
  rcases key i B e with⟨_,e⟩|⟨_,rfl⟩
  ·exact r.wf i B e
  ·exact hb
 ·rw[zn λ z=>by
   subst z;rw[G]at q;cases q
   rcases hv with h|⟨ps,h⟩
   ·rw[f0]at h;cases h
   ·exact Z _ h]
  exact q
theorem Rp.same {φ:Nat->Addr}{H H':Hp}{s:lv}(r:Rp Γ φ H s)(e:ad0 H H'):Gr φ s H φ s H'/\Rp Γ φ H' s:=by
 have g:Gw φ s.length H φ H':=⟨λ _ _=>rfl,λ b o h _=>e b o h⟩
 exact⟨⟨g,ak _,λ i G B=>absurd B (by omega),λ i o F e e'=>by rw[e]at e';cases e';rfl,λ b hb=>by
  cases q:H b with
  | none=>exact absurd q hb
  | some o=>rw[e b o q];simp,λ b o h _ _=>e b o h⟩,r.inj,λ i o h=>(r.obj i o h).mono g (r.wf i o h) λ _ u hu=>e _ u hu,r.wf,r.tab.same e⟩
section
variable {φ:Nat->Addr} {H:Hp} {s:lv} {Q:VK}
theorem ad9.alloc {l:List lw}{B:List V}(h:ad9 Γ φ s H (.ref s.length) (s++[.lst l]) Q)(r:Rp Γ φ H s)(hl:RVL Γ φ H l B)(hb:ly s.length l=true){p:Addr}(hp:H p=none):Q (.ref p) (upd H p (.lst B)):=by
 obtain⟨g,F⟩:=r.new (o:=.lst l) (u:=.lst B) hp hb λ φ' H' g e=>⟨B,e,RVL.monoW g l B hb hl⟩
 have:=h (.ref p) _ _ g (by simp) (by unfold lB;simp) (by unfold RV;simp) F
 exact this
theorem ad9.tup {l:List lw}{B:List V}(h:ad9 Γ φ s H (.tup l) s Q)(r:Rp Γ φ H s)(hl:RVL Γ φ H l B)(hb:ly s.length l=true){p:Addr}(hp:H p=none):Q (.ref p) (upd H p (.tup B)):=by
 obtain⟨g,F⟩:=r.same (H':=upd H p (.tup B)) ((ad0.refl H).new hp)
 exact h _ _ _ g (ak _) (by unfold lB;exact hb) (RV.tupI zu (RVL.mono g l B hb hl)) F
theorem ad9.put {k:Nat}{l l0:List lw}{B:List V}{d:lw}{v:V}(h:ad9 Γ φ s H d (s.set k (.lst l)) Q)(r:Rp Γ φ H s)(hk:s[k]?=some (.lst l0))(hl:RVL Γ φ H l B)(hb:ly s.length l=true)
  (hd:d.bnd s.length=true) (hv:RV Γ φ H d v):Q v (upd H (φ k) (.lst B)):=by
 obtain⟨g,F⟩:=r.set (o:=.lst l) (u:=.lst B) hk rfl hb λ H' g e=>⟨B,e,RVL.monoW g l B hb hl⟩
 exact h _ _ _ g (by simp) (by rw[bp];exact hd) (RV.mono g d v hd hv) F
end
variable {Γ:Gm}
theorem keyOf_inj {a b:lw}{k:Key}(ha:aX3 a=some k)(hb:aX3 b=some k):a=b:=by
 cases a with
 | int i =>
  cases ha
  cases b with
  | int j=>cases hb;rfl
  | str y=>cases hb
  | _=>cases hb
 | str x =>
  cases ha
  cases b with
  | int j=>cases hb
  | str y =>
   have h:=ax hb
   injection h with h
   injection h with h
   have B:y=x:=by simpa using h
   rw[B]
  | _=>cases hb
 | _=>cases ha
theorem aq3 {d:lw}(h:d.key=true):∃ k,aX3 d=some k:=by
 cases d with
 | int i=>exact⟨_,rfl⟩
 | str x=>exact⟨_,rfl⟩
 | _=>cases h
theorem aU4 {φ:Nat->Addr}{H:Hp}{d:lw}{k:Key}{v:V}(h:aX3 d=some k)(r:RV Γ φ H d v):v=kV k:=by
 cases d with
 | int i=>cases h;exact r.intE
 | str x=>cases h;exact r.strE
 | _=>cases h
def bj4 {κ:Type}(kf:lw->Option κ):Prop:=∀ {a b:lw} {k:κ},kf a=some k->kf b=some k->a=b
theorem aU8:bj4 fOf:=λ {a b k} ha hb=>by
 cases a with
 | non=>cases ha;cases b with|non=>rfl|_=>cases hb
 | int i=>cases ha;cases b with|int j=>cases hb;rfl|_=>cases hb
 | str x=>cases ha;cases b with|str y=>cases hb;rfl|_=>cases hb
 | _=>cases ha
theorem aj9 {κ:Type}{f:lw->Option κ}(B:bj4 f):∀ {a b:List lw} {k:List κ},qR f a=some k->qR f b=some k->a=b
 | [],[],k,_,_=>rfl
 | [],y::b,k,ha,hb=>by
  cases ha
  unfold qR at hb
  split at hb<;>cases hb
 | x::a,[],k,ha,hb=>by
  cases hb
  unfold qR at ha
  split at ha<;>cases ha
 | x::a,y::b,k,ha,hb=>by
  unfold qR at ha hb
  split at ha
  ·rename_i k1 r1 e1 e2
   cases ha
   split at hb
   ·rename_i k2 r2 e3 F
    cases hb
    rw[B e1 e3,aj9 B e2 F]
   ·cases hb
  ·cases ha
theorem nOf_cases {d:lw}{k:NI}(h:nOf d=some k):(∃ l r,d=.tup l/\qR fOf l=some r/\k=.inr r)\/∃ f,fOf d=some f/\k=.inl f:=by
 cases d with
 | tup l =>
  obtain⟨r,e,q⟩:=bq.mp (show(qR fOf l).map .inr=some k from h)
  exact .inl ⟨l,r,rfl,e,q.symm⟩
 | non=>obtain⟨r,e,q⟩:=bq.mp (show(fOf .non).map .inl=some k from h);exact .inr ⟨r,e,q.symm⟩
 | int i=>obtain⟨r,e,q⟩:=bq.mp (show(fOf (.int i)).map .inl=some k from h);exact .inr ⟨r,e,q.symm⟩
 | str i=>obtain⟨r,e,q⟩:=bq.mp (show(fOf (.str i)).map .inl=some k from h);exact .inr ⟨r,e,q.symm⟩
 | _=>cases h
theorem bw5:bj4 nOf:=λ {a b k} ha hb=>by
 rcases nOf_cases ha with⟨l,r,rfl,e,rfl⟩|⟨f,e,rfl⟩
 ·rcases nOf_cases hb with⟨m,B,rfl,e',q⟩|⟨f,e',q⟩
  ·cases q;rw[aj9 aU8 e e']
  ·cases q
 ·rcases nOf_cases hb with⟨m,B,rfl,e',q⟩|⟨f',e',q⟩
  ·cases q
  ·cases q;exact aU8 e e'
theorem aq4 {d:lw}{k:List NI}(h:bM4 d=some k):∃ l,d=.tup l/\(lF l=true/\l.all lR=true/\l.length<=1000)/\ap8 l=some k:=by
 cases d with
 | tup l =>
  have h:(if(lF l&&(l.all lR&&decide (l.length<=1000)))=true then ap8 l else none)=some k:=h
  by_cases z:(lF l&&(l.all lR&&decide (l.length<=1000)))=true
  ·rw[if_pos z]at h;rw[ag,ag]at z;exact⟨l,rfl,⟨z.1,z.2.1,of_decide_eq_true z.2.2⟩,h⟩
  ·rw[if_neg z]at h;cases h
 | _=>cases h
theorem keyT_inj:bj4 bM4:=λ ha hb=>by
 obtain⟨l,rfl,_,F⟩:=aq4 ha
 obtain⟨m,rfl,_,B⟩:=aq4 hb
 rw[aj9 bw5 F B]
theorem ah0 {κ:Type}{f:lw->Option κ}{p:lw->Bool}(hp:∀ d,p d=true->∃ k,f d=some k):∀ {l:List lw},l.all p=true->∃ k,qR f l=some k
 | [],_=>⟨[],rfl⟩
 | d::l,h=>by
  rw[c8,ag]at h
  obtain⟨k,hk⟩:=hp d h.1
  obtain⟨r,hr⟩:=ah0 hp h.2
  exact⟨k::r,by unfold qR;rw[hk,hr]⟩
theorem aP9 (d:lw)(h:d.keyF=true):∃ k,fOf d=some k:=by
 cases d with
 | int i=>exact⟨_,rfl⟩
 | str x=>exact⟨_,rfl⟩
 | non=>exact⟨_,rfl⟩
 | _=>cases h
theorem aH1 {l:List lw}(h:(DV.D.tup l).keyS=true):lF l=true/\l.all nB=true/\l.length<=1000:=by
 have h:(lF l&&(l.all nB&&decide (l.length<=1000)))=true:=h
 rw[ag,ag]at h
 exact⟨h.1,h.2.1,of_decide_eq_true h.2.2⟩
theorem aO9 (d:lw)(h:d.keyS=true):∃ k,nOf d=some k:=by
 cases d with
 | tup l=>obtain⟨r,e⟩:=ah0 aP9 (aH1 h).2.1;exact⟨.inr r,by show(qR fOf l).map _=_;rw[e];rfl⟩
 | int i=>exact⟨_,rfl⟩
 | str x=>exact⟨_,rfl⟩
 | non=>exact⟨_,rfl⟩
 | _=>cases h
theorem ag5 {d:lw}(h:d.keyT=true):∃ k,bM4 d=some k:=by
 cases d with
 | tup l =>
  have h:(lF l&&(l.all lR&&decide (l.length<=1000)))=true:=h
  have h':=h
  rw[ag,ag]at h'
  obtain⟨k,hk⟩:=ah0 aO9 h'.2.1
  exact⟨k,by show(if(lF l&&(l.all lR&&decide (l.length<=1000)))=true then ap8 l else none)=some k;rw[if_pos h];exact hk⟩
 | _=>cases h
theorem cd3 {φ:Nat->Addr}{H:Hp}{d:lw}{k:FK}{v:V}(h:fOf d=some k)(r:RV Γ φ H d v):v=fV k:=by
 cases d with
 | non=>cases h;exact r.nonE
 | int i=>cases h;exact r.intE
 | str x=>cases h;exact r.strE
 | _=>cases h
theorem bD4 {φ:Nat->Addr}{H:Hp}:∀ {l:List lw} {k:List FK} {B:List V},qR fOf l=some k->RVL Γ φ H l B->B=k.map fV
 | [],k,B,h,r=>by cases h;exact r.unnil
 | d::l,k,B,h,r=>by
  unfold qR at h
  split at h
  ·rename_i k1 r1 e1 e2
   cases h
   obtain⟨x,ys,rfl,F,G⟩:=r.uncons
   rw[cd3 e1 F,bD4 e2 G,aS]
  ·cases h
theorem aV0 {φ:Nat->Addr}{H:Hp}:∀ {l:List lw} {k:List NI} {F:List V},ap8 l=some k->l.all lR=true->RVL Γ φ H l F->cN (NAt H) k F
 | [],k,F,h,_,r=>by cases h;cases r.unnil;exact .nil
 | d::l,k,F,h,z,r=>by
  unfold ap8 qR at h
  rw[c8,ag]at z
  split at h
  ·rename_i k1 r1 e1 e2
   cases h
   obtain⟨x,ys,rfl,B,G⟩:=r.uncons
   refine .cons ?_ (aV0 e2 z.2 G)
   rcases nOf_cases e1 with⟨m,q,rfl,e,rfl⟩|⟨f,e,rfl⟩
   ·obtain⟨a,F,e',J,Y⟩:=B.tupK (aH1 z.1).1
    rw[bD4 e Y]at J
    exact⟨a,e',J⟩
   ·exact cd3 e B
  ·cases h
theorem aq2 {φ:Nat->Addr}{H:Hp}{d:lw}{k:List NI}{v:V}(h:bM4 d=some k)(r:RV Γ φ H d v):∃ b,v=.ref b/\NK H k b:=by
 obtain⟨l,rfl,z,hk⟩:=aq4 h
 obtain⟨a,G,e,F,B⟩:=r.tupK z.1
 exact⟨a,e,G,F,aV0 hk z.2.1 B⟩
section
variable {κ:Type} [DecidableEq κ] {kf:lw->Option κ}
theorem RVD.val {φ:Nat->Addr}{H:Hp}{d:lw}{k:κ}(G:bj4 kf)(hk:kf d=some k):∀ {l:List (lw×lw)} {B:List (κ×V)},RVD kf Γ φ H l B->(lX d l=none/\az8 B k=none)\/∃ e v,lX d l=some e/\az8 B k=some v/\RV Γ φ H e v/\e∈l.map (·.2)
 | [],B,h=>by
  have h:B=[]:=h
  subst h
  exact .inl ⟨rfl,rfl⟩
 | (a,e)::l,B,h=>by
  obtain⟨F,v,r,rfl,e2,e3,J⟩:=h
  by_cases z:a=d
  ·subst z
   rw[hk]at e2;cases e2
   exact .inr ⟨e,v,by unfold lX;rw[if_pos rfl],ai9 rfl,e3,by simp⟩
  ·have Z:¬ F=k:=λ q=>z (G e2 (by rw[q];exact hk))
   have Y:lX d ((a,e)::l)=lX d l:=by
    conv=>lhs;unfold lX
    rw[if_neg z]
   rw[Y,ai6 (show ¬(F,v).1=k from Z)]
   rcases RVD.val G hk J with q|⟨e',v',q1,q2,q3,q4⟩
   ·exact .inl q
   ·exact .inr ⟨e',v',q1,q2,q3,by simp at q4 ⊢;exact .inr q4⟩
theorem RVD.repl {φ:Nat->Addr}{H:Hp}{d e:lw}{k:κ}{v:V}(G:bj4 kf)(hk:kf d=some k)(hv:RV Γ φ H e v):∀ {l:List (lw×lw)} {B:List (κ×V)},RVD kf Γ φ H l B->RVD kf Γ φ H (l.map λ p=>if p.1=d then(p.1,e)else p) (B.map λ F=>if F.1=k then(F.1,v)else F)
 | [],B,h=>by
  have h:B=[]:=h
  subst h;exact(rfl:([]:List (κ×V))=[])
 | (a,e0)::l,B,h=>by
  obtain⟨J,v0,r,rfl,e2,e3,Y⟩:=h
  rw[aS,aS]
  by_cases z:a=d
  ·subst z
   rw[hk]at e2;cases e2
   rw[if_pos rfl,if_pos rfl]
   exact⟨k,v,_,rfl,hk,hv,RVD.repl G hk hv Y⟩
  ·have Z:¬ J=k:=λ q=>z (G e2 (by rw[q];exact hk))
   rw[if_neg z,if_neg Z]
   exact⟨J,v0,_,rfl,e2,e3,RVD.repl G hk hv Y⟩
theorem RVD.snoc {φ:Nat->Addr}{H:Hp}{d e:lw}{k:κ}{v:V}(J:bj4 kf)(hk:kf d=some k)(hv:RV Γ φ H e v):∀ {l:List (lw×lw)} {B:List (κ×V)},RVD kf Γ φ H l B->RVD kf Γ φ H (l++[(d,e)]) (B++[(k,v)])
 | [],B,h=>by
  have h:B=[]:=h
  subst h;exact⟨k,v,[],rfl,hk,hv,rfl⟩
 | (a,e0)::l,B,h=>by
  obtain⟨F,v0,r,rfl,e2,e3,G⟩:=h
  exact⟨F,v0,_,rfl,e2,e3,RVD.snoc J hk hv G⟩
theorem RVD.put {φ:Nat->Addr}{H:Hp}{d e:lw}{k:κ}{v:V}{l:List (lw×lw)}{B:List (κ×V)}(F:bj4 kf)(hk:kf d=some k)(hv:RV Γ φ H e v)(h:RVD kf Γ φ H l B):RVD kf Γ φ H (lM d e l) (aA0 B k v):=by
 unfold lM aA0
 rw[ar0]
 rcases h.val F hk with⟨G,q2⟩|⟨e',v',G,q2,_⟩
 ·rw[G,q2];exact h.snoc F hk hv
 ·rw[G,q2];exact h.repl F hk hv
theorem RVD.get {φ:Nat->Addr}{H:Hp}:∀ {l:List (lw×lw)} {B:List (κ×V)} {i:Nat} {d e:lw},RVD kf Γ φ H l B->l[i]?=some (d,e)->∃ k v,B[i]?=some (k,v)/\kf d=some k/\RV Γ φ H e v
 | [],_,_,_,_,_,h=>by cases h
 | (a,b)::l,B,0,d,e,h,q=>by
  obtain⟨k,v,r,rfl,e2,e3,F⟩:=h
  cases q
  exact⟨k,v,rfl,e2,e3⟩
 | (a,b)::l,B,i+1,d,e,h,q=>by
  obtain⟨k,v,r,rfl,e2,e3,F⟩:=h
  exact RVD.get (i:=i) F (show l[i]?=some (d,e)from q)
theorem RVD.keys {φ:Nat->Addr}{H:Hp}:∀ {l:List (lw×lw)} {B:List (κ×V)},RVD kf Γ φ H l B->∀ kv∈B,∃ d,kf d=some kv.1
 | [],B,h,kv,hk=>by
  have h:B=[]:=h
  subst h;cases hk
 | (a,b)::l,B,h,kv,hk=>by
  obtain⟨k,v,r,rfl,e2,e3,F⟩:=h
  rcases aA.mp hk with z|z
  ·subst z;exact⟨a,e2⟩
  ·exact RVD.keys F kv z
theorem RVD.length {φ:Nat->Addr}{H:Hp}:∀ {l:List (lw×lw)} {B:List (κ×V)},RVD kf Γ φ H l B->B.length=l.length
 | [],B,h=>by
  have h:B=[]:=h
  subst h;rfl
 | (a,e)::l,B,h=>by
  obtain⟨G,v,r,rfl,e2,e3,F⟩:=h
  rw[bf,bf,RVD.length F]
end
theorem aF6 {n:Nat}{d e:lw}{l:List (lw×lw)}(h:(DV.O.dic l).bnd n=true)(hd:d.bnd n=true)(he:e.bnd n=true):(DV.O.dic (lM d e l)).bnd n=true:=by
 unfold lD at h ⊢
 rw[ag]at h ⊢
 obtain⟨J,G⟩:=h
 have g1:=aa8.mp J
 have F:=aa8.mp G
 unfold lM
 refine⟨aa8.mpr λ x hx=>?_,aa8.mpr λ x hx=>?_⟩
 ·obtain⟨p,hp,rfl⟩:=aP.mp hx
  split at hp
  ·obtain⟨q,B,rfl⟩:=aP.mp hp
   split
   ·exact g1 _ (bP (f:=(·.1)) B)
   ·exact g1 _ (bP (f:=(·.1)) B)
  ·rcases aW.mp hp with q|q
   ·exact g1 _ (bP (f:=(·.1)) q)
   ·rw[aI.mp q];exact hd
 ·obtain⟨p,hp,rfl⟩:=aP.mp hx
  split at hp
  ·obtain⟨q,B,rfl⟩:=aP.mp hp
   split
   ·exact he
   ·exact F _ (bP (f:=(·.2)) B)
  ·rcases aW.mp hp with q|q
   ·exact F _ (bP (f:=(·.2)) q)
   ·rw[aI.mp q];exact he
theorem bd8 {n:Nat}{d e:lw}{l:List (lw×lw)}(h:(DV.O.dit l).bnd n=true)(hd:d.bnd n=true)(he:e.bnd n=true):(DV.O.dit (lM d e l)).bnd n=true:=aF6 h hd he
theorem aj2 {f:lw->lw->Option Bool}{a b:lw}{l m:List lw}{z:Bool}(h:lN f (a::l) (b::m)=some z):∃ x y,f a b=some x/\lN f l m=some y/\z=(x&&y):=by
 unfold lN at h
 cases e1:f a b with
 | none=>rw[e1]at h;cases h
 | some x =>
  cases e2:lN f l m with
  | none=>rw[e1,e2]at h;cases h
  | some y=>rw[e1,e2]at h;exact⟨x,y,rfl,rfl,(ax h).symm⟩
theorem aP6 {f:lw->lw->Option Bool}:∀ {l m:List lw} {z:Bool},lN f l m=some z->∃ e:Nat->Bool,(∀ j d d',l[j]?=some d->m[j]?=some d'->f d d'=some (e j))/\((l.length==m.length)&&(aU (min l.length m.length)).all e)=z
 | [],[],z,h=>by
  unfold lN at h
  cases h
  exact⟨λ _=>true,λ j d d' h=>by simp at h,by simp⟩
 | [],b::m,z,h=>by
  unfold lN at h
  cases h
  exact⟨λ _=>true,λ j d d' h=>by simp at h,by simp⟩
 | a::l,[],z,h=>by
  unfold lN at h
  cases h
  exact⟨λ _=>true,λ j d d' G B=>by simp at B,by simp⟩
 | a::l,b::m,z,h=>by
  obtain⟨x,y,e1,e2,J⟩:=aj2 h
  obtain⟨e,G,B⟩:=aP6 e2
  refine⟨λ j=>match j with|0=>x|j+1=>e j,λ j d d' g1 F=>?_,?_⟩
  ·cases j with
   | zero=>simp at g1 F;subst g1;subst F;exact e1
   | succ j=>exact G j d d' (by simpa using g1) (by simpa using F)
  ·rw[bf,bf,show min (l.length+1) (m.length+1)=min l.length m.length+1 by omega,d5,c8,kU,J,<-B]
   have:((l.length+1==m.length+1)=(l.length==m.length)):=by
    by_cases q:l.length=m.length
    ·simp[q]
    ·have:¬ l.length+1=m.length+1:=by omega
     simp[q]
   rw[this]
   show((l.length==m.length)&&(x&&(aU _).all e))=_
   cases x<;>cases(l.length==m.length)<;>simp
section
variable {X:Cx} {pins:List (Addr×Obj)} {σ:St} {H:Hp} {sh:af} {φ:Nat->Addr} {s:lv}
theorem al3 (I:Inv X pins σ H sh){a:Addr}{B ys:List V}(h:H a=some (.lst B))(h':SqT X.K H a ys):False:=by
 rcases h' with(z|⟨o,z⟩)|⟨o,its,n,hk,_⟩
 ·rw[h]at z;cases z
 ·rw[h]at z;cases z
 ·have:=(I.bs a o (I.mod.kin a o hk)).2
  rw[h]at this;cases this
theorem rv_two (I:Inv X pins σ H sh)(hK:X.K=Γ.K)(R:Rp Γ φ H s){a b:lw}{x:V}(J:RV Γ φ H a x)(B:RV Γ φ H b x)(n1:lP s a≠9)(F:lP s b≠9):a=b\/∃ l m p Y,a=.tup l/\b=.tup m/\x=.ref p/\RVL Γ φ H l Y/\RVL Γ φ H m Y:=by
 have G:∀ {r:Nat},lP s (.ref r)≠9->∃ l,s[r]?=some (.lst l):=λ {r} h=>by
  have h:(match s[r]? with|some (DV.O.lst l)=>4|_=>9:Nat)≠9:=h
  cases hs:s[r]? with
  | none=>rw[hs]at h;exact absurd rfl h
  | some o =>
   rw[hs]at h
   cases o with
   | lst l=>exact⟨l,rfl⟩
   | _=>exact absurd rfl h
 cases a with
 | non=>have e:=J.nonE;subst e;cases b with
  | non=>exact .inl rfl
  | bl _=>cases B.blE
  | int _=>cases B.intE
  | str _=>cases B.strE
  | tup _=>obtain⟨_,_,e,_⟩:=B.tupE;cases e
  | ref _=>cases B.refE
  | fn _=>exact absurd rfl F
  | clo _ _=>exact absurd rfl F
 | bl p=>have e:=J.blE;subst e;cases b with
  | non=>cases B.nonE
  | bl _=>cases B.blE;exact .inl rfl
  | int _=>cases B.intE
  | str _=>cases B.strE
  | tup _=>obtain⟨_,_,e,_⟩:=B.tupE;cases e
  | ref _=>cases B.refE
  | fn _=>exact absurd rfl F
  | clo _ _=>exact absurd rfl F
 | int p=>have e:=J.intE;subst e;cases b with
  | non=>cases B.nonE
  | bl _=>cases B.blE
  | int _=>cases B.intE;exact .inl rfl
  | str _=>cases B.strE
  | tup _=>obtain⟨_,_,e,_⟩:=B.tupE;cases e
  | ref _=>cases B.refE
  | fn _=>exact absurd rfl F
  | clo _ _=>exact absurd rfl F
 | str p=>have e:=J.strE;subst e;cases b with
  | non=>cases B.nonE
  | bl _=>cases B.blE
  | int _=>cases B.intE
  | str q =>
   have e':p.toArray=q.toArray:=Str.mk.inj (V.str.inj B.strE)
   have a0:p=q:=by simpa using congrArg jE e'
   subst a0;exact .inl rfl
  | tup _=>obtain⟨_,_,e,_⟩:=B.tupE;cases e
  | ref _=>cases B.refE
  | fn _=>exact absurd rfl F
  | clo _ _=>exact absurd rfl F
 | tup l =>
  obtain⟨p,Y,e,Z,d1⟩:=J.tupE;subst e;cases b with
  | non=>cases B.nonE
  | bl _=>cases B.blE
  | int _=>cases B.intE
  | str _=>cases B.strE
  | tup m =>
   obtain⟨p',ys,e,q2,d2⟩:=B.tupE
   cases e
   rw[<-hK]at Z q2
   rw[I.tuple_inj q2 Z]at d2
   exact .inr ⟨l,m,p,Y,rfl,rfl,rfl,d1,d2⟩
  | ref r =>
   cases B.refE
   obtain⟨m,hm⟩:=G F
   obtain⟨ys,hy,_⟩:=R.addr hm
   rw[<-hK]at Z
   exact(al3 I hy Z).elim
  | fn _=>exact absurd rfl F
  | clo _ _=>exact absurd rfl F
 | ref r =>
  have e:=J.refE;subst e
  obtain⟨l,hl⟩:=G n1
  obtain⟨Y,hx,_⟩:=R.addr hl
  cases b with
  | non=>cases B.nonE
  | bl _=>cases B.blE
  | int _=>cases B.intE
  | str _=>cases B.strE
  | tup m =>
   obtain⟨p',ys,e,q2,d2⟩:=B.tupE
   cases e
   rw[<-hK]at q2
   exact(al3 I hx q2).elim
  | ref r' =>
   obtain⟨m,hm⟩:=G F
   have e:φ r=φ r':=V.ref.inj B.refE
   rw[R.inj r r' _ _ hl hm rfl rfl e]
   exact .inl rfl
  | fn _=>exact absurd rfl F
  | clo _ _=>exact absurd rfl F
 | fn _=>exact absurd rfl n1
 | clo _ _=>exact absurd rfl n1
theorem qO {a b:lw}{z:Bool}(h:lS s a b=some z):nu a b=some z\/(nu a b=none/\mD (lP s a) (lP s b)=false/\z=false):=by
 unfold lS at h
 cases e:nu a b with
 | some w=>rw[e]at h;exact .inl h
 | none =>
  rw[e]at h
  cases q:mD (lP s a) (lP s b)with
  | true=>rw[q]at h;cases h
  | false=>rw[q]at h;exact .inr ⟨rfl,rfl,(ax h).symm⟩
theorem bb2 {a b:lw}{z:Bool}(h:nu a b=some z):lP s a≠9/\lP s b≠9:=by
 cases a<;>cases b<;>first|(cases h;done)|(constructor<;>(intro z;cases z))
theorem ag2 {a b:lw}{z:Bool}(h:lS s a b=some z):lP s a≠9/\lP s b≠9:=by
 rcases qO h with h|⟨_,h,_⟩
 ·exact bb2 h
 ·unfold mD at h
  simp only[eY,beq_eq_false_iff_ne]at h
  exact⟨h.1.1,h.1.2⟩
theorem aA5 {a:lw}{z:Bool}(h:lS s a a=some z):z=true:=by
 rcases qO h with h|⟨_,h,_⟩
 ·cases a<;>cases h<;>first|rfl|exact beq_self_eq_true _
 ·unfold mD at h;simp at h
theorem aJ0 (I:Inv X pins σ H sh)(hK:X.K=Γ.K)(R:Rp Γ φ H s):∀(n:Nat) (a b:lw) (x:V) (z:Bool),lG s n a b=some z->RV Γ φ H a x->RV Γ φ H b x->z=true:=by
 have J:∀(a b:lw) (x:V) (z:Bool),lS s a b=some z->RV Γ φ H a x->RV Γ φ H b x->z=true:=by
  intro a b x z h B F
  rcases rv_two I hK R B F (ag2 h).1 (ag2 h).2 with e|⟨l,m,_,_,rfl,rfl,_⟩
  ·subst e;exact aA5 h
  ·rcases qO h with h|⟨_,h,_⟩
   ·cases h
   ·unfold mD at h;simp[lP]at h
 intro n
 induction n with
 | zero=>intro a b x z h;unfold lG at h;exact J a b x z h
 | succ n ih =>
  have Y:∀(l m:List lw) (G:List V) (z:Bool),lN (lG s n) l m=some z->RVL Γ φ H l G->RVL Γ φ H m G->z=true:=by
   intro l
   induction l with
   | nil =>
    intro m G z h B F
    cases m with
    | nil=>unfold lN at h;exact(ax h).symm
    | cons b m=>obtain⟨x,r,e,_⟩:=F.uncons;rw[B.unnil]at e;cases e
   | cons a l ihl =>
    intro m G z h B F
    cases m with
    | nil=>obtain⟨x,r,e,_⟩:=B.uncons;rw[F.unnil]at e;cases e
    | cons b m =>
     obtain⟨p,q,e1,e2,ez⟩:=aj2 h
     obtain⟨v,r,rfl,g1,g2⟩:=B.uncons
     obtain⟨v',r',e,g3,g4⟩:=F.uncons
     cases e
     rw[ez,ih a b v p e1 g1 g3,ihl m r q e2 g2 g4];rfl
  intro a b x z h B F
  unfold lG at h
  split at h
  ·rename_i l m
   obtain⟨a,G,rfl,q1,d1⟩:=B.tupE
   obtain⟨b,ys,e,q2,d2⟩:=F.tupE
   cases e
   rw[<-hK]at q1 q2
   rw[I.tuple_inj q2 q1]at d2
   exact Y l m G z h d1 d2
  ·rename_i p q
   split at h
   ·rename_i l m hl hm
    obtain⟨G,e1,d1⟩:=R.addr hl
    obtain⟨ys,e2,d2⟩:=R.addr hm
    have e:=B.refE.symm.trans F.refE
    have e':φ p=φ q:=V.ref.inj e
    rw[e',e2]at e1
    have e3:ys=G:=by injection (ax e1)
    subst e3
    split at h
    ·exact Y l m ys z h d1 d2
    ·rename_i Z;exact absurd (d1.length.symm.trans d2.length) Z
   ·cases h
  ·exact J a b x z h B F
end
variable {Γ:Gm}
inductive Vw (sh:af):Nat->Value->Prop where
 | non:Vw sh 0 .none
 | bl (b:Bool):Vw sh 1 (.bool b)
 | int (i:Int) (t:Tok):Vw sh 1 (.int i t)
 | str (x:Str) (t:Tok):Vw sh 2 (.str x t)
 | tup {l:Addr} {items:Array Value} (h:sh.heap.IsTuple l items):Vw sh 3 (.ref l)
 | lst {l:Addr} {items:Array Value} (h:sh.heap.IsList l items):Vw sh 4 (.ref l)
theorem Vw.eq {A:aN}{sh:af}{k F:Nat}{u v:Value}(a:Vw sh k u)(b:Vw sh F v)(B:k≠F)(hu:A.units<cLine):gY A sh u v false:=by
 cases a with
 | non=>cases b with
  | non=>exact absurd rfl B
  | bl b=>exact SeqAt.EqAt.none_bool b
  | int i t=>exact i4 i t
  | str x t=>exact i5 x t
  | tup h=>exact ie h hu
  | lst h=>exact SeqAt.EqAt.none_list h hu
 | bl a=>cases b with
  | non=>exact SeqAt.EqAt.bool_none a
  | bl b=>exact absurd rfl B
  | int i t=>exact absurd rfl B
  | str x t=>exact SeqAt.EqAt.bool_str a x t
  | tup h=>exact SeqAt.EqAt.bool_tuple a h hu
  | lst h=>exact SeqAt.EqAt.bool_list a h hu
 | int a q=>cases b with
  | non=>exact i6 a q
  | bl b=>exact absurd rfl B
  | int i t=>exact absurd rfl B
  | str x t=>exact jm a q x t
  | tup h=>exact iz a q h hu
  | lst h=>exact SeqAt.EqAt.int_list a q h hu
 | str a q=>cases b with
  | non=>exact i7 a q
  | bl b=>exact SeqAt.EqAt.str_bool a q b
  | int i t=>exact jn a q i t
  | str x t=>exact absurd rfl B
  | tup h=>exact iA a q h hu
  | lst h=>exact SeqAt.EqAt.str_list a q h hu
 | tup g=>cases b with
  | non=>exact ig g hu
  | bl b=>exact SeqAt.EqAt.tuple_bool b g hu
  | int i t=>exact iB i t g hu
  | str x t=>exact iC x t g hu
  | tup h=>exact absurd rfl B
  | lst h=>exact SeqAt.EqAt.tuple_list g h hu
 | lst g=>cases b with
  | non=>exact SeqAt.EqAt.list_none g hu
  | bl b=>exact SeqAt.EqAt.list_bool b g hu
  | int i t=>exact SeqAt.EqAt.list_int i t g hu
  | str x t=>exact SeqAt.EqAt.list_str x t g hu
  | tup h=>exact SeqAt.EqAt.list_tuple g h hu
  | lst h=>exact absurd rfl B
theorem Vw.rc {A:aN}{sh:af}{k F:Nat}{u v:Value}(a:Vw sh k u)(b:Vw sh F v)(B:k≠F)(hu:A.units<cLine):lr A sh u v false:=by
 cases a with
 | non=>cases b with
  | non=>exact absurd rfl B
  | bl b=>exact SeqAt.RcAt.none_bool b
  | int i t=>exact SeqAt.RcAt.none_int i t
  | str x t=>exact SeqAt.RcAt.none_str x t
  | tup h=>exact SeqAt.RcAt.none_tuple h hu
  | lst h=>exact SeqAt.RcAt.none_list h hu
 | bl a=>cases b with
  | non=>exact SeqAt.RcAt.bool_none a
  | bl b=>exact absurd rfl B
  | int i t=>exact absurd rfl B
  | str x t=>exact SeqAt.RcAt.bool_str a x t
  | tup h=>exact SeqAt.RcAt.bool_tuple a h hu
  | lst h=>exact SeqAt.RcAt.bool_list a h hu
 | int a q=>cases b with
  | non=>exact SeqAt.RcAt.int_none a q
  | bl b=>exact absurd rfl B
  | int i t=>exact absurd rfl B
  | str x t=>exact SeqAt.RcAt.int_str a q x t
  | tup h=>exact SeqAt.RcAt.int_tuple a q h hu
  | lst h=>exact SeqAt.RcAt.int_list a q h hu
 | str a q=>cases b with
  | non=>exact SeqAt.RcAt.str_none a q
  | bl b=>exact SeqAt.RcAt.str_bool a q b
  | int i t=>exact SeqAt.RcAt.str_int a q i t
  | str x t=>exact absurd rfl B
  | tup h=>exact SeqAt.RcAt.str_tuple a q h hu
  | lst h=>exact SeqAt.RcAt.str_list a q h hu
 | tup g=>cases b with
  | non=>exact SeqAt.RcAt.tuple_none g hu
  | bl b=>exact SeqAt.RcAt.tuple_bool b g hu
  | int i t=>exact SeqAt.RcAt.tuple_int i t g hu
  | str x t=>exact SeqAt.RcAt.tuple_str x t g hu
  | tup h=>exact absurd rfl B
  | lst h=>exact SeqAt.RcAt.tuple_list g h hu
 | lst g=>cases b with
  | non=>exact SeqAt.RcAt.list_none g hu
  | bl b=>exact SeqAt.RcAt.list_bool b g hu
  | int i t=>exact SeqAt.RcAt.list_int i t g hu
  | str x t=>exact SeqAt.RcAt.list_str x t g hu
  | tup h=>exact SeqAt.RcAt.list_tuple g h hu
  | lst h=>exact absurd rfl B
theorem Vw.ne {A:aN}{sh:af}{k F:Nat}{u v:Value}(a:Vw sh k u)(b:Vw sh F v)(B:k≠F)(hu:A.units<cLine):kY A sh u v true:=by
 cases a with
 | non=>cases b with
  | non=>exact absurd rfl B
  | bl b=>exact SeqAt.RcNeAt.none_bool b
  | int i t=>exact SeqAt.RcNeAt.none_int i t
  | str x t=>exact SeqAt.RcNeAt.none_str x t
  | tup h=>exact SeqAt.RcNeAt.none_tuple h hu
  | lst h=>exact SeqAt.RcNeAt.none_list h hu
 | bl a=>cases b with
  | non=>exact SeqAt.RcNeAt.bool_none a
  | bl b=>exact absurd rfl B
  | int i t=>exact absurd rfl B
  | str x t=>exact SeqAt.RcNeAt.bool_str a x t
  | tup h=>exact SeqAt.RcNeAt.bool_tuple a h hu
  | lst h=>exact SeqAt.RcNeAt.bool_list a h hu
 | int a q=>cases b with
  | non=>exact SeqAt.RcNeAt.int_none a q
  | bl b=>exact absurd rfl B
  | int i t=>exact absurd rfl B
  | str x t=>exact SeqAt.RcNeAt.int_str a q x t
  | tup h=>exact SeqAt.RcNeAt.int_tuple a q h hu
  | lst h=>exact SeqAt.RcNeAt.int_list a q h hu
 | str a q=>cases b with
  | non=>exact SeqAt.RcNeAt.str_none a q
  | bl b=>exact SeqAt.RcNeAt.str_bool a q b
  | int i t=>exact SeqAt.RcNeAt.str_int a q i t
  | str x t=>exact absurd rfl B
  | tup h=>exact SeqAt.RcNeAt.str_tuple a q h hu
  | lst h=>exact SeqAt.RcNeAt.str_list a q h hu
 | tup g=>cases b with
  | non=>exact SeqAt.RcNeAt.tuple_none g hu
  | bl b=>exact SeqAt.RcNeAt.tuple_bool b g hu
  | int i t=>exact SeqAt.RcNeAt.tuple_int i t g hu
  | str x t=>exact SeqAt.RcNeAt.tuple_str x t g hu
  | tup h=>exact absurd rfl B
  | lst h=>exact SeqAt.RcNeAt.tuple_list g h hu
 | lst g=>cases b with
  | non=>exact SeqAt.RcNeAt.list_none g hu
  | bl b=>exact SeqAt.RcNeAt.list_bool b g hu
  | int i t=>exact SeqAt.RcNeAt.list_int i t g hu
  | str x t=>exact SeqAt.RcNeAt.list_str x t g hu
  | tup h=>exact SeqAt.RcNeAt.list_tuple g h hu
  | lst h=>exact absurd rfl B
theorem bC3 (a b:List Nat):((⟨a.toArray⟩:Str)==⟨b.toArray⟩)=(a==b):=by
 by_cases e:a=b
 ·subst e;simp
 ·have:(⟨a.toArray⟩:Str)≠⟨b.toArray⟩:=λ q=>e (by simpa using congrArg (λ z=>z.cps.toList) q)
  rw[beq_eq_false_iff_ne.mpr this,beq_eq_false_iff_ne.mpr e]
structure Cmp (A:aN)(sh:af)(u v:Value)(z:Bool):Prop where
 rc:lr A sh u v z
 ne:kY A sh u v (!z)
section
variable {X:Cx} {pins:List (Addr×Obj)} {σ:St} {H:Hp} {sh:af} {φ:Nat->Addr} {s:lv}
theorem bE1 (I:Inv X pins σ H sh)(hK:X.K=Γ.K)(R:Rp Γ φ H s){d:lw}{x:V}{u:Value}(h:RV Γ φ H d x)(r:RelV x u)(hk:lP s d≠9):Vw sh (lP s d) u:=by
 cases d with
 | non=>have e:=h.nonE;subst e;cases r;exact .non
 | bl b=>have e:=h.blE;subst e;cases r;exact .bl b
 | int i=>have e:=h.intE;subst e;obtain⟨t,rfl⟩:=r;exact .int i t
 | str y=>have e:=h.strE;subst e;obtain⟨t,rfl⟩:=r;exact .str _ t
 | tup l =>
  obtain⟨a,B,e,q,_⟩:=h.tupE
  subst e;cases r
  rw[<-hK]at q
  obtain⟨its,_,t,_⟩:=I.tuple q
  exact .tup t
 | ref n =>
  have e:=h.refE;subst e;cases r
  have hk:(match s[n]? with|some (DV.O.lst l)=>4|_=>9:Nat)≠9:=hk
  show Vw sh (match s[n]? with|some (DV.O.lst l)=>4|_=>9:Nat) _
  cases hs:s[n]? with
  | none=>rw[hs]at hk;exact absurd rfl hk
  | some o =>
   rw[hs]at hk
   cases o with
   | lst l =>
    obtain⟨B,e,_⟩:=R.addr hs
    obtain⟨its,_,t,_⟩:=I.list (SqL.of e)
    exact .lst t.isList
   | _=>exact absurd rfl hk
 | fn _=>exact absurd rfl hk
 | clo _ _=>exact absurd rfl hk
theorem ax3 (I:Inv X pins σ H sh)(hK:X.K=Γ.K)(R:Rp Γ φ H s){a b:lw}{x y:V}{u v:Value}{A:aN}{z:Bool}(h:lS s a b=some z)(F:RV Γ φ H a x)(B:RV Γ φ H b y)(r1:RelV x u)(r2:RelV y v)(hu:A.units<cLine) :
  gY A sh u v z/\Cmp A sh u v z:=by
 rcases qO h with h|⟨_,hn,hz⟩
 ·cases a<;>cases b<;>try cases h
  ·cases F.nonE;cases B.nonE;cases r1;cases r2
   exact⟨dN _,SeqAt.RcAt.none_none,SeqAt.RcNeAt.none_none⟩
  ·cases F.blE;cases B.blE;cases r1;cases r2
   exact⟨SeqAt.EqAt.bool_bool _ _,SeqAt.RcAt.bool_bool _ _,SeqAt.RcNeAt.bool_bool _ _⟩
  ·cases F.blE;cases B.intE;cases r1;obtain⟨t',rfl⟩:=r2
   exact⟨SeqAt.EqAt.bool_int _ _ _,SeqAt.RcAt.bool_int _ _ _,SeqAt.RcNeAt.bool_int _ _ _⟩
  ·cases F.intE;cases B.blE;obtain⟨t,rfl⟩:=r1;cases r2
   exact⟨SeqAt.EqAt.int_bool _ _ _,SeqAt.RcAt.int_bool _ _ _,SeqAt.RcNeAt.int_bool _ _ _⟩
  ·cases F.intE;cases B.intE;obtain⟨t,rfl⟩:=r1;obtain⟨t',rfl⟩:=r2
   exact⟨SeqAt.EqAt.int_int _ _ _ _,SeqAt.RcAt.int_int _ _ _ _,SeqAt.RcNeAt.int_int _ _ _ _⟩
  ·cases F.strE;cases B.strE;obtain⟨t,rfl⟩:=r1;obtain⟨t',rfl⟩:=r2
   rw[<-bC3]
   exact⟨SeqAt.EqAt.str_str _ _ _ _,SeqAt.RcAt.str_str _ _ _ _,SeqAt.RcNeAt.str_str _ _ _ _⟩
 ·subst hz
  unfold mD at hn
  simp only[eY,beq_eq_false_iff_ne]at hn
  have G:=bE1 I hK R F r1 hn.1.1
  have w2:=bE1 I hK R B r2 hn.1.2
  exact⟨G.eq w2 hn.2 hu,G.rc w2 hn.2 hu,G.ne w2 hn.2 hu⟩
theorem aV6 (I:Inv X pins σ H sh)(hK:X.K=Γ.K)(R:Rp Γ φ H s):∀(n:Nat) (a b:lw) (x y:V) (u v:Value) (A:aN) (z:Bool),lG s n a b=some z->RV Γ φ H a x->RV Γ φ H b y->RelV x u->RelV y v->Room n A ->
  gY A sh u v z/\Cmp A sh u v z:=by
 intro n
 induction n with
 | zero=>intro a b x y u v A z h Y Z r1 r2 hr;unfold lG at h;exact ax3 I hK R h Y Z r1 r2 hr.units0
 | succ n ih =>
  have B:∀ {l m:List lw} {xs ys:List V} {its its':List Value} {A:aN} {e:Nat->Bool},RVL Γ φ H l xs->RVL Γ φ H m ys->Vals xs its->Vals ys its'->Room n A->(∀ j d d',l[j]?=some d->m[j]?=some d'->lG s n d d'=some (e j)) ->
    ∀ j (Y:j<its.toArray.size) (Z:j<its'.toArray.size),gY A sh its.toArray[j] its'.toArray[j] (e j):=by
   intro l m xs ys its its' A e d1 d2 v1 J hr he j Y Z
   have l1:=v1.length
   have l2:=J.length
   have e1:=d1.length
   have e2:=d2.length
   have a2:j<its.length:=by simpa using Y
   have a4:j<its'.length:=by simpa using Z
   have hj:j<l.length:=by omega
   have a1:j<m.length:=by omega
   obtain⟨x,ex,dx⟩:=d1.get (aj hj)
   obtain⟨y,ey,dy⟩:=d2.get (aj a1)
   obtain⟨u,eu,ru⟩:=v1.get ex
   obtain⟨w,ew,a3⟩:=J.get ey
   have g1:its.toArray[j]=u:=by
    have:=aj a2
    rw[eu]at this
    simpa using(ax this).symm
   have g2:its'.toArray[j]=w:=by
    have:=aj a4
    rw[ew]at this
    simpa using(ax this).symm
   rw[g1,g2]
   exact(ih _ _ x y u w A (e j) (he j _ _ (aj hj) (aj a1)) dx dy ru a3 hr).1
  intro a b x y u v A z h Y Z r1 r2 hr
  have hz:=h
  unfold lG at h
  split at h
  ·rename_i l m
   obtain⟨p,xs,ex,q1,d1⟩:=id Y.tupE
   obtain⟨q,ys,ey,q2,d2⟩:=id Z.tupE
   subst ex;subst ey
   cases r1;cases r2
   rw[<-hK]at q1 q2
   obtain⟨its,v1,t1,_⟩:=I.tuple q1
   obtain⟨its',J,t2,_⟩:=I.tuple q2
   obtain⟨e,he,F⟩:=aP6 h
   have l1:=v1.length
   have l2:=J.length
   have e1:=d1.length
   have e2:=d2.length
   have sz:((aU (min its.toArray.size its'.toArray.size)).all e&&its.toArray.size==its'.toArray.size)=z:=by
    rw[<-F,Bool.and_comm,show its.toArray.size=l.length by simp;omega,show its'.toArray.size=m.length by simp;omega]
   have key:=jB (A:=A) (s:=sh) (e:=e) t1 t2 hr.units0 (B d1 d2 v1 J hr.in1 he)
   have G:=SeqAt.RcNeAt.tuples (A:=A) (s:=sh) (e:=e) t1 t2 hr.units0 (B d1 d2 v1 J hr.in1 he)
   rw[sz]at key G
   refine⟨?_,key,G⟩
   by_cases hab:p=q
   ·subst hab
    rw[aJ0 I hK R _ _ _ _ _ hz Y Z]
    exact dN _
   ·exact fG hab key
  ·rename_i p q
   split at h
   ·rename_i l m hl hm
    obtain⟨xs,e1,d1⟩:=R.addr hl
    obtain⟨ys,e2,d2⟩:=R.addr hm
    have ex:=Y.refE
    have ey:=Z.refE
    subst ex;subst ey
    cases r1;cases r2
    obtain⟨its,v1,t1,_⟩:=I.list (SqL.of e1)
    obtain⟨its',J,t2,_⟩:=I.list (SqL.of e2)
    have l1:=v1.length
    have l2:=J.length
    have c1:=d1.length
    have c2:=d2.length
    have fin:Cmp A sh (.ref (φ p)) (.ref (φ q)) z:=by
     split at h
     ·rename_i a0
      obtain⟨e,he,F⟩:=aP6 h
      have sz:(aU its.toArray.size).all e=z:=by
       rw[<-F,show its.toArray.size=l.length by simp;omega,a0]
       simp
      have key:=SeqAt.RcAt.lists (A:=A) (s:=sh) (e:=e) t1.isList t2.isList (by simp;omega) hr.units0 (B d1 d2 v1 J hr.in1 he)
      have G:=SeqAt.RcNeAt.lists (A:=A) (s:=sh) (e:=e) t1.isList t2.isList (by simp;omega) hr.units0 (B d1 d2 v1 J hr.in1 he)
      rw[sz]at key G
      exact⟨key,G⟩
     ·rename_i a0
      cases h
      have hs:(its.toArray.size != its'.toArray.size)=true:=by simp;omega
      exact⟨SeqAt.RcAt.lists_lengths t1.isList t2.isList hs hr.units0,SeqAt.RcNeAt.lists_lengths t1.isList t2.isList hs hr.units0⟩
    refine⟨?_,fin⟩
    by_cases hab:φ p=φ q
    ·rw[aJ0 I hK R _ _ _ _ _ hz RV.refI (by rw[hab];exact RV.refI),hab]
     exact dN _
    ·exact fG hab fin.rc
   ·cases h
  ·exact ax3 I hK R h Y Z r1 r2 hr.units0
end
variable {Γ:Gm} {X:Cx}
noncomputable def bU7:nD->ku
 | .add=>.Add|.sub=>.Sub|.mul=>.Mult|.fdiv=>.FloorDiv|.mod=>.Mod|.pow=>.Pow|.shl=>.LShift|.shr=>.RShift|.band=>.BitAnd|.bor=>.BitOr
noncomputable def by2:nv->CmpOp
 | .eq=>.Eq|.ne=>.NotEq|.lt=>.Lt|.le=>.LtE|.gt=>.Gt|.ge=>.GtE|.isin=>.In|.notin=>.NotIn
def rOp (Γ:Gm)(f:lw->lw->lv->lz lw):R2:=λ x y H Q=>∃ φ s a b d s',Rp Γ φ H s/\RV Γ φ H a x/\RV Γ φ H b y/\a.bnd s.length=true/\b.bnd s.length=true/\f a b s=.ok d s'/\ad9 Γ φ s H d s' Q
theorem qh {d e:lw}{s t:lv}(h:nE d s=.ok e t):d=e/\s=t:=by
 unfold nE at h
 cases h
 exact⟨rfl,rfl⟩
theorem qr {o:lV}{e:lw}{s t:lv}(h:mF o s=.ok e t):e=.ref s.length/\t=s++[o]:=by
 unfold mF at h
 cases h
 exact⟨rfl,rfl⟩
theorem aU0 (a b:List Nat):(⟨a.toArray⟩:Str)++⟨b.toArray⟩=⟨(a++b).toArray⟩:=by
 show Str.append _ _=_
 unfold Str.append
 simp
theorem zM:lE<=aJ:=by rw[fR];decide
theorem br4:OpR X (cr .Mult) (rI (λ i j=>DV.mulOk i j=true) λ i j=>.int (i*j)):=opI λ i j _ _ _ _ _ hc q=>mul_int q (by
 unfold DV.mulOk at hc
 simp only[bK,ag,decide_eq_true_eq]at hc
 rcases hc with(h|h)|⟨F,B⟩
 ·exact bS6.ok (.inl (by omega))
 ·exact bS6.ok (.inr (by omega))
 ·unfold DV.BIG at F B
  exact IntMulOk.of_le (m:=60000) (n:=60000) (intBits_le_iff.mpr F) (intBits_le_iff.mpr B) (by decide))
theorem aH4 (l:List Nat):∀(n:Nat) (B:Array Nat),(aq n l.toArray).foldl (·++·) B=B++(lO n l).toArray
 | 0,B=>by simp[lO]
 | n+1,B=>by
  rw[bG,cZ,aH4 l n]
  simp[lO,jo]
theorem bt9 (l:List Nat):lO 1 l=l:=by simp[lO]
theorem aP4:∀ n,lO n []=[]
 | 0=>rfl
 | n+1=>by simp[lO,aP4 n]
theorem rep_len (l:List Nat):∀ n,(lO n l).length=l.length*n
 | 0=>by simp[lO]
 | n+1=>by simp[lO,rep_len l n,j9];omega
theorem bu7:OpR X (cr .Mult) (λ x y H Q=>∃(l:List Nat) (n:Int),x=.str ⟨l.toArray⟩/\y=.int n/\(0<=n/\n<=1000000/\l.length*n.toNat<=lE)/\Q (.str ⟨(lO n.toNat l).toArray⟩) H):=by
 intro G s σ H x y v u Q I J ry h
 obtain⟨l,n,rfl,rfl,⟨h0,Y,h2⟩,q⟩:=h
 obtain⟨t,rfl⟩:=J
 obtain⟨t',rfl⟩:=ry
 have B:(⟨l.toArray⟩:Str).length=l.length:=by show l.toArray.size=_;simp
 have hL:=zM
 have a0:=ak3
 refine SB.mul ⟨?_,λ hn _=>?_,λ hn _=>?_⟩ λ t2 k=>?_
 ·rw[decide_eq_false (by omega),decide_eq_false (by omega)];rfl
 ·rw[B]
  have F:1<=n:=by omega
  intro Z
  have h3:(l.length:Int)*n<=1000000:=by
   have:((l.length*n.toNat:Nat):Int)<=(lE:Nat):=Int.ofNat_le.mpr h2
   rw[kg,fm h0]at this
   have e:((lE:Nat):Int)=1000000:=by unfold lE;rfl
   omega
  have h4:(l.length:Int)<=1000000:=by
   have:(l.length:Int)*1<=(l.length:Int)*n:=e6 F (by omega)
   omega
  have h5:(1000000:Int)<=(2^63 - 1) / n:=by
   rw[Int.le_ediv_iff_mul_le (by omega)]
   have:(1000000:Int)*n<=1000000*1000000:=e6 Y (by omega)
   omega
  omega
 ·rw[B]
  unfold kL
  exact decide_eq_false (by omega)
 ·have e:Txt.mul ⟨l.toArray⟩ n=⟨(lO n.toNat l).toArray⟩:=by
   unfold Txt.mul
   split
   ·have:n.toNat=0:=by omega
    rw[this];rfl
   ·split
    ·rename_i hc
     rw[bK]at hc
     rcases hc with hc|hc
     ·have:n=1:=by simpa using hc
      subst this
      show(⟨l.toArray⟩:Str)=⟨(lO 1 l).toArray⟩
      rw[bt9]
     ·have:l=[]:=by
       have:=eq_of_beq hc
       rw[B]at this
       exact cj.mp this
      subst this
      rw[aP4]
    ·show(⟨(aq n.toNat l.toArray).foldl (·++·) #[]⟩:Str)=_
     rw[aH4];simp
  rw[e]
  exact⟨.str _,H,I.tok _,⟨_,rfl⟩,q⟩
theorem al6 {n:Nat}{l:List lw}(h:ly n l=true):∀ k,ly n (l9 k l)=true
 | 0=>rfl
 | k+1=>zO h (al6 h k)
theorem RVL.repD {φ:Nat->Addr}{H:Hp}{l:List lw}{B:List V}(h:RVL Γ φ H l B):∀ k,RVL Γ φ H (l9 k l) (am7 k B)
 | 0=>RVL.nil
 | k+1=>h.append (RVL.repD h k)
theorem az1 {α:Type}(B:List α):∀ k,am7 k B=(aq k B).flatten
 | 0=>rfl
 | k+1=>by rw[bG,cJ,<-az1 B k];rfl
theorem bE3 (hK:X.K=Γ.K)(op:nD):OpR X (cr (bU7 op)) (rOp Γ (DV.ae8 op)):=by
 intro F s σ H x y v u Q I J Y h
 obtain⟨φ,st,a,b,d,a0,R,ha,hb,na,nb,B,q⟩:=h
 cases op with
 | add =>
  cases a with
  | int a =>
   cases b with
   | int b =>
    change(nE _) st=_ at B
    obtain⟨rfl,rfl⟩:=qh B
    have ex:=ha.intE;have G:=hb.intE;subst ex;subst G
    exact bK1 F s σ H _ _ v u Q I J Y ⟨_,_,rfl,rfl,q.here R rfl RV.intI⟩
   | _=>exact fb B
  | str a =>
   cases b with
   | str b =>
    change(if _ then _ else _:mQ lw) st=_ at B
    split at B
    ·rename_i hl
     obtain⟨rfl,rfl⟩:=qh B
     have ex:=ha.strE;have G:=hb.strE;subst ex;subst G
     refine aN4 F s σ H _ _ v u Q I J Y ⟨_,_,rfl,rfl,?_,?_⟩
     ·show a.toArray.size+b.toArray.size<=_
      simp only[ar]
      exact am hl zM
     ·rw[aU0];exact q.here R rfl (RV.strI (by rw[aE];exact hl))
    ·exact fb B
   | _=>exact fb B
  | tup a =>
   cases b with
   | tup b =>
    change(if _ then _ else _:mQ lw) st=_ at B
    split at B
    ·rename_i hl
     obtain⟨rfl,rfl⟩:=qh B
     obtain⟨p,xs,⟨rfl,z1⟩,Z,d1⟩:=ha.tupZ
     obtain⟨p',ys,⟨rfl,z2⟩,h2,d2⟩:=hb.tupZ
     refine bz3 hK F s σ H _ _ v u Q I J Y ⟨p,p',xs,ys,rfl,rfl,Z,h2,?_,λ t H' e ht hn=>?_⟩
     ·rw[d1.length,d2.length];exact am hl zM
     ·obtain⟨g,r'⟩:=R.same e
      unfold lB at na nb
      refine q _ _ _ g (ak _) (by unfold lB;exact zO na nb) (RV.tupC ht (λ z=>?_) ((RVL.mono g _ _ na d1).append (RVL.mono g _ _ nb d2))) r'
      rcases hn with hn|⟨rfl,rfl⟩|⟨rfl,rfl⟩
      ·exact hn
      ·rw[d2.tonil,bh]at z;rw[bh];exact e _ _ (z1 z)
      ·rw[d1.tonil]at z;exact e _ _ (z2 z)
    ·exact fb B
   | _=>exact fb B
  | ref a =>
   cases b with
   | ref b =>
    change(match st[a]?,st[b]? with|some (DV.O.lst l),some (DV.O.lst m)=>if l.length+m.length<=lE then mF (.lst (l++m)) st else .bad|_,_=>.bad:lz lw)=_ at B
    split at B
    ·rename_i l m Z h2
     split at B
     ·rename_i hl
      obtain⟨rfl,rfl⟩:=qr B
      obtain⟨xs,e1,d1⟩:=R.addr Z
      obtain⟨ys,e2,d2⟩:=R.addr h2
      have ex:=ha.refE;have G:=hb.refE;subst ex;subst G
      have b1:=R.wf _ _ Z
      have b2:=R.wf _ _ h2
      unfold lD at b1 b2
      refine bM3 F s σ H _ _ v u Q I J Y ⟨φ a,φ b,xs,ys,rfl,rfl,e1,e2,?_,λ p hp=>?_⟩
      ·rw[d1.length,d2.length];exact am hl zM
      ·exact q.alloc R (d1.append d2) (zO b1 b2) hp
     ·exact fb B
    ·exact fb B
   | _=>exact fb B
  | _=>exact fb B
 | sub=>exact fb B
 | mul =>
  cases a with
  | int a =>
   cases b with
   | int b =>
    change(if _ then _ else _:mQ lw) st=_ at B
    split at B
    ·rename_i hc
     obtain⟨rfl,rfl⟩:=qh B
     have ex:=ha.intE;have G:=hb.intE;subst ex;subst G
     exact br4 F s σ H _ _ v u Q I J Y ⟨_,_,rfl,rfl,hc,q.here R rfl RV.intI⟩
    ·exact fb B
   | _=>exact fb B
  | str a =>
   cases b with
   | int b =>
    change(if _ then _ else _:mQ lw) st=_ at B
    split at B
    ·rename_i hc
     obtain⟨rfl,rfl⟩:=qh B
     have ex:=ha.strE;have G:=hb.intE;subst ex;subst G
     exact bu7 F s σ H _ _ v u Q I J Y ⟨_,_,rfl,rfl,hc,q.here R rfl (RV.strI (by rw[rep_len];exact hc.2.2))⟩
    ·exact fb B
   | _=>exact fb B
  | tup a =>
   cases b with
   | int b =>
    change(if _ then _ else _:mQ lw) st=_ at B
    split at B
    ·rename_i hc
     obtain⟨rfl,rfl⟩:=qh B
     obtain⟨p,xs,⟨rfl,z1⟩,Z,d1⟩:=ha.tupZ
     have G:=hb.intE;subst G
     refine bp6 hK F s σ H _ _ v u Q I J Y ⟨p,xs,_,rfl,rfl,Z,⟨hc.1,hc.2.1,by rw[d1.length];exact hc.2.2⟩,λ t H' e ht hn=>?_⟩
     obtain⟨g,r'⟩:=R.same e
     unfold lB at na
     refine q _ _ _ g (ak _) (by unfold lB;exact al6 na _) (RV.tupC ht (λ z=>?_) (RVL.repD (RVL.mono g _ _ na d1) _)) r'
     rcases hn with hn|⟨rfl,ex⟩
     ·exact hn
     ·rw[ex];exact e _ _ (z1 (bw9 z))
    ·exact fb B
   | _=>exact fb B
  | ref a =>
   cases b with
   | int b =>
    change(match st[a]? with|some (DV.O.lst l)=>if 0<=b/\b<=1000000/\l.length*b.toNat<=lE then mF (.lst (l9 b.toNat l)) st else .bad|_=>.bad:lz lw)=_ at B
    split at B
    ·rename_i l Z
     split at B
     ·rename_i hc
      obtain⟨rfl,rfl⟩:=qr B
      obtain⟨xs,e1,d1⟩:=R.addr Z
      have ex:=ha.refE;have G:=hb.intE;subst ex;subst G
      have b1:=R.wf _ _ Z
      unfold lD at b1
      refine bH3 F s σ H _ _ v u Q I J Y ⟨φ a,b,xs,rfl,rfl,e1,by omega,by omega,?_,λ p hp=>?_⟩
      ·rw[d1.length];exact am hc.2.2 zM
      ·rw[<-az1];exact q.alloc R (RVL.repD d1 _) (al6 b1 _) hp
     ·exact fb B
    ·exact fb B
   | _=>exact fb B
  | _=>exact fb B
 | fdiv =>
  cases a with
  | int a =>
   cases b with
   | int b =>
    change(if _ then _ else _:mQ lw) st=_ at B
    split at B
    ·rename_i hc
     obtain⟨rfl,rfl⟩:=qh B
     have ex:=ha.intE;have G:=hb.intE;subst ex;subst G
     refine ba3 F s σ H _ _ v u Q I J Y ⟨_,_,rfl,rfl,⟨hc.1,?_⟩,q.here R rfl RV.intI⟩
     have:=hc.2
     unfold DV.DIVL at this
     simpa using this
    ·exact fb B
   | _=>exact fb B
  | _=>exact fb B
 | mod =>
  cases a with
  | int a =>
   cases b with
   | int b =>
    change(if _ then _ else _:mQ lw) st=_ at B
    split at B
    ·rename_i hc
     obtain⟨rfl,rfl⟩:=qh B
     have ex:=ha.intE;have G:=hb.intE;subst ex;subst G
     exact bD9 F s σ H _ _ v u Q I J Y ⟨_,_,rfl,rfl,hc,q.here R rfl RV.intI⟩
    ·exact fb B
   | _=>exact fb B
  | _=>exact fb B
 | pow =>
  cases a with
  | int a =>
   cases b with
   | int b =>
    change(if _ then _ else _:mQ lw) st=_ at B
    split at B
    ·rename_i hc
     obtain⟨rfl,rfl⟩:=qh B
     have ex:=ha.intE;have G:=hb.intE;subst ex;subst G
     exact bE5 F s σ H _ _ v u Q I J Y ⟨_,_,rfl,rfl,hc,q.here R rfl RV.intI⟩
    ·exact fb B
   | _=>exact fb B
  | _=>exact fb B
 | shl =>
  cases a with
  | int a =>
   cases b with
   | int b =>
    change(if _ then _ else _:mQ lw) st=_ at B
    split at B
    ·rename_i hc
     obtain⟨rfl,rfl⟩:=qh B
     have ex:=ha.intE;have G:=hb.intE;subst ex;subst G
     exact bR7 F s σ H _ _ v u Q I J Y ⟨_,_,rfl,rfl,hc,q.here R rfl RV.intI⟩
    ·exact fb B
   | _=>exact fb B
  | _=>exact fb B
 | shr=>exact fb B
 | band=>exact fb B
 | bor=>exact fb B
variable {Γ:Gm} {X:Cx} {pins:List (Addr×Obj)} {σ:St} {H:Hp} {sh:af} {φ:Nat->Addr} {s:lv}
theorem aG0 {n:Nat}{a b:lw}{z:Bool}(h:lG s n a b=some z):lP s a≠9:=by
 cases n with
 | zero=>unfold lG at h;exact(ag2 h).1
 | succ n =>
  unfold lG at h
  split at h
  ·simp[lP]
  ·split at h
   ·rename_i B _;simp[lP,B]
   ·cases h
  ·exact(ag2 h).1
theorem aP1 (I:Inv X pins σ H sh)(hK:X.K=Γ.K)(R:Rp Γ φ H s):∀(n:Nat) (a b c:lw) (x:V) (p q:Bool),RV Γ φ H a x->RV Γ φ H b x->lG s n a c=some p->lG s n b c=some q->p=q:=by
 intro n
 induction n with
 | zero =>
  intro a b c x p q F B e1 e2
  rcases rv_two I hK R F B (aG0 e1) (aG0 e2)with e|⟨l,m,_,_,rfl,rfl,_⟩
  ·subst e;rw[e1]at e2;exact ax e2
  ·unfold lG at e1 e2
   have:lS s (.tup l) c=lS s (.tup m) c:=by unfold lS;cases c<;>rfl
   rw[this,e2]at e1;exact(ax e1).symm
 | succ n ih =>
  have J:∀(l m k:List lw) (G:List V) (p q:Bool),RVL Γ φ H l G->RVL Γ φ H m G->lN (lG s n) l k=some p->lN (lG s n) m k=some q->p=q:=by
   intro l
   induction l with
   | nil =>
    intro m k G p q F B e1 e2
    have:=F.unnil;subst this
    have hm:m=[]:=by have:=B.length;exact cj.mp this.symm
    subst hm
    rw[e1]at e2;exact ax e2
   | cons a l ihl =>
    intro m k G p q F B e1 e2
    obtain⟨x,r,rfl,g1,Z⟩:=F.uncons
    cases m with
    | nil=>have:=B.unnil;cases this
    | cons b m =>
     obtain⟨x',r',e,g3,g4⟩:=B.uncons
     cases e
     cases k with
     | nil=>unfold lN at e1 e2;rw[<-ax e1,<-ax e2]
     | cons c k =>
      obtain⟨p1,p2,a1,a2,a3⟩:=aj2 e1
      obtain⟨q1,q2,b1,Y,b3⟩:=aj2 e2
      rw[a3,b3,ih a b c x p1 q1 g1 g3 a1 b1,ihl m k r p2 q2 Z g4 a2 Y]
  intro a b c x p q F B e1 e2
  rcases rv_two I hK R F B (aG0 e1) (aG0 e2)with e|⟨l,m,_,G,rfl,rfl,_,d1,d2⟩
  ·subst e;rw[e1]at e2;exact ax e2
  ·cases c with
   | tup k=>unfold lG at e1 e2;exact J l m k G p q d1 d2 e1 e2
   | _ =>
    unfold lG at e1 e2
    simp only at e1 e2
    have e3:lS s (.tup l)=lS s (.tup m):=by funext c;unfold lS;cases c<;>rfl
    rw[e3]at e1
    exact ax (e1.symm.trans e2)
theorem bm9 {x:lw}:∀ {l:List lw} {z:Bool},mw s x l=some z->∃ e:Nat->Bool,(∀ j d,l[j]?=some d->lG s lJ d x=some (e j))/\(z=true↔∃ j,j<l.length/\e j=true)
 | [],z,h=>by
  unfold mw at h
  cases h
  exact⟨λ _=>true,λ j d h=>by simp at h,by simp⟩
 | y::l,z,h=>by
  unfold mw at h
  cases e1:lG s lJ y x with
  | none=>rw[e1]at h;cases h
  | some a =>
   cases e2:mw s x l with
   | none=>rw[e1,e2]at h;cases h
   | some b =>
    rw[e1,e2]at h
    obtain⟨e,F,B⟩:=bm9 e2
    refine⟨λ j=>match j with|0=>a|j+1=>e j,λ j d g=>?_,?_⟩
    ·cases j with
     | zero=>simp at g;subst g;exact e1
     | succ j=>exact F j d (by simpa using g)
    ·have hz:(a||b)=z:=ax h
     rw[<-hz,bK,B]
     constructor
     ·rintro(q|⟨j,hj,q⟩)
      ·exact⟨0,by simp,q⟩
      ·exact⟨j+1,by simpa using hj,q⟩
     ·rintro⟨j,hj,q⟩
      cases j with
      | zero=>exact .inl q
      | succ j=>exact .inr ⟨j,by simpa using hj,q⟩
theorem bm3 (I:Inv X pins σ H sh)(hK:X.K=Γ.K)(R:Rp Γ φ H s){x:lw}{xv:V}{xu:Value}(hx:RV Γ φ H x xv)(rx:RelV xv xu){l:List lw}{ys:List V}{its:List Value}(hl:RVL Γ φ H l ys)(hv:Vals ys its){z:Bool}(h:mw s x l=some z){A:aN}(hr:Room lJ A) :
  ∃ e:Value->Bool,(∀ y,y∈its.toArray->gY A sh y xu (e y))/\its.toArray.any e=z:=by
 obtain⟨e,h1,h2⟩:=bm9 h
 have len:its.length=l.length:=by rw[<-hv.length];exact hl.length
 have B:∀ j u,its[j]?=some u->∃ d y,l[j]?=some d/\ys[j]?=some y/\RV Γ φ H d y/\RelV y u:=λ j u g=>by
  have hj:j<l.length:=by rw[<-len];exact(ah.mp g).1
  obtain⟨y,g1,Z⟩:=hl.get (aj hj)
  obtain⟨u',F,J⟩:=hv.get g1
  rw[g]at F;cases F
  exact⟨_,y,aj hj,g1,Z,J⟩
 classical
 let f:Value->Bool:=λ u=>decide (∃ j,its[j]?=some u/\e j=true)
 have Y:∀ j u,its[j]?=some u->f u=e j:=λ j u g=>by
  obtain⟨d,y,g1,Z,F,J⟩:=B j u g
  cases q:e j with
  | true=>exact decide_eq_true ⟨j,g,q⟩
  | false =>
   refine decide_eq_false λ⟨k,g',q'⟩=>?_
   obtain⟨d',y',k1,k2,k3,k4⟩:=B k u g'
   have ey:y'=y:=k4.inj J
   subst ey
   have:=aP1 I hK R _ d d' x _ _ _ F k3 (h1 j d g1) (h1 k d' k1)
   rw[q,q']at this;cases this
 refine⟨f,λ u hu=>?_,?_⟩
 ·obtain⟨j,hj,g⟩:=dv.mp (by simpa using hu:u∈its)
  have g':its[j]?=some u:=by rw[aj hj,g]
  obtain⟨d,y,g1,Z,F,J⟩:=B j u g'
  rw[Y j u g']
  exact(aV6 I hK R _ d x y xv u xu A _ (h1 j d g1) F hx J rx hr).1
 ·have e1:its.toArray.any f=true↔z=true:=by
   rw[h2,List.any_toArray,jY]
   constructor
   ·rintro⟨u,hu,q⟩
    obtain⟨j,hj,g⟩:=dv.mp hu
    have g':its[j]?=some u:=by rw[aj hj,g]
    exact⟨j,by omega,by rw[<-Y j u g'];exact q⟩
   ·rintro⟨j,hj,q⟩
    have G:j<its.length:=by omega
    exact⟨its[j],List.getElem_mem G,by rw[Y j _ (aj G)];exact q⟩
  cases z<;>cases q:its.toArray.any f
  ·rfl
  ·have:=e1.mp q;cases this
  ·rw[q]at e1;have:=e1.mpr rfl;cases this
  ·rfl
variable {Γ:Gm} {X:Cx}
theorem aa1 {α β:Type}{r:lz α}{f:α->lv->lz β}{b:β}{t:lv}(h:r.bind f=.ok b t):∃ a s,r=.ok a s/\f a s=.ok b t:=DV.R.bind_inv h
theorem bk5 (hK:X.K=Γ.K)(hr:Room (lJ+1) X.A)(G:Bool){Y:List (Addr×Obj)}{sh:af}{σ:St}{H:Hp}{x y:V}{v u:Value}{φ:Nat->Addr}{st a2:lv}{a b:lw}{z:Bool}
  (I:Inv X Y σ H sh) (Z:RelV x v) (ry:RelV y u) (R:Rp Γ φ H st) (ha:RV Γ φ H a x) (hb:RV Γ φ H b y) (B:nw a b st=.ok z a2) :
  a2=st/\∀ Q:Value->af->Prop,(∀ a3,Inv X Y σ H a3->Q (.bool (if G then !z else z)) a3)->wpAny (model X.prog X.w) X.A (dA (if G then .NotIn else .In) v u) Q X.xe sh:=by
 unfold nw at B
 cases b with
 | tup l =>
  simp only at B
  cases e:mw st a l with
  | none=>rw[e]at B;cases B
  | some w =>
   rw[e]at B
   cases B
   obtain⟨p,ys,rfl,q,d⟩:=hb.tupE
   cases ry
   rw[<-hK]at q
   obtain⟨its,rv,t,_⟩:=I.tuple q
   obtain⟨f,h1,h2⟩:=bm3 I hK R ha Z d rv e (A:=X.A.in1) hr.in1
   refine⟨rfl,λ Q F=>?_⟩
   cases G with
   | false=>exact SeqAt.in_tupleAt f t h1 (by rw[h2];exact F _ I)
   | true=>exact SeqAt.notIn_tupleAt f t h1 (by rw[h2];exact F _ I)
 | str y0 =>
  simp only at B
  split at B
  case h_2=>exact fb B
  rename_i c
  cases B
  refine⟨rfl,λ Q F=>?_⟩
  have e1:=ha.strE
  have e2:=hb.strE
  subst e1 e2
  obtain⟨t1,rfl⟩:=Z
  obtain⟨t2,rfl⟩:=ry
  have a4:=kT (⟨y0.toArray⟩:Str) c
  cases G with
  | false=>exact in_str (by rw[show(⟨[c].toArray⟩:Str)=⟨#[c]⟩from rfl,a4];simpa using F _ I)
  | true=>exact notIn_str (by rw[show(⟨[c].toArray⟩:Str)=⟨#[c]⟩from rfl,a4];simpa using F _ I)
 | ref r =>
  simp only at B
  cases hs:st[r]? with
  | none=>rw[hs]at B;cases B
  | some o =>
   rw[hs]at B
   cases o with
   | lst l =>
    simp only at B
    cases e:mw st a l with
    | none=>rw[e]at B;cases B
    | some w =>
     rw[e]at B
     cases B
     obtain⟨ys,e1,d⟩:=R.addr hs
     have ey:=hb.refE;subst ey
     cases ry
     obtain⟨its,rv,t,_⟩:=I.list (SqL.of e1)
     obtain⟨f,h1,h2⟩:=bm3 I hK R ha Z d rv e (A:=X.A.in1) hr.in1
     refine⟨rfl,λ Q F=>?_⟩
     cases G with
     | false=>exact SeqAt.in_listAt f t.isList h1 (by rw[h2];exact F _ I)
     | true=>exact SeqAt.notIn_listAt f t.isList h1 (by rw[h2];exact F _ I)
   | dic l =>
    simp only at B
    split at B
    case isFalse=>exact fb B
    rename_i J
    cases B
    obtain⟨k,hk⟩:=aq3 J
    obtain⟨a0,e1,d⟩:=R.obj r _ hs
    have ey:=hb.refE;subst ey
    cases ry
    have ex:=aU4 hk ha;subst ex
    have ez:(lX a l).isSome=(az8 a0 k).isSome:=by
     rcases d.val keyOf_inj hk with⟨q1,q2⟩|⟨_,_,q1,q2,_⟩<;>rw[q1,q2]<;>rfl
    refine⟨rfl,λ Q F=>?_⟩
    rw[ez]at F
    cases G with
    | false=>exact ce7 (ai2 hr) I (aA1.k e1) Z F
    | true=>exact aO7 (ai2 hr) I (aA1.k e1) Z F
   | dit l =>
    simp only at B
    split at B
    case isFalse=>exact fb B
    rename_i J
    cases B
    obtain⟨k,hk⟩:=ag5 J
    obtain⟨a0,e1,d⟩:=R.obj r _ hs
    have ey:=hb.refE;subst ey
    cases ry
    obtain⟨kb,ex,a1⟩:=aq2 hk ha;subst ex
    have ez:(lX a l).isSome=(az8 a0 k).isSome:=by
     rcases d.val keyT_inj hk with⟨q1,q2⟩|⟨_,_,q1,q2,_⟩<;>rw[q1,q2]<;>rfl
    refine⟨rfl,λ Q F=>?_⟩
    rw[ez]at F
    cases G with
    | false=>exact ce7 (ai2 hr) I (aA1.t e1 a1) Z F
    | true=>exact aO7 (ai2 hr) I (aA1.t e1 a1) Z F
   | ro l=>exact fb B
   | ins c l=>exact fb B
 | _=>exact fb B
theorem aB9 {op:nv}{a b d:lw}{st B:lv}(ho:op=.lt\/op=.le\/op=.gt\/op=.ge)(h:DV.qp op a b st=.ok d B):∃ i j,a=.int i/\b=.int j:=by
 rcases ho with rfl|rfl|rfl|rfl <;>
 (cases a with
 | int i =>
  (cases b with
  | int j=>exact⟨i,j,rfl,rfl⟩
  | _=>cases h)
 | _=>cases h)
theorem bK3 (hK:X.K=Γ.K)(hr:Room (lJ+1) X.A)(op:nv):OpR X (dA (by2 op)) (rOp Γ (DV.qp op)):=by
 intro F s σ H x y v u Q I J Y h
 obtain⟨φ,st,a,b,d,G,R,ha,hb,na,nb,B,q⟩:=h
 cases op with
 | eq =>
  have B:DV.eqM a b st=.ok d G:=B
  unfold DV.eqM at B
  cases e:lG st lJ a b with
  | none=>rw[e]at B;cases B
  | some z =>
   rw[e]at B;cases B
   exact(aV6 I hK R _ a b x y v u X.A z e ha hb J Y (hr.mono (by omega))).2.rc X.prog X.w X.xe _ ⟨.bl z,H,I,rfl,q.here R rfl RV.blI⟩
 | ne =>
  have B:(match lG st lJ a b with|some r=>.ok (.bl (!r)) st|none=>.bad:lz lw)=.ok d G:=B
  cases e:lG st lJ a b with
  | none=>rw[e]at B;cases B
  | some z =>
   rw[e]at B;cases B
   exact(aV6 I hK R _ a b x y v u X.A z e ha hb J Y (hr.mono (by omega))).2.ne X.prog X.w X.xe _ ⟨.bl (!z),H,I,rfl,q.here R rfl RV.blI⟩
 | lt =>
  obtain⟨i,j,rfl,rfl⟩:=aB9 (.inl rfl) B
  cases B
  have ex:=ha.intE;have Z:=hb.intE;subst ex;subst Z
  exact bU6 F s σ H _ _ v u Q I J Y ⟨_,_,rfl,rfl,q.here R rfl RV.blI⟩
 | le =>
  obtain⟨i,j,rfl,rfl⟩:=aB9 (.inr (.inl rfl)) B
  cases B
  have ex:=ha.intE;have Z:=hb.intE;subst ex;subst Z
  exact bZ0 F s σ H _ _ v u Q I J Y ⟨_,_,rfl,rfl,q.here R rfl RV.blI⟩
 | gt =>
  obtain⟨i,j,rfl,rfl⟩:=aB9 (.inr (.inr (.inl rfl))) B
  cases B
  have ex:=ha.intE;have Z:=hb.intE;subst ex;subst Z
  exact bX2 F s σ H _ _ v u Q I J Y ⟨_,_,rfl,rfl,q.here R rfl RV.blI⟩
 | ge=>exact fb B
 | isin =>
  have B:(nw a b st).bind (λ r s=>.ok (.bl r) s)=.ok d G:=B
  obtain⟨z,s1,e1,e2⟩:=aa1 B
  obtain⟨rfl,w⟩:=bk5 hK hr false I J Y R ha hb e1
  cases e2
  exact w _ λ s' I'=>⟨.bl z,H,I',rfl,q.here R rfl RV.blI⟩
 | notin =>
  have B:(nw a b st).bind (λ r s=>.ok (.bl (!r)) s)=.ok d G:=B
  obtain⟨z,s1,e1,e2⟩:=aa1 B
  obtain⟨rfl,w⟩:=bk5 hK hr true I J Y R ha hb e1
  cases e2
  exact w _ λ s' I'=>⟨.bl (!z),H,I',rfl,q.here R rfl RV.blI⟩
theorem aX9 {φ:Nat->Addr}{H:Hp}{l:List lw}{B:List V}{i:Int}{d:lw}(h:RVL Γ φ H l B)(e:((my l.length i).bind λ j=>l[j]?)=some d):∃ v,atI B i=some v/\RV Γ φ H d v:=by
 cases hj:my l.length i with
 | none=>rw[hj]at e;cases e
 | some j =>
  rw[hj]at e
  obtain⟨v,e1,e2⟩:=h.get (show l[j]?=some d from e)
  refine⟨v,?_,e2⟩
  unfold atI
  have:ixN B.length i=some j:=by rw[h.length];exact hj
  rw[this];exact e1
theorem aE3 {l:List lw}{i:Int}{d:lw}(e:((my l.length i).bind λ j=>l[j]?)=some d):d∈l:=by
 cases hj:my l.length i with
 | none=>rw[hj]at e;cases e
 | some j=>rw[hj]at e;exact a7 (show l[j]?=some d from e)
theorem bF7 (hK:X.K=Γ.K)(hu:X.A.units+2<cLine):IxR X (rOp Γ DV.ixM):=by
 intro G F J s σ H x y v u Q I rx ry h hs
 obtain⟨φ,st,a,b,d,a3,R,ha,hb,na,nb,B,q⟩:=h
 unfold DV.ixM at B
 cases a with
 | tup l =>
  cases b with
  | int i =>
   simp only at B
   split at B
   ·rename_i d' e
    cases B
    obtain⟨p,xs,rfl,h1,d1⟩:=ha.tupE
    have Y:=hb.intE;subst Y
    obtain⟨w,e1,e2⟩:=aX9 d1 e
    unfold lB at na
    exact by4 hK G F J s σ H _ _ v u Q I rx ry ⟨p,xs,i,w,rfl,rfl,h1,e1,q.here R (aa8.mp na _ (aE3 e)) e2⟩ hs
   ·exact fb B
  | _=>exact fb B
 | str l =>
  cases b with
  | int i =>
   simp only at B
   split at B
   ·rename_i c e
    cases B
    have hl:=ha.strL
    have ex:=ha.strE;have Y:=hb.intE;subst ex;subst Y
    exact ix_str G F J s σ H _ _ v u Q I rx ry ⟨⟨l.toArray⟩,i,c,rfl,rfl,by show l.toArray.size<=_;rw[ar];exact am hl zM,e,q.here R rfl (RV.strI (by simp;decide))⟩ hs
   ·exact fb B
  | _=>exact fb B
 | ref r =>
  have ex:=ha.refE;subst ex
  simp only at B
  cases hsr:st[r]? with
  | none=>rw[hsr]at B;cases B
  | some o =>
   rw[hsr]at B
   cases o with
   | lst l =>
    cases b with
    | int i =>
     simp only at B
     split at B
     ·rename_i d' e
      cases B
      have Y:=hb.intE;subst Y
      obtain⟨xs,e1,d1⟩:=R.addr hsr
      obtain⟨w,e2,e3⟩:=aX9 d1 e
      have wf:=R.wf _ _ hsr
      unfold lD at wf
      exact aG6 hK G F J s σ H _ _ v u Q I rx ry ⟨φ r,xs,i,w,rfl,rfl,SqL.of e1,e2,q.here R (aa8.mp wf _ (aE3 e)) e3⟩ hs
     ·exact fb B
    | _=>exact fb B
   | ro l =>
    cases b with
    | int i =>
     simp only at B
     split at B
     ·rename_i d' e
      cases B
      have Y:=hb.intE;subst Y
      obtain⟨xs,e1,d1⟩:=R.obj _ _ hsr
      obtain⟨w,e2,e3⟩:=aX9 d1 e
      have wf:=R.wf _ _ hsr
      unfold lD at wf
      exact aG6 hK G F J s σ H _ _ v u Q I rx ry ⟨φ r,xs,i,w,rfl,rfl,e1.1,e2,q.here R (aa8.mp wf _ (aE3 e)) e3⟩ hs
     ·exact fb B
    | _=>exact fb B
   | dic l =>
    simp only at B
    split at B
    case isFalse=>exact fb B
    rename_i Z
    obtain⟨k,hk⟩:=aq3 Z
    obtain⟨a1,e1,d1⟩:=R.obj r _ hsr
    have Y:=aU4 hk hb;subst Y
    cases rx
    rcases d1.val keyOf_inj hk with⟨q1,_⟩|⟨e,v',q1,q2,q3,q4⟩
    ·rw[q1]at B;cases B
    ·rw[q1]at B
     cases B
     have wf:=R.wf _ _ hsr
     unfold lD at wf
     rw[ag]at wf
     have g:aA1 H (φ r) (kV k) (some v'):=by rw[<-q2];exact aA1.k e1
     exact kB (al8 I g) fP.lookup (aw0 hu I g ry λ w' s' I' a0=>⟨v',H,I',a0,q.here R (aa8.mp wf.2 _ q4) q3⟩) hs
   | dit l =>
    simp only at B
    split at B
    case isFalse=>exact fb B
    rename_i Z
    obtain⟨k,hk⟩:=ag5 Z
    obtain⟨a1,e1,d1⟩:=R.obj r _ hsr
    obtain⟨kb,Y,a2⟩:=aq2 hk hb;subst Y
    cases rx
    rcases d1.val keyT_inj hk with⟨q1,_⟩|⟨e,v',q1,q2,q3,q4⟩
    ·rw[q1]at B;cases B
    ·rw[q1]at B
     cases B
     have wf:=R.wf _ _ hsr
     unfold lD at wf
     rw[ag]at wf
     have g:aA1 H (φ r) (.ref kb) (some v'):=by rw[<-q2];exact aA1.t e1 a2
     exact kB (al8 I g) fP.lookup (aw0 hu I g ry λ w' s' I' a0=>⟨v',H,I',a0,q.here R (aa8.mp wf.2 _ q4) q3⟩) hs
   | ins c l=>cases b<;>cases B
 | _=>cases b<;>cases B
theorem aY7 (n d:Nat)(i:Int):HT.sIx n d (some i)=ma n i:=by
 show(if i<0 then(i+(n:Int)).toNat else min i.toNat n)=_
 unfold ma
 by_cases h:i<0
 ·rw[if_pos h,if_neg (by omega)]
 ·rw[if_neg h,if_pos (by omega)]
theorem bi7 {φ:Nat->Addr}{H:Hp}{l:List lw}{F:List V}(h:RVL Γ φ H l F)(G B:Option Int):RVL Γ φ H (lU l G B) (aM4 F G B):=by
 unfold lU aM4
 have e1:HT.sIx F.length 0 G=mr l.length G:=by
  cases G with
  | none=>rfl
  | some i=>rw[aY7,h.length];rfl
 have e2:HT.sIx F.length F.length B=mR l.length B:=by
  cases B with
  | none=>exact h.length
  | some i=>rw[aY7,h.length];rfl
 rw[e1,e2]
 exact(h.drop _).take _
theorem aI4 {α:Type}{l:List α}{F B:Option Int}:∀ d∈lU l F B,d∈l:=λ d hd=>List.mem_of_mem_drop (List.mem_of_mem_take hd)
theorem be0 {α:Type}(l:List α)(F B:Option Int):(lU l F B).length<=l.length:=by
 unfold lU
 rw[b7,eN]
 omega
theorem bV6 (B F:Option Int)(n:Nat):bu B F 1 n=(aU (mR n F - mr n B)).map (mr n B+·):=by
 rw[<-sliceRange_one]
 unfold bu
 have cl:∀ i:Int,max 0 (min (if i<0 then i+(n:Int)else i) (n:Int))=((ma n i:Nat):Int):=λ i=>by
  unfold ma
  by_cases h:i<0
  ·rw[if_pos h,if_neg (by omega)];omega
  ·rw[if_neg h,if_pos (by omega)];omega
 simp only[show((1:Int) > 0)=True by simp,if_true]
 cases B<;>cases F<;>simp only[cl,mr,mR]<;>rfl
theorem aG2 {l:List Nat}:∀(a k:Nat),a+k<=l.length->((aU k).map (a+·)).filterMap (λ x=>l.toArray[x]?)=(l.drop a).take k
 | a,0,_=>by simp
 | a,k+1,h=>by
  rw[List.range_succ,bE,List.filterMap_append,aG2 a k (by omega)]
  have hk:a+k<l.length:=by omega
  rw[List.take_add_one,List.getElem?_drop]
  simp[hk]
theorem aO8 (l:List Nat)(F B:Option Int):fh ⟨l.toArray⟩ F B=⟨(lU l F B).toArray⟩:=by
 unfold fh
 have hn:(⟨l.toArray⟩:Str).length=l.length:=by show l.toArray.size=_;simp
 rw[hn,bV6]
 have hb:mR l.length B<=l.length:=by
  cases B with
  | none=>exact ak _
  | some i=>show ma l.length i<=_;unfold ma;split<;>omega
 have ha:mr l.length F<=l.length:=by
  cases F with
  | none=>exact cS _
  | some i=>show ma l.length i<=_;unfold ma;split<;>omega
 unfold lU
 generalize mR l.length B=b at *
 generalize mr l.length F=a at *
 by_cases hc:((1:Int)==1&&((aU (b - a)).map (a+·)).length==l.length)=true
 ·rw[if_pos hc]
  have:b - a=l.length:=by simpa using hc
  have h0:a=0\/l.length=0:=by omega
  rcases h0 with h0|h0
  ·subst h0
   rw[this];simp
  ·have:l=[]:=cj.mp h0
   subst this;simp
 ·rw[if_neg hc]
  by_cases hab:a<=b
  ·have e:=aG2 (l:=l) a (b - a) (by omega)
   show(⟨(iL (λ x=>l.toArray[x]?) _).toArray⟩:Str)=_
   rw[e]
  ·rw[show b - a=0 by omega];simp
def rSl (Γ:Gm):V->Option Int->Option Int->Hp->VK->Prop:=λ x lo hi H Q=>∃ φ s a d s',Rp Γ φ H s/\RV Γ φ H a x/\a.bnd s.length=true/\mU a lo hi s=.ok d s'/\ad9 Γ φ s H d s' Q
theorem bX1 (hK:X.K=Γ.K):SlR X (rSl Γ):=by
 intro B s σ H x v vl vu J G sl Q I Y hs pl pu h
 obtain⟨φ,st,a,d,a0,R,ha,Z,F,q⟩:=h
 unfold mU at F
 cases a with
 | tup l =>
  cases F
  obtain⟨p,xs,⟨rfl,z1⟩,h1,d1⟩:=ha.tupZ
  unfold lB at Z
  refine bs5 hK B s σ H _ v vl vu J G sl Q I Y hs pl pu ⟨p,xs,rfl,h1,λ t H' e ht hn=>?_⟩
  obtain⟨g,r'⟩:=R.same e
  have d2:=bi7 (RVL.mono g _ _ Z d1) J G
  refine q _ _ _ g (ak _) (by unfold lB;exact aF3 Z aI4) (RV.tupC ht (λ z=>?_) d2) r'
  rcases hn with hn|⟨rfl,ex⟩
  ·exact hn
  ·rw[ex]
   refine e _ _ (z1 ?_)
   have hl:(lU l J G).length=l.length:=by rw[<-d2.length,ex,d1.length]
   rwa [aQ2 hl]at z
 | str l =>
  cases F
  have hl:=ha.strL
  have ex:=ha.strE;subst ex
  refine bO9 B s σ H _ v vl vu J G sl Q I Y hs pl pu ⟨_,rfl,by show l.toArray.size<=_;rw[ar];exact am hl zM,?_⟩
  rw[aO8]
  exact q.here R rfl (RV.strI (am (be0 l J G) hl))
 | ref r =>
  have ex:=ha.refE;subst ex
  simp only at F
  cases hsr:st[r]? with
  | none=>rw[hsr]at F;cases F
  | some o =>
   rw[hsr]at F
   cases o with
   | lst l =>
    obtain⟨rfl,rfl⟩:=qr F
    obtain⟨xs,e1,d1⟩:=R.addr hsr
    have wf:=R.wf _ _ hsr
    unfold lD at wf
    exact be6 hK B s σ H _ v vl vu J G sl Q I Y hs pl pu ⟨φ r,xs,rfl,SqL.of e1,λ p hp=>q.alloc R (bi7 d1 J G) (aF3 wf aI4) hp⟩
   | _=>exact fb F
 | _=>exact fb F
variable {Γ:Gm} {X:Cx}
def rCl (Γ:Gm)(f:List lw->lv->lz lw):List V->Hp->VK->Prop:=λ xs H Q=>∃ φ s l d s',Rp Γ φ H s/\RVL Γ φ H l xs/\ly s.length l=true/\f l s=.ok d s'/\ad9 Γ φ s H d s' Q
theorem RVL.one {φ:Nat->Addr}{H:Hp}{d:lw}{B:List V}(h:RVL Γ φ H [d] B):∃ x,B=[x]/\RV Γ φ H d x:=by
 obtain⟨x,r,rfl,G,F⟩:=h.uncons
 rw[F.unnil];exact⟨x,rfl,G⟩
noncomputable def biN:mq->Option (String×Nat)
 | .len=>some ("len",1)|.abs=>some ("abs",1)|.min2=>some ("min",2)|_=>none
theorem qk:∀ {l:List lw} {is:List Int},mG l=some is->l=is.map DV.D.int
 | [],is,h=>by unfold mG at h;cases h;rfl
 | d::l,is,h=>by
  cases d with
  | int i =>
   have h:(mG l).map (i::·)=some is:=h
   cases e:mG l with
   | none=>rw[e]at h;cases h
   | some m=>rw[e]at h;cases h;rw[qk e];rfl
  | _=>cases h
theorem au3:∀ {l:List lw} {is:List Bool},mV l=some is->l=is.map DV.D.bl
 | [],is,h=>by unfold mV at h;cases h;rfl
 | d::l,is,h=>by
  cases d with
  | bl i =>
   have h:(mV l).map (i::·)=some is:=h
   cases e:mV l with
   | none=>rw[e]at h;cases h
   | some m=>rw[e]at h;cases h;rw[au3 e];rfl
  | _=>cases h
theorem RVL.ints {φ:Nat->Addr}{H:Hp}:∀ {is:List Int} {B:List V},RVL Γ φ H (is.map DV.D.int) B->B=is.map V.int
 | [],_,h=>h.unnil
 | i::is,_,h=>by
  obtain⟨x,r,rfl,G,F⟩:=RVL.uncons h
  rw[G.intE,RVL.ints F];rfl
theorem RVL.bls {φ:Nat->Addr}{H:Hp}:∀ {is:List Bool} {B:List V},RVL Γ φ H (is.map DV.D.bl) B->B=is.map V.bl
 | [],_,h=>h.unnil
 | i::is,_,h=>by
  obtain⟨x,r,rfl,G,F⟩:=RVL.uncons h
  rw[G.blE,RVL.bls F];rfl
theorem bx9 {f:lw->mQ lw}{l:List lw}{s s':lv}{d:lw}(h:DV.bi1 f l s=.ok d s'):∃ a,l=[a]/\f a s=.ok d s':=by
 match l,h with
 | [a],h=>exact⟨a,rfl,h⟩
 | [],h=>exact fb h
 | _::_::_,h=>exact fb h
theorem bs6 (hK:X.K=Γ.K)(hc:X.calm=true){b:mq}{nm:String}{k:Nat}(hn:biN b=some (nm,k)):ac5 X (.builtin nm) (rCl Γ (nz b)):=by
 intro B s σ H xs us Q I r h
 obtain⟨φ,st,l,d,G,R,hl,Z,F,q⟩:=h
 cases b with
 | len =>
  cases hn
  have F:DV.bi1 DV.bv1 l st=.ok d G:=F
  obtain⟨a,rfl,hg⟩:=bx9 F
  clear F
  obtain⟨x,rfl,hx⟩:=hl.one
  unfold DV.bv1 at hg
  cases a with
  | tup l =>
   cases hg
   obtain⟨p,ys,rfl,J,d1⟩:=hx.tupE
   refine am3 hK B s σ H _ us Q I r ⟨p,ys,rfl,.inr J,?_⟩
   rw[d1.length];exact q.here R rfl RV.intI
  | str l =>
   cases hg
   have Y:=hx.strL
   have e:=hx.strE;subst e
   refine au5 B s σ H _ us Q I r ⟨_,rfl,by show l.toArray.size<=_;rw[ar];exact am Y zM,?_⟩
   show Q (.int ((l.toArray.size:Nat):Int)) H
   rw[ar]
   exact q.here R rfl RV.intI
  | ref n =>
   have e:=hx.refE;subst e
   simp only at hg
   cases hs:st[n]? with
   | none=>rw[hs]at hg;cases hg
   | some o =>
    rw[hs]at hg
    cases o with
    | lst l =>
     cases hg
     obtain⟨ys,e1,d1⟩:=R.addr hs
     refine am3 hK B s σ H _ us Q I r ⟨φ n,ys,rfl,.inl (SqL.of e1),?_⟩
     rw[d1.length];exact q.here R rfl RV.intI
    | ro l =>
     cases hg
     obtain⟨ys,e1,d1⟩:=R.obj _ _ hs
     refine am3 hK B s σ H _ us Q I r ⟨φ n,ys,rfl,.inl e1.1,?_⟩
     rw[d1.length];exact q.here R rfl RV.intI
    | dic l=>exact fb hg
    | dit l=>exact fb hg
    | ins c l=>exact fb hg
  | _=>exact fb hg
 | abs =>
  cases hn
  have F:(match mG l with|some [i]=>.ok (.int (if i<0 then -i else i)) st|_=>.bad:lz lw)=.ok d G:=F
  split at F
  ·rename_i i e
   cases F
   have:=qk e;subst this
   have:=RVL.ints hl;subst this
   exact bg3 B s σ H _ us Q I r ⟨i,rfl,q.here R rfl RV.intI⟩
  ·exact fb F
 | min2 =>
  cases hn
  have F:(match mG l with|some [a,b]=>.ok (.int (if b<a then b else a)) st|_=>.bad:lz lw)=.ok d G:=F
  split at F
  ·rename_i a b e
   cases F
   have:=qk e;subst this
   have:=RVL.ints hl;subst this
   exact aR5 hc B s σ H _ us Q I r ⟨_,_,rfl,q.here R rfl RV.intI⟩
  ·exact fb F
 | _=>cases hn
theorem aG3:∀ j:Nat,j<=9->aV (toString (j:Int))=(⟨[48+j].toArray⟩:Str):=by decide
theorem bO6:ac5 X (.type "int") (rCl Γ (nz .int)):=by
 intro F s σ H Z us Q I r h
 obtain⟨φ,st,l,d,J,R,hl,Y,B,q⟩:=h
 have B:(match mV l with|some [b]=>.ok (.int (if b then 1 else 0)) st|some _=>.bad|none=>DV.aO1 l st:lz lw)=.ok d J:=B
 split at B
 ·rename_i b e
  cases B
  have:=au3 e;subst this
  have:=RVL.bls hl;subst this
  exact aU2 F s σ H _ us Q I r (.inr ⟨b,rfl,q.here R rfl RV.intI⟩)
 ·exact fb B
 ·unfold DV.aO1 at B
  split at B
  ·rename_i c _ _
   split at B
   ·rename_i hc
    cases B
    obtain⟨x,G,rfl,r1,r2⟩:=hl.uncons
    cases(show G=[]from r2)
    have:=r1.strE
    subst this
    obtain⟨u,rfl,t,rfl⟩:=af6 r
    obtain⟨j,hj,rfl⟩:∃ j:Nat,j<=9/\c=48+j:=⟨c - 48,by omega,by omega⟩
    rw[show(⟨[48+j].toArray⟩:Str)=aV (toString (j:Int))from(aG3 j hj).symm]
    refine PySem.W.KIN.call_num (by omega) (by omega) ⟨.int (j:Int),H,I.tok _,⟨_,rfl⟩,?_⟩
    have:=q.here R rfl (RV.intI (i:=((48+j - 48:Nat):Int)))
    rw[show 48+j - 48=j by omega]at this
    exact this
   ·exact fb B
  ·exact fb B
theorem bP8:ac5 X (.type "str") (rCl Γ (nz .str)):=by
 intro J s σ H Z us Q I r h
 obtain⟨φ,st,l,d,G,R,hl,Y,B,q⟩:=h
 have B:DV.aV8 l st=.ok d G:=B
 unfold DV.aV8 at B
 split at B
 ·rename_i i _
  split at B
  ·rename_i hi
   cases B
   obtain⟨x,F,rfl,r1,r2⟩:=hl.uncons
   cases(show F=[]from r2)
   have:=r1.intE
   subst this
   obtain⟨u,rfl,t,rfl⟩:=af6 r
   obtain⟨j,rfl⟩:∃ j:Nat,i=(j:Int):=⟨i.toNat,by omega⟩
   have hj:j<=9:=by omega
   refine PySem.P.str_of_int ?_ ⟨.str ⟨[48+j].toArray⟩,H,I.tok _,⟨s.toks,?_⟩,?_⟩
   ·have:(j:Int).natAbs.log2<=(j:Int).natAbs:=Nat.log2_le_self _
    omega
   ·rw[<-aG3 j hj]
   ·have:=q.here R rfl (RV.strI (x:=[48+(j:Int).toNat]) (by show 1<=lE;decide))
    rw[bJ]at this
    exact this
  ·exact fb B
 ·rename_i w _
  cases B
  obtain⟨x,F,rfl,r1,r2⟩:=hl.uncons
  cases(show F=[]from r2)
  have e:=r1.strE
  subst e
  obtain⟨u,rfl,t,rfl⟩:=af6 r
  refine PySem.P.str_of_str ⟨.str ⟨w.toArray⟩,H,I,⟨_,rfl⟩,?_⟩
  unfold ly at Y
  exact q.here R rfl r1
 ·exact fb B
variable {X:Cx}
noncomputable def sgV (x:List Nat):List V:=x.map λ c=>.str ⟨#[c]⟩
theorem bp2 {vs:List V}{B:List Value}(hl:vs.length=B.length)(h:∀(i:Nat) (x:V) (u:Value),vs[i]?=some x->B[i]?=some u->RelV x u):Vals vs B:=by
 induction vs generalizing B with
 | nil=>cases B with
  | nil=>exact .nil
  | cons _ _=>cases hl
 | cons v vs ih=>cases B with
  | nil=>cases hl
  | cons a B=>exact .cons (h 0 v a rfl rfl) (ih (by simpa using hl) λ i x u e1 e2=>h (i+1) x u e1 e2)
theorem ao7 {x:List Nat}{B:Array Value}(h:ItemsOf (SignAt ⟨x.toArray⟩) B x.length):Vals (sgV x) B.toList:=by
 have hl:(sgV x).length=B.toList.length:=by unfold sgV;rw[aw];simpa using h.1.symm
 refine bp2 hl λ i v u e1 e2=>?_
 obtain⟨c,t,F,G⟩:=h.2 i u (by rw[<-Array.getElem?_toList];exact e2)
 unfold sgV at e1
 rw[aH]at e1
 have F:x[i]?=some c:=by simpa using F
 rw[F]at e1
 cases e1
 exact⟨t,G⟩
theorem aE7 (hc:X.calm=true):ac5 X (.type "tuple") (λ J H Q=>∃ x:List Nat,J=[.str ⟨x.toArray⟩]/\x.length<=lE/\∀ l,H l=none->Q (.ref l) (upd H l (.tup (sgV x)))):=by
 intro B s σ H J us Q I r h
 obtain⟨x,rfl,hl,q⟩:=h
 obtain⟨u,rfl,Z⟩:=af6 r
 obtain⟨t,rfl⟩:=Z
 have hz:(sgV x).length<=aJ:=by unfold sgV;rw[aw];exact am hl zM
 refine call_tuple_str (I.ok.hd hc) _ t (λ h' tk F kp G=>?_) (by show x.toArray.size<=_;rw[ar];exact am hl zM)
 have G:ItemsOf (SignAt ⟨x.toArray⟩) F x.length:=by simpa using G
 have rv:=ao7 G
 have Y:Inv X B σ H { s with heap:=h',toks:=tk }:=I.kept (t':=tk) kp
 have I2:Inv X B σ (upd H h'.objs.size (.tup (sgV x))) { s with heap:=h'.push { cls:=.type "tuple",data:=.seq F },toks:=tk } :=
  Y.laid (t':=tk) (λ b o e=>au _ e) (ak _) (show ac4 X.prog X.w _ _ _ (.tup (sgV x))from⟨hz,F.toList,rv,jU _ _⟩)
 exact⟨.ref h'.objs.size,_,I2,rfl,q _ (Y.hok.fresh (ak _))⟩
theorem aK1 (hc:X.calm=true):ac5 X (.type "list") (λ G H Q=>∃ x:List Nat,G=[.str ⟨x.toArray⟩]/\x.length<=lE/\∀ l,H l=none->Q (.ref l) (upd H l (.lst (sgV x)))):=by
 intro J s σ H G us Q I r h
 obtain⟨x,rfl,hl,q⟩:=h
 obtain⟨u,rfl,Y⟩:=af6 r
 obtain⟨t,rfl⟩:=Y
 have hz:(sgV x).length<=aJ:=by unfold sgV;rw[aw];exact am hl zM
 refine call_list_str (I.ok.hd hc) _ t (λ h' tk B c' kp e F=>?_) (by show x.toArray.size<=_;rw[ar];exact am hl zM)
 have F:ItemsOf (SignAt ⟨x.toArray⟩) B x.length:=by simpa using F
 have Z:=ao7 F
 exact⟨.ref s.heap.objs.size,_,I.laid (t':=tk) kp (ak _) (show ac4 X.prog X.w _ h' _ (.lst (sgV x))from⟨hz,B.toList,c',Z,e⟩),rfl,q _ (I.hok.fresh (ak _))⟩
section
variable {Γ:Gm} {φ φ':Nat->Addr} {H H' H1 H2 H3:Hp} {clos:List (Str×Addr)} {s s':lv}
theorem zK (hc:Cells clos H){a:Addr}{u:HO}(e:H a=some u)(hu:∀ o,u≠.frz o (.own a)):isC clos a≠true:=λ z=>by
 obtain⟨o,v,q,_⟩:=hc.at z
 rw[e]at q;cases q;exact hu o rfl
theorem SqT.dropC {K:ac}{a:Addr}{B:List V}(hc:Cells clos H)(h:SqT K H a B):SqT K (ac2 clos H) a B:=by
 rcases h with(h|⟨o,h⟩)|h
 ·exact .inl (.inl (by rw[ac2.ne (zK hc h (λ _ z=>by cases z))];exact h))
 ·exact .inl (.inr ⟨o,by rw[ac2.ne (zK hc h (λ _ z=>by cases z))];exact h⟩)
 ·exact .inr h
theorem SqL.dropC {K:ac}{a:Addr}{B:List V}(hc:Cells clos H)(h:SqL K H a B):SqL K (ac2 clos H) a B:=by
 rcases h with(h|⟨o,h⟩)|h
 ·exact .inl (.inl (by rw[ac2.ne (zK hc h (λ _ z=>by cases z))];exact h))
 ·exact .inl (.inr ⟨o,by rw[ac2.ne (zK hc h (λ _ z=>by cases z))];exact h⟩)
 ·exact .inr h
theorem SqF.dropC {K:ac}{a:Addr}{F:List V}(hc:Cells clos H)(h:SqF K H a F):SqF K (ac2 clos H) a F:=by
 refine⟨SqL.dropC hc h.1,λ B k=>?_⟩
 have hk:Kp H (λ b=>if isC clos b=true then H b else B b):=λ b o e f=>by
  by_cases z:isC clos b=true
  ·show(if isC clos b=true then H b else B b)=_;rw[if_pos z];exact e
  ·show(if isC clos b=true then H b else B b)=_
   rw[if_neg z]
   exact k b o (by rw[ac2.ne z];exact e) f
 have q:=h.2 _ hk
 have at_:∀ u,(if isC clos a=true then H a else B a)=some u->(∀ o,u≠.frz o (.own a))->B a=some u:=λ u e hu=>by
  by_cases z:isC clos a=true
  ·rw[if_pos z]at e
   exact absurd z (zK hc e hu)
  ·rw[if_neg z]at e;exact e
 rcases q with(q|⟨o,q⟩)|q
 ·exact .inl (.inl (at_ _ q (λ _ z=>by cases z)))
 ·exact .inl (.inr ⟨o,at_ _ q (λ _ z=>by cases z)⟩)
 ·exact .inr q
mutual
theorem RV.dropC (hc:Cells clos H):∀(d:lw) (v:V),d.ncl=true->RV Γ φ H d v->RV Γ φ (ac2 clos H) d v
 | .non,_,_,h=>by unfold RV at h ⊢;exact h
 | .bl _,_,_,h=>by unfold RV at h ⊢;exact h
 | .int _,_,_,h=>by unfold RV at h ⊢;exact h
 | .str _,_,_,h=>by unfold RV at h ⊢;exact h
 | .tup l,_,n,h=>by
  unfold RV at h ⊢
  unfold nF at n
  obtain⟨a,B,e,q,r⟩:=h
  exact⟨a,B,e,⟨SqT.dropC hc q.1,λ z=>by rw[ac2.ne (zK hc (q.2 z) (λ _ z=>by cases z))];exact q.2 z⟩,RVL.dropC hc l B n r⟩
 | .ref k,_,_,h=>by unfold RV at h ⊢;exact h
 | .fn _,_,_,h=>by unfold RV at h ⊢;exact h
 | .clo id cs,_,n,h=>by unfold nF at n;cases n
theorem RVL.dropC (hc:Cells clos H):∀(l:List lw) (B:List V),mz l=true->RVL Γ φ H l B->RVL Γ φ (ac2 clos H) l B
 | [],_,_,h=>by unfold RVL at h ⊢;exact h
 | d::l,_,n,h=>by
  unfold mz at n
  rw[ag]at n
  obtain⟨x,r,e,G,F⟩:=h.uncons
  subst e
  exact .cons (RV.dropC hc d x n.1 G) (RVL.dropC hc l r n.2 F)
end
theorem RVD.dropC {κ:Type}{F:lw->Option κ}(hc:Cells clos H):∀(l:List (lw×lw)) (B:List (κ×V)),mz (l.map (·.2))=true->RVD F Γ φ H l B->RVD F Γ φ (ac2 clos H) l B
 | [],_,_,h=>h
 | (d,e)::l,_,n,h=>by
  obtain⟨k,v,r,e1,e2,e3,G⟩:=h
  rw[aS]at n
  unfold mz at n
  rw[ag]at n
  exact⟨k,v,r,e1,e2,RV.dropC hc e v n.1 e3,RVD.dropC hc l r n.2 G⟩
theorem RO.dropC {a:Addr}{o:lV}(hc:Cells clos H)(h:RO Γ φ H a o)(n:o.ncl=true):RO Γ φ (ac2 clos H) a o:=by
 cases o with
 | lst l =>
  obtain⟨B,e,r⟩:=h
  exact⟨B,by rw[ac2.ne (zK hc e (λ _ z=>by cases z))];exact e,RVL.dropC hc l B n r⟩
 | ro l =>
  obtain⟨B,e,r⟩:=h
  exact⟨B,SqF.dropC hc e,RVL.dropC hc l B n r⟩
 | dic l =>
  obtain⟨B,e,r⟩:=h
  exact⟨B,by rw[ac2.ne (zK hc e (λ _ z=>by cases z))];exact e,RVD.dropC hc l B n r⟩
 | dit l =>
  obtain⟨B,e,r⟩:=h
  exact⟨B,by rw[ac2.ne (zK hc e (λ _ z=>by cases z))];exact e,RVD.dropC hc l B n r⟩
 | ins _ _=>exact h.elim
theorem TabsH.dropC {T:List (Addr×Str)}(hc:Cells clos H)(h:TabsH T H):TabsH T (ac2 clos H):=λ y hy=>by
 obtain⟨ps,e,t,c⟩:=h y hy
 refine⟨ps,by rw[ac2.ne (zK hc e (λ _ z=>by cases z))];exact e,t,λ pos F q=>?_⟩
 obtain⟨B,e1,e2⟩:=c pos F q
 exact⟨B,e1,by rw[ac2.ne (zK hc e2 (λ _ z=>by unfold ay4 at z;cases z))];exact e2⟩
theorem Rp.dropC (hc:Cells clos H)(r:Rp Γ φ H s)(n:s.all DV.O.ncl=true):Rp Γ φ (ac2 clos H) s :=
 ⟨r.inj,λ i o e=>RO.dropC hc (r.obj i o e) (aM.mp n o (a7 e)),r.wf,TabsH.dropC hc r.tab⟩
theorem aX8 (B:∀ b,isC clos b=true->H' b=none):ad0 H' (Put clos H H'):=λ b o e=>by
 rw[Put.ne (λ z=>by rw[B b z]at e;cases e)];exact e
theorem Gr.put (hc:Cells clos H)(F:∀ b,isC clos b=true->H' b=none)(hK:∀ b o,Γ.K.lookup b=some o->H b=none)(R':Rp Γ φ' H' s')(g:Gr φ s (ac2 clos H) φ' s' H'):Gr φ s H φ' s' (Put clos H H'):=by
 refine⟨⟨g.w.map,λ b o e f=>?_⟩,g.le,λ i h1 J=>?_,g.kd,λ b e=>?_,λ b o e Y Z=>?_⟩
 ·by_cases z:isC clos b=true
  ·rw[Put.cell z];exact e
  ·rw[Put.ne z];exact g.w.kp b o (by rw[ac2.ne z];exact e) f
 ·have hd:=g.new i h1 J
  by_cases z:isC clos (φ' i)=true
  ·have hg:=F _ z
   obtain⟨o,eo⟩:∃ o,s'[i]?=some o:=⟨s'[i],aj J⟩
   have B:=R'.obj i o eo
   cases o with
   | lst l=>obtain⟨G,e,_⟩:=B;rw[hg]at e;cases e
   | ro l =>
    obtain⟨G,e,_⟩:=B
    rcases e.1 with(e|⟨_,e⟩)|⟨ob,its,n,e,_⟩
    ·rw[hg]at e;cases e
    ·rw[hg]at e;cases e
    ·exact hK _ _ e
   | dic l=>obtain⟨G,e,_⟩:=B;rw[hg]at e;cases e
   | dit l=>obtain⟨G,e,_⟩:=B;rw[hg]at e;cases e
   | ins _ _=>exact B.elim
  ·rw[ac2.ne z]at hd;exact hd
 ·by_cases z:isC clos b=true
  ·rw[Put.cell z];exact e
  ·rw[Put.ne z];exact g.st b (by rw[ac2.ne z];exact e)
 ·by_cases z:isC clos b=true
  ·rw[Put.cell z];exact e
  ·rw[Put.ne z];exact g.fr b o (by rw[ac2.ne z];exact e) Y Z
theorem bx4 {P:az}{w:World}{K:ac}{mg:Str->Option Value}{base:Heap}{k:Nat}{f:Addr}{N ps fr:List Str}{name qual:Str}{params:bW}{body:List Stmt}{scope:Scope}{B:List (Str×Addr)}{cap:List V}{sp:Sp}
  (S:LamScope N ps fr scope) (len:∀ vs H Q E,sp vs H Q E->vs.length=ps.length) (a5:cap.length=fr.length)
  (a1:∀(Y pm:Value) (c':Addr) (Z:Value) (us:List Value),us.length=ps.length->d9 (fX name qual params body scope B .none .none Y pm none (.ref c') Z) ⟨us,[]⟩=pure (ps.zip us))
  (a0:∀(A:aN) (F:List Env) (s:af) (H:Hp) (cd:Value) (vs:List V) (Q:VK),Room k (A.deeper (cV qual scope s.heap.objs.size f cd (aK (s.heap.objs.size+1) scope.names B)))->an0 H f name qual params body scope fr cap B->(∀ b o,K.lookup b=some o->H b=none)->sp vs H Q E0 ->
   ∃ t,PSs (aB7 P w K mg base N qual scope f cd B A F s H) body t/\t { nx:=λ _ H'=>(∀ b,isC B b=true->H' b=none)->Q .non (Put B H H'),rt:=λ v H'=>(∀ b,isC B b=true->H' b=none)->Q v (Put B H H') } (vs.map some++cap.map some) (ac2 B H)) :
  ClOk P w K mg base (k+1) (λ H=>an0 H f name qual params body scope fr cap B) f sp:=by
 refine⟨λ A F s H us vs Q hr G hR r a3=>?_⟩
 have hl:=len _ _ _ _ a3
 obtain⟨Y,pm,c',Z,h1,h2,h3,h4,h5,h6⟩:=id hR
 have a4:s.heap.NoLimit:=G.mod.nolimit.keeps λ b o e=>(G.bs b o e).1
 refine io hr.depth (ar5 G.hok h1) rfl S.co S.gen rfl (av7 G.hok h2) ?_
 rw[a1 Y pm c' Z us (by rw[<-r.length];exact hl)]
 refine ao (an8 S.kind (λ y hy=>?_) λ env he s1 x=>?_)
 ·rcases S.par y.1 (dQ (show(y.1,y.2)∈ps.zip us from hy)).1 with q|q
  ·exact .inl q
  ·exact .inr ⟨q,zQ q⟩
 ·subst he
  refine⟨a4.keeps x.toInCall.keep,codeAny_func ?_⟩
  obtain⟨t,ht,hq⟩:=a0 A F s H (.ref c') vs Q (hr.deeper _) hR (λ b o e=>(G.bs b o (G.mod.kin b o e)).2) a3
  have I:=aT7 S hr.hd G hl a5 r h3 h4 h5 h6 x
  refine a8 (ht [] s1 _ _ _ I hq) (λ fl s' hs=>?_) λ e s' hs=>hs.elim
  have fin:∀ {σ':St} {H':Hp} {v:V} {u:Value},Inv (aB7 P w K mg base N qual scope f (.ref c') B A F s H) [] σ' H' s'->RelV v u->((∀ b,isC B b=true->H' b=none)->Q v (Put B H H'))->CE F P w H s Q u s':=λ {σ' H' v u} J rv q=>by
   obtain⟨un,a6⟩:=aV2 G.hok h3 G.frf J.base J.hok
   have a2:∀ b,isC B b=true->H' b=none:=λ b y=>by
    obtain⟨o,v,z,_⟩:=h3.at y
    exact(show Un (frs F) [] (ac2 B H) H' s.heap s'.heap from J.base).free b o (G.hok b _ z).1 (ac2.cell y) (by simp)
   exact⟨v,_,J.os,J.bare,un,a6,rv,q a2⟩
  cases fl with
  | ret u =>
   obtain⟨v,σ',H',J,rv,q⟩:=hs
   exact fin J rv q
  | next =>
   obtain⟨σ',H',J,q⟩:=hs
   exact fin (v:=V.non) (u:=Value.none) J rfl q
  | brk =>
   obtain⟨_,_,_,q⟩:=hs
   exact bj q
  | cont =>
   obtain⟨_,_,_,q⟩:=hs
   exact bj q
theorem bv6 {P:az}{w:World}{K:ac}{mg:Str->Option Value}{base:Heap}{k:Nat}{f:Addr}{N ps fr:List Str}{qual:Str}{params:bW}{body:Expr}{scope:Scope}{B:List (Str×Addr)}{cap:List V}{sp:Sp}
  (S:LamScope N ps fr scope) (len:∀ vs H Q E,sp vs H Q E->vs.length=ps.length) (a4:cap.length=fr.length)
  (a0:∀(pm:Value) (c':Addr) (Y:Value) (us:List Value),us.length=ps.length->d9 (dw "<lambda>" qual params body scope B pm (.ref c') Y) ⟨us,[]⟩=pure (ps.zip us))
  (Z:∀(A:aN) (F:List Env) (s:af) (H:Hp) (cd:Value) (vs:List V) (Q:VK),Room k (A.deeper (cV qual scope s.heap.objs.size f cd (aK (s.heap.objs.size+1) scope.names B)))->aE8 H f qual params body scope fr cap B->(∀ b o,K.lookup b=some o->H b=none)->sp vs H Q E0 ->
   ∃ t,PE (aB7 P w K mg base N qual scope f cd B A F s H) body t/\t (vs.map some++cap.map some) (ac2 B H) λ v H'=>(∀ b,isC B b=true->H' b=none)->Q v (Put B H H')) :
  ClOk P w K mg base (k+1) (λ H=>aE8 H f qual params body scope fr cap B) f sp:=by
 refine⟨λ A F s H us vs Q hr G hR r a1=>?_⟩
 have hl:=len _ _ _ _ a1
 obtain⟨pm,c',Y,h1,h2,h3,h4,h5,h6⟩:=id hR
 have a3:s.heap.NoLimit:=G.mod.nolimit.keeps λ b o e=>(G.bs b o e).1
 refine PySem.W.kla_callFunE hr.depth (ar5 G.hok h1) rfl S.co S.gen rfl (av7 G.hok h2) ?_
 rw[a0 pm c' Y us (by rw[<-r.length];exact hl)]
 refine ao (an8 S.kind (λ y hy=>?_) λ env he s1 x=>?_)
 ·rcases S.par y.1 (dQ (show(y.1,y.2)∈ps.zip us from hy)).1 with q|q
  ·exact .inl q
  ·exact .inr ⟨q,zQ q⟩
 ·subst he
  refine⟨a3.keeps x.toInCall.keep,PySem.W.kla_codeExpr ?_⟩
  obtain⟨t,ht,hq⟩:=Z A F s H (.ref c') vs Q (hr.deeper _) hR (λ b o e=>(G.bs b o (G.mod.kin b o e)).2) a1
  have I:=aT7 S hr.hd G hl a4 r h3 h4 h5 h6 x
  refine a8 (ht [] s1 _ _ _ I hq) (λ u s' hs=>?_) λ e s' hs=>hs.elim
  obtain⟨v,H',J,rv,q⟩:=hs
  obtain⟨un,a5⟩:=aV2 G.hok h3 G.frf J.base J.hok
  have a2:∀ b,isC B b=true->H' b=none:=λ b y=>by
   obtain⟨o,v,z,_⟩:=h3.at y
   exact(show Un (frs F) [] (ac2 B H) H' s.heap s'.heap from J.base).free b o (G.hok b _ z).1 (ac2.cell y) (by simp)
  exact⟨v,_,J.os,J.bare,un,a5,rv,q a2⟩
theorem Cells.kp {H H':Hp}(h:Cells clos H)(k:Kp H H'):Cells clos H':=λ x c e=>by
 obtain⟨o,v,q,d⟩:=h x c e
 exact⟨o,v,k _ _ q rfl,d⟩
noncomputable def PVp (Γ : Gm) (cells : List (Str × Addr)) (N : List Str) (σ : St) (φ : Nat -> Addr) (H : Hp) (d : DV.D) (v : V) : Prop := RV Γ φ H d v \/ ∃ id cs, d = .clo id cs /\ ∃ f J, v = .ref f /\ Γ.lg id J /\ au7 H f J (an1 cells J.scope.names []) /\
      cs.length = J.fr.length /\ (∀ x, J.scope.names.lookup x = some .free -> ∃ c, cells.lookup x = some c) /\
      ∃ cap, RVL Γ φ H cs cap /\ ∀(i : Nat) (x : Str) (v : V), J.fr[i]? = some x -> cap[i]? = some v -> J.scope.names.lookup x = some .free /\ ∃ j : Nat, N[j]? = some x /\ σ[j]? = some (some v)
inductive PVL (Γ:Gm)(cells:List (Str×Addr))(N:List Str)(σ:St)(φ:Nat->Addr)(H:Hp):List lw->List V->Prop where
 | nil:PVL Γ cells N σ φ H [] []
 | cons {d v l vs} (a:PVp Γ cells N σ φ H d v) (b:PVL Γ cells N σ φ H l vs):PVL Γ cells N σ φ H (d::l) (v::vs)
theorem PVp.mono {cells:List (Str×Addr)}{N:List Str}{σ:St}{φ φ':Nat->Addr}{s s':lv}{H H':Hp}(g:Gr φ s H φ' s' H'){d:lw}{v:V}(b:d.bnd s.length=true)(h:PVp Γ cells N σ φ H d v):PVp Γ cells N σ φ' H' d v:=by
 rcases h with h|⟨id,cs,rfl,h⟩
 ·exact .inl (RV.mono g _ _ b h)
 ·obtain⟨f,J,e,F,Z,B,Y,cap,G,h7⟩:=h
  unfold lB at b
  exact .inr ⟨id,cs,rfl,f,J,e,F,Z.kp g.w.kp,B,Y,cap,RVL.mono g cs cap b G,h7⟩
end
variable {Γ:Gm} {X:Cx}
def TEv (Γ:Gm)(m:lx->lv->lz lw):TE:=λ σ H Q=>∃ φ ρ s d s',RE Γ φ H s.length ρ σ/\Rp Γ φ H s/\m ρ s=.ok d s'/\ad9 Γ φ s H d s' Q
def bO7 (Γ:Gm)(φ:Nat->Addr)(s:lv)(H:Hp)(l:List lw)(s':lv)(Q:List V->Hp->Prop):Prop :=
 ∀ vs φ' H',Gr φ s H φ' s' H'->s.length<=s'.length->ly s'.length l=true->RVL Γ φ' H' l vs->Rp Γ φ' H' s'->Q vs H'
def TAv (Γ:Gm)(m:lx->lv->lz (List lw)):TA:=λ σ H Q=>∃ φ ρ s l s',RE Γ φ H s.length ρ σ/\Rp Γ φ H s/\m ρ s=.ok l s'/\bO7 Γ φ s H l s' Q
def aI9 (Γ:Gm)(φ:Nat->Addr)(s:lv)(H:Hp)(b:Bool)(s':lv)(Q:Bool->Hp->Prop):Prop :=
 ∀ φ' H',Gr φ s H φ' s' H'->s.length<=s'.length->Rp Γ φ' H' s'->Q b H'
def TTv (Γ:Gm)(m:lx->lv->lz lw):TT:=λ σ H Q=>∃ φ ρ s b s',RE Γ φ H s.length ρ σ/\Rp Γ φ H s/\m ρ s=.ok (.bl b) s'/\aI9 Γ φ s H b s' Q
theorem PE.imp {e:Expr}{t t':TE}(h:PE X e t)(i:∀ σ H Q,t' σ H Q->t σ H Q):PE X e t':=λ B s σ H Q I q=>h B s σ H Q I (i σ H Q q)
theorem PT.imp {e:Expr}{t t':TT}(h:PT X e t)(i:∀ σ H Q,t' σ H Q->t σ H Q):PT X e t':=λ B s σ H Q I q=>h B s σ H Q I (i σ H Q q)
theorem PA.imp {e:List Expr}{t t':TA}(h:PA X e t)(i:∀ σ H Q,t' σ H Q->t σ H Q):PA X e t':=λ pos B s σ H Q I q=>h pos B s σ H Q I (i σ H Q q)
theorem aI9.trans {φ φ1:Nat->Addr}{s s1 s':lv}{H B:Hp}{b:Bool}{Q:Bool->Hp->Prop}(h:aI9 Γ φ s H b s' Q)(g:Gr φ s H φ1 s1 B)(l:s.length<=s1.length):aI9 Γ φ1 s1 B b s' Q :=
 λ φ' H' g' F p=>h φ' H' (g.trans g' l) (am l F) p
theorem bE7 (i:Nat){σ:St}{H:Hp}{Q:VK}(h:TEv Γ (λ ρ s=>ny ρ i s) σ H Q):bM6 i σ H Q:=by
 obtain⟨φ,ρ,s,d,s',E,R,B,q⟩:=h
 simp only[ny]at B
 split at B
 ·rename_i d' e
  cases B
  obtain⟨b,v,e1,e2⟩:=E.val i _ e
  exact⟨v,e1,q.here R b e2⟩
 ·exact fb B
theorem ax4 {c:lw}{v:V}(hb:∀ n,c.bnd n=true)(hv:∀ φ H,RV Γ φ H c v){σ:St}{H:Hp}{Q:VK}(h:TEv Γ (λ ρ s=>.ok c s) σ H Q):tC v σ H Q:=by
 obtain⟨φ,ρ,s,d,s',E,R,B,q⟩:=h
 cases B
 exact q.here R (hb _) (hv _ _)
theorem bc2 {G Y:lx->lv->lz lw}{f:lw->lw->lv->lz lw}{σ:St}{H:Hp}{Q:VK}(h:TEv Γ (λ ρ s=>(G ρ s).bind λ x s=>(Y ρ s).bind λ y s=>f x y s) σ H Q):tOp (rOp Γ f) (TEv Γ G) (TEv Γ Y) σ H Q:=by
 obtain⟨φ,ρ,s,d,s',E,R,B,q⟩:=h
 obtain⟨x,s1,e1,B⟩:=aa1 B
 obtain⟨y,s2,e2,B⟩:=aa1 B
 refine⟨φ,ρ,s,x,s1,E,R,e1,λ v1 φ1 H1 g1 l1 Z r1 R1=>?_⟩
 refine⟨φ1,ρ,s1,y,s2,E.mono g1 l1,R1,e2,λ v2 φ2 H2 F J b2 r2 R2=>?_⟩
 exact⟨φ2,s2,x,y,d,s',R2,RV.mono F x v1 Z r1,r2,zh J x Z,b2,B,q.trans (g1.trans F l1) (am l1 J)⟩
theorem bV1 {m:lx->lv->lz lw}{f:lw->lv->lz lw}{r:V->Hp->VK->Prop}{σ:St}{H:Hp}{Q:VK}(h:TEv Γ (λ ρ s=>(m ρ s).bind λ x s=>f x s) σ H Q)
  (hr:∀ φ s x d s' v H',Rp Γ φ H' s->RV Γ φ H' x v->x.bnd s.length=true->f x s=.ok d s'->ad9 Γ φ s H' d s' Q->r v H' Q):tUn r (TEv Γ m) σ H Q:=by
 obtain⟨φ,ρ,s,d,s',E,R,B,q⟩:=h
 obtain⟨x,s1,e1,B⟩:=aa1 B
 exact⟨φ,ρ,s,x,s1,E,R,e1,λ v1 φ1 F g1 l1 G r1 R1=>hr φ1 s1 x d s' v1 F R1 r1 G B (q.trans g1 l1)⟩
theorem zI {α:Type}{r:lz lw}{f:Bool->lv->lz α}{a:α}{t:lv}(h:lH r f=.ok a t):∃ b s,r=.ok (.bl b) s/\f b s=.ok a t:=by
 unfold lH at h
 obtain⟨d,s,e,h⟩:=aa1 h
 cases d with
 | bl b=>exact⟨b,s,e,h⟩
 | _=>exact fb h
theorem aJ4 {m:lx->lv->lz lw}{σ:St}{H:Hp}{Q:Bool->Hp->Prop}(h:TTv Γ m σ H Q):tB (TEv Γ m) σ H Q:=by
 obtain⟨φ,ρ,s,b,s',E,R,F,q⟩:=h
 refine⟨φ,ρ,s,.bl b,s',E,R,F,λ v φ' H' g l G r B=>?_⟩
 exact⟨b,r.blE,q φ' H' g l B⟩
theorem bn8 {m:lx->lv->lz lw}{σ:St}{H:Hp}{Q:Bool->Hp->Prop}(h:TTv Γ m σ H Q):bI5 (TEv Γ m) σ H Q:=aJ4 h
theorem bO4 {m:lx->lv->lz lw}{σ:St}{H:Hp}{Q:Bool->Hp->Prop}(h:TTv Γ (λ ρ s=>lH (m ρ s) λ b s=>.ok (.bl (!b)) s) σ H Q):cd6 (TTv Γ m) σ H Q:=by
 obtain⟨φ,ρ,s,b,s',E,R,B,q⟩:=h
 obtain⟨c,s1,e1,B⟩:=zI B
 cases B
 exact⟨φ,ρ,s,c,_,E,R,e1,q⟩
theorem bl2 {G F:lx->lv->lz lw}{σ:St}{H:Hp}{Q:Bool->Hp->Prop}(h:TTv Γ (λ ρ s=>lH (G ρ s) λ c s=>if c then lH (F ρ s) λ c s=>.ok (.bl c) s else .ok (.bl false) s) σ H Q):cd7 (TTv Γ G) (TTv Γ F) σ H Q:=by
 obtain⟨φ,ρ,s,b,s',E,R,B,q⟩:=h
 obtain⟨c,s1,e1,B⟩:=zI B
 refine⟨φ,ρ,s,c,s1,E,R,e1,λ φ1 J g1 l1 R1=>?_⟩
 cases c with
 | true =>
  rw[if_pos rfl]at B ⊢
  obtain⟨Y,s2,e2,B⟩:=zI B
  cases B
  exact⟨φ1,ρ,s1,_,_,E.mono g1 l1,R1,e2,q.trans g1 l1⟩
 | false =>
  rw[if_neg aR]at B ⊢
  cases B
  exact q φ1 J g1 l1 R1
theorem bM7 {G F:lx->lv->lz lw}{σ:St}{H:Hp}{Q:Bool->Hp->Prop}(h:TTv Γ (λ ρ s=>lH (G ρ s) λ c s=>if c then .ok (.bl true) s else lH (F ρ s) λ c s=>.ok (.bl c) s) σ H Q):tOr (TTv Γ G) (TTv Γ F) σ H Q:=by
 obtain⟨φ,ρ,s,b,s',E,R,B,q⟩:=h
 obtain⟨c,s1,e1,B⟩:=zI B
 refine⟨φ,ρ,s,c,s1,E,R,e1,λ φ1 J g1 l1 R1=>?_⟩
 cases c with
 | true =>
  rw[if_pos rfl]at B ⊢
  cases B
  exact q φ1 J g1 l1 R1
 | false =>
  rw[if_neg aR]at B ⊢
  obtain⟨Y,s2,e2,B⟩:=zI B
  cases B
  exact⟨φ1,ρ,s1,_,_,E.mono g1 l1,R1,e2,q.trans g1 l1⟩
theorem bL7 {m:lx->lv->lz lw}{σ:St}{H:Hp}{Q:VK}(h:TEv Γ (λ ρ s=>lH (m ρ s) λ b s=>.ok (.bl (!b)) s) σ H Q):bP1 (TEv Γ m) σ H Q:=by
 obtain⟨φ,ρ,s,d,s',E,R,B,q⟩:=h
 obtain⟨c,s1,e1,B⟩:=zI B
 cases B
 exact⟨φ,ρ,s,.bl c,_,E,R,e1,λ v φ1 F g l b r R1=>⟨c,r.blE,q _ φ1 F g l rfl RV.blI R1⟩⟩
theorem bi5 {G F:lx->lv->lz lw}{σ:St}{H:Hp}{Q:VK}(h:TEv Γ (λ ρ s=>lH (G ρ s) λ c s=>if c then lH (F ρ s) λ c s=>.ok (.bl c) s else .ok (.bl false) s) σ H Q):bP6 (TEv Γ G) (TEv Γ F) σ H Q:=by
 obtain⟨φ,ρ,s,d,s',E,R,B,q⟩:=h
 obtain⟨c,s1,e1,B⟩:=zI B
 refine⟨φ,ρ,s,.bl c,s1,E,R,e1,λ v φ1 J g1 l1 Y r1 R1=>⟨c,r1.blE,?_⟩⟩
 cases c with
 | true =>
  rw[if_pos rfl]at B ⊢
  obtain⟨c,s2,e2,B⟩:=zI B
  cases B
  exact⟨φ1,ρ,s1,.bl c,_,E.mono g1 l1,R1,e2,q.trans g1 l1⟩
 | false =>
  rw[if_neg aR]at B ⊢
  cases B
  exact q _ φ1 J g1 l1 rfl RV.blI R1
theorem bR1 {G F:lx->lv->lz lw}{σ:St}{H:Hp}{Q:VK}(h:TEv Γ (λ ρ s=>lH (G ρ s) λ c s=>if c then .ok (.bl true) s else lH (F ρ s) λ c s=>.ok (.bl c) s) σ H Q):ce3 (TEv Γ G) (TEv Γ F) σ H Q:=by
 obtain⟨φ,ρ,s,d,s',E,R,B,q⟩:=h
 obtain⟨c,s1,e1,B⟩:=zI B
 refine⟨φ,ρ,s,.bl c,s1,E,R,e1,λ v φ1 J g1 l1 Y r1 R1=>⟨c,r1.blE,?_⟩⟩
 cases c with
 | true =>
  rw[if_pos rfl]at B ⊢
  cases B
  exact q _ φ1 J g1 l1 rfl RV.blI R1
 | false =>
  rw[if_neg aR]at B ⊢
  obtain⟨c,s2,e2,B⟩:=zI B
  cases B
  exact⟨φ1,ρ,s1,.bl c,_,E.mono g1 l1,R1,e2,q.trans g1 l1⟩
theorem bQ9 {mc G F:lx->lv->lz lw}{σ:St}{H:Hp}{Q:VK}(h:TEv Γ (λ ρ s=>lH (mc ρ s) λ k s=>if k then G ρ s else F ρ s) σ H Q):tIf (TTv Γ mc) (TEv Γ G) (TEv Γ F) σ H Q:=by
 obtain⟨φ,ρ,s,d,s',E,R,B,q⟩:=h
 obtain⟨c,s1,e1,B⟩:=zI B
 refine⟨φ,ρ,s,c,s1,E,R,e1,λ φ1 J g1 l1 R1=>?_⟩
 cases c with
 | true =>
  rw[if_pos rfl]at B ⊢
  exact⟨φ1,ρ,s1,d,s',E.mono g1 l1,R1,B,q.trans g1 l1⟩
 | false =>
  rw[if_neg aR]at B ⊢
  exact⟨φ1,ρ,s1,d,s',E.mono g1 l1,R1,B,q.trans g1 l1⟩
theorem aI2 {σ:St}{H:Hp}{Q:List V->Hp->Prop}(h:TAv Γ (λ ρ s=>.ok [] s) σ H Q):bl0 σ H Q:=by
 obtain⟨φ,ρ,s,d,s',E,R,B,q⟩:=h
 cases B
 exact q [] φ H (Gr.refl _ _ _) (ak _) rfl .nil R
theorem bo8 {m:lx->lv->lz lw}{G:lx->lv->lz (List lw)}{σ:St}{H:Hp}{Q:List V->Hp->Prop}(h:TAv Γ (λ ρ s=>(m ρ s).bind λ d s=>(G ρ s).bind λ l s=>.ok (d::l) s) σ H Q):aN3 (TEv Γ m) (TAv Γ G) σ H Q:=by
 obtain⟨φ,ρ,s,l,s',E,R,B,q⟩:=h
 obtain⟨x,s1,e1,B⟩:=aa1 B
 obtain⟨y,s2,e2,B⟩:=aa1 B
 cases B
 refine⟨φ,ρ,s,x,s1,E,R,e1,λ v1 φ1 H1 g1 l1 Y r1 R1=>?_⟩
 refine⟨φ1,ρ,s1,y,_,E.mono g1 l1,R1,e2,λ v2 φ2 H2 F J Z r2 R2=>?_⟩
 refine q (v1::v2) φ2 H2 (g1.trans F l1) (am l1 J) ?_ (.cons (RV.mono F x v1 Y r1) r2) R2
 unfold ly
 rw[zh J x Y,Z];rfl
theorem aD8 {F:lx->lv->lz (List lw)}{f:List lw->lv->lz lw}{σ:St}{H:Hp}{Q:VK}(h:TEv Γ (λ ρ s=>(F ρ s).bind λ l s=>f l s) σ H Q):tCB (rCl Γ f) (TAv Γ F) σ H Q:=by
 obtain⟨φ,ρ,s,d,s',E,R,B,q⟩:=h
 obtain⟨l,s1,e1,B⟩:=aa1 B
 exact⟨φ,ρ,s,l,s1,E,R,e1,λ vs φ1 J g1 l1 G r1 R1=>⟨φ1,s1,l,d,s',R1,r1,G,B,q.trans g1 l1⟩⟩
theorem bY1 {m:lx->lv->lz lw}{ml Y:lx->lv->lz lw}{σ:St}{H:Hp}{Q:VK} :
  (TEv Γ (λ ρ s=>(m ρ s).bind λ x s=>(ml ρ s).bind λ y s=>match y with|.int i=>mU x (some i) none s|_=>.bad) σ H Q->tSl (rSl Γ) (TEv Γ m) (aZ1 (TEv Γ ml)) aA2 σ H Q) /\
  (TEv Γ (λ ρ s=>(m ρ s).bind λ x s=>(Y ρ s).bind λ y s=>match y with|.int i=>mU x none (some i) s|_=>.bad) σ H Q->tSl (rSl Γ) (TEv Γ m) aA2 (aZ1 (TEv Γ Y)) σ H Q) /\
  (TEv Γ (λ ρ s=>(m ρ s).bind λ x s=>(ml ρ s).bind λ y s=>match y with|.int i=>(Y ρ s).bind (λ z s=>match z with|.int j=>mU x (some i) (some j) s|_=>.bad)|_=>.bad) σ H Q->tSl (rSl Γ) (TEv Γ m) (aZ1 (TEv Γ ml)) (aZ1 (TEv Γ Y)) σ H Q):=by
 refine⟨λ h=>?_,λ h=>?_,λ h=>?_⟩
 ·obtain⟨φ,ρ,s,d,s',E,R,B,q⟩:=h
  obtain⟨x,s1,e1,B⟩:=aa1 B
  obtain⟨y,s2,e2,B⟩:=aa1 B
  refine⟨φ,ρ,s,x,s1,E,R,e1,λ v1 φ1 H1 g1 l1 J r1 R1=>?_⟩
  refine⟨φ1,ρ,s1,y,s2,E.mono g1 l1,R1,e2,λ v2 φ2 H2 G F Z r2 R2=>?_⟩
  cases y with
  | int i=>exact⟨i,r2.intE,φ2,s2,x,d,s',R2,RV.mono G x v1 J r1,zh F x J,B,q.trans (g1.trans G l1) (am l1 F)⟩
  | _=>exact fb B
 ·obtain⟨φ,ρ,s,d,s',E,R,B,q⟩:=h
  obtain⟨x,s1,e1,B⟩:=aa1 B
  obtain⟨y,s2,e2,B⟩:=aa1 B
  refine⟨φ,ρ,s,x,s1,E,R,e1,λ v1 φ1 H1 g1 l1 J r1 R1=>?_⟩
  refine⟨φ1,ρ,s1,y,s2,E.mono g1 l1,R1,e2,λ v2 φ2 H2 G F Z r2 R2=>?_⟩
  cases y with
  | int i=>exact⟨i,r2.intE,φ2,s2,x,d,s',R2,RV.mono G x v1 J r1,zh F x J,B,q.trans (g1.trans G l1) (am l1 F)⟩
  | _=>exact fb B
 ·obtain⟨φ,ρ,s,d,s',E,R,B,q⟩:=h
  obtain⟨x,s1,e1,B⟩:=aa1 B
  obtain⟨y,s2,e2,B⟩:=aa1 B
  refine⟨φ,ρ,s,x,s1,E,R,e1,λ v1 φ1 H1 g1 l1 J r1 R1=>?_⟩
  refine⟨φ1,ρ,s1,y,s2,E.mono g1 l1,R1,e2,λ v2 φ2 H2 G F Z r2 R2=>?_⟩
  cases y with
  | int i =>
   obtain⟨z,s3,e3,B⟩:=aa1 B
   refine⟨i,r2.intE,φ2,ρ,s2,z,s3,E.mono (g1.trans G l1) (am l1 F),R2,e3,λ v3 φ3 H3 g3 l3 b3 r3 R3=>?_⟩
   cases z with
   | int j=>exact⟨j,r3.intE,φ3,s3,x,d,s',R3,RV.mono (G.trans g3 F) x v1 J r1,zh (am F l3) x J,B,q.trans ((g1.trans G l1).trans g3 (am l1 F)) (am (am l1 F) l3)⟩
   | _=>exact fb B
  | _=>exact fb B
variable {Γ:Gm} {X:Cx}
def ao4 (Γ:Gm)(J:It)(φ0:Nat->Addr)(H0:Hp)(s0:lv)(q:mH):Prop :=
 ∀ φ H s,Gr φ0 s0 H0 φ s H->s0.length<=s.length->Rp Γ φ H s->lY s0 s q.src=true->∀ i:Nat,
  (i<q.its.length->J.go i H/\∀ x H',J.yld i H x H'->ad0 H H'/\∀ d,q.its[i]?=some d->RV Γ φ H' d x)/\(q.its.length<=i->J.stop i H)
def TIv (Γ:Gm)(m:lx->lv->lz mH):TI:=λ σ H R=>∃ φ ρ s q s',RE Γ φ H s.length ρ σ/\Rp Γ φ H s/\m ρ s=.ok q s' /\
 ∀ J φ' H',Gr φ s H φ' s' H'->s.length<=s'.length->ly s'.length q.its=true->Rp Γ φ' H' s'->ao4 Γ J φ' H' s' q->R J H'
theorem PI.imp {tg e:Expr}{t t':TI}(h:PI X tg e t)(i:∀ σ H R,t' σ H R->t σ H R):PI X tg e t':=λ B s σ H R I q=>h B s σ H R I (i σ H R q)
theorem PI.or {tg e:Expr}{t t':TI}(h:PI X tg e t)(h':PI X tg e t'):PI X tg e (λ σ H R=>t σ H R\/t' σ H R):=λ B s σ H R I q=>q.elim (h B s σ H R I) (h' B s σ H R I)
theorem bb8 {φ0:Nat->Addr}{H0:Hp}{s0:lv}{a:Addr}{B:List V}{l:List lw}(h:SqT Γ.K H0 a B)(hl:RVL Γ φ0 H0 l B)(hb:ly s0.length l=true):ao4 Γ (Itt Γ.K a) φ0 H0 s0 ⟨l,[]⟩:=by
 intro φ H s g _ R _ i
 have h':=g.w.kp.sqT h
 have F:=RVL.mono g l B hb hl
 refine⟨λ hlt=>⟨⟨B,B[i]'(by rw[F.length];exact hlt),h',aj _⟩,λ x H' y=>?_⟩,λ G=>⟨B,h',by rw[F.length];exact G⟩⟩
 obtain⟨e,y⟩:=y
 subst e
 refine⟨ad0.refl _,λ d hd=>?_⟩
 obtain⟨v,e1,e2⟩:=F.get hd
 rw[y B h']at e1;cases e1
 exact e2
theorem bA8 {φ0:Nat->Addr}{H0:Hp}{s0:lv}{a:Addr}{B:List V}{l:List lw}(h:SqF Γ.K H0 a B)(hl:RVL Γ φ0 H0 l B)(hb:ly s0.length l=true):ao4 Γ (Itl Γ.K a) φ0 H0 s0 ⟨l,[]⟩:=by
 intro φ H s g _ R _ i
 have h':=h.2 _ g.w.kp
 have F:=RVL.mono g l B hb hl
 refine⟨λ hlt=>⟨⟨B,B[i]'(by rw[F.length];exact hlt),h',aj _⟩,λ x H' y=>?_⟩,λ G=>⟨B,h',by rw[F.length];exact G⟩⟩
 obtain⟨e,y⟩:=y
 subst e
 refine⟨ad0.refl _,λ d hd=>?_⟩
 obtain⟨v,e1,e2⟩:=F.get hd
 rw[y B h']at e1;cases e1
 exact e2
theorem bb0 {φ0:Nat->Addr}{H0:Hp}{s0:lv}{r:Nat}{l:List lw}(hr:s0[r]?=some (.lst l)):ao4 Γ (Itl Γ.K (φ0 r)) φ0 H0 s0 ⟨l,[r]⟩:=by
 intro φ H s g _ R J i
 have G:r<s0.length:=(ah.mp hr).1
 have hs:s[r]?=some (.lst l):=by
  unfold lY at J
  simp only[c8,List.all_nil,jk,decide_eq_true_eq]at J
  rw[J];exact hr
 obtain⟨F,e,B⟩:=R.addr hs
 rw[g.w.map r G]at e
 have h':SqL Γ.K H (φ0 r) F:=SqL.of e
 refine⟨λ hlt=>⟨⟨F,F[i]'(by rw[B.length];exact hlt),h',aj _⟩,λ x H' y=>?_⟩,λ Y=>⟨F,h',by rw[B.length];exact Y⟩⟩
 obtain⟨e,y⟩:=y
 subst e
 refine⟨ad0.refl _,λ d hd=>?_⟩
 obtain⟨v,e1,e2⟩:=B.get hd
 rw[y F h']at e1;cases e1
 exact e2
theorem bh6 {φ0:Nat->Addr}{H0:Hp}{s0:lv}{l:List Nat}:ao4 Γ (Its ⟨l.toArray⟩) φ0 H0 s0 ⟨l.map λ c=>.str [c],[]⟩:=by
 intro φ H s g _ R _ i
 have hsz:(⟨l.toArray⟩:Str).cps.size=l.length:=by simp
 refine⟨λ hlt=>?_,λ B=>?_⟩
 ·simp only[aw]at hlt
  refine⟨show i<(⟨l.toArray⟩:Str).cps.size by rw[hsz];exact hlt,λ x H' y=>?_⟩
  obtain⟨e,c,hc,rfl⟩:=y
  subst e
  refine⟨ad0.refl _,λ d hd=>?_⟩
  have F:l[i]?=some c:=by simpa using hc
  rw[aH,F]at hd
  cases hd
  exact RV.strI (by simp;decide)
 ·simp only[aw]at B
  show(⟨l.toArray⟩:Str).cps.size<=i
  rw[hsz];exact B
theorem bb7 {φ0:Nat->Addr}{H0:Hp}{s0:lv}{a b:Int}:ao4 Γ (Itr a (b - a).toNat) φ0 H0 s0 ⟨ng a b,[]⟩:=by
 intro φ H s g _ R _ i
 have hn:(ng a b).length=(b - a).toNat:=by simp[ng]
 refine⟨λ hlt=>⟨show i<(b - a).toNat by rw[<-hn];exact hlt,λ x H' y=>?_⟩,λ B=>show(b - a).toNat<=i by rw[<-hn];exact B⟩
 obtain⟨e,rfl⟩:=y
 subst e
 refine⟨ad0.refl _,λ d hd=>?_⟩
 simp only[ng]at hd hlt
 rw[aH,dH (by simpa using hlt)]at hd
 cases hd
 exact RV.intI
theorem by5 {m:lx->lv->lz lw}{σ:St}{H:Hp}{R:It->Hp->Prop}(h:TIv Γ (λ ρ s=>(m ρ s).bind λ x s=>match x with|.int i=>if -nG<=i/\i<nG then .ok ⟨ng 0 i,[]⟩ s else .bad|_=>.bad) σ H R) :
  bN1 (aN3 (TEv Γ m) bl0) σ H R:=by
 obtain⟨φ,ρ,s,q,s',E,P,B,k⟩:=h
 obtain⟨x,s1,e1,B⟩:=aa1 B
 refine⟨φ,ρ,s,x,s1,E,P,e1,λ v φ1 G g l b r J=>?_⟩
 cases x with
 | int i =>
  simp only at B
  split at B
  ·rename_i F
   cases B
   have hw:nG=2^62:=by decide
   rw[hw]at F
   refine⟨i,by rw[r.intE],F.1,F.2,k _ φ1 G g l ?_ J ?_⟩
   ·refine aa8.mpr λ d hd=>?_
    simp only[ng,aP]at hd
    obtain⟨_,_,rfl⟩:=hd
    rfl
   ·have:=bb7 (Γ:=Γ) (φ0:=φ1) (H0:=G) (s0:=s') (a:=0) (b:=i)
    rwa [kZ]at this
  ·exact fb B
 | _=>exact fb B
theorem bN2 {m:lx->lv->lz lw}{σ:St}{H:Hp}{R:It->Hp->Prop}(h:TIv Γ (λ ρ s=>(m ρ s).bind λ d s=>DV.aO2 d s) σ H R) :
  bY4 Γ.K (TEv Γ m) σ H R\/bu1 Γ.K (TEv Γ m) σ H R\/cc4 (TEv Γ m) σ H R:=by
 obtain⟨φ,ρ,s,q,s',E,P,B,k⟩:=h
 obtain⟨x,s1,e1,B⟩:=aa1 B
 unfold DV.aO2 at B
 cases x with
 | tup l =>
  cases B
  refine .inl ⟨φ,ρ,s,_,_,E,P,e1,λ v φ1 G g l b r F=>?_⟩
  obtain⟨a,J,rfl,h1,d1⟩:=r.tupE
  unfold lB at b
  exact⟨a,rfl,⟨J,h1⟩,k _ φ1 G g l b F (bb8 h1 d1 b)⟩
 | str l =>
  cases B
  refine .inr (.inr ⟨φ,ρ,s,_,_,E,P,e1,λ v φ1 G g Y b r F=>?_⟩)
  refine⟨_,r.strE,k _ φ1 G g Y ?_ F bh6⟩
  refine aa8.mpr λ d hd=>?_
  simp only[aP]at hd
  obtain⟨_,_,rfl⟩:=hd
  rfl
 | ref r =>
  simp only at B
  cases hs:s1[r]? with
  | none=>rw[hs]at B;cases B
  | some o =>
   rw[hs]at B
   cases o with
   | lst l =>
    cases B
    refine .inr (.inl ⟨φ,ρ,s,_,_,E,P,e1,λ v φ1 G g Y b Z F=>?_⟩)
    have e:=Z.refE;subst e
    obtain⟨J,e2,d1⟩:=F.addr hs
    have wf:=F.wf _ _ hs
    unfold lD at wf
    exact⟨φ1 r,rfl,⟨J,SqL.of e2⟩,k _ φ1 G g Y wf F (bb0 hs)⟩
   | ro l =>
    cases B
    refine .inr (.inl ⟨φ,ρ,s,_,_,E,P,e1,λ v φ1 G g Y b Z F=>?_⟩)
    have e:=Z.refE;subst e
    obtain⟨J,e2,d1⟩:=F.obj _ _ hs
    have wf:=F.wf _ _ hs
    unfold lD at wf
    exact⟨φ1 r,rfl,⟨J,e2.1⟩,k _ φ1 G g Y wf F (bA8 e2 d1 wf)⟩
   | dic l=>exact fb B
   | dit l=>exact fb B
   | ins c l=>exact fb B
 | _=>exact fb B
variable {Γ:Gm} {X:Cx}
noncomputable def bS5:List Nat->TGs
 | []=>cd4
 | i::is=>bE8 (av9 i) (bS5 is)
noncomputable def gOf (K:ac):l6->TG
 | .one i=>av9 i
 | .tup is=>bX6 K is.length (bS5 is)
theorem aR8 {φ:Nat->Addr}{H:Hp}{n:Nat}{ρ ρ':lx}{σ:St}{i:Nat}{d:lw}{v:V}(E:RE Γ φ H n ρ σ)(r:RV Γ φ H d v)(b:d.bnd n=true)(h:l7 ρ i d=some ρ'):RE Γ φ H n ρ' (σ.set i (some v)):=by
 unfold l7 at h
 split at h
 ·rename_i B
  cases h
  refine⟨by rw[bp,bp];exact E.len,λ j e hj=>?_⟩
  by_cases hij:j=i
  ·subst hij
   rw[aO B]at hj
   cases hj
   exact⟨b,v,by rw[aO (by rw[<-E.len];exact B)],r⟩
  ·rw[aZ (cw hij)]at hj
   obtain⟨G,w,F,h3⟩:=E.val j e hj
   exact⟨G,w,by rw[aZ (cw hij)];exact F,h3⟩
 ·cases h
theorem bI6 {φ:Nat->Addr}{H:Hp}{n:Nat}{Q:St->Hp->Prop}:∀(is:List Nat) (l:List lw) (B:List V) (ρ ρ':lx) (σ:St),RE Γ φ H n ρ σ->RVL Γ φ H l B->ly n l=true->mW ρ is l=some ρ'->(∀ σ',RE Γ φ H n ρ' σ'->Q σ' H)->bS5 is B σ H Q
 | [],[],B,ρ,ρ',σ,E,r,_,h,k=>by
  cases h
  exact⟨r.unnil,k σ E⟩
 | [],d::l,_,_,_,_,_,_,_,h,_=>by cases h
 | i::is,[],_,_,_,_,_,_,_,h,_=>by cases h
 | i::is,d::l,B,ρ,ρ',σ,E,r,b,h,k=>by
  have h:(l7 ρ i d).bind (λ ρ=>mW ρ is l)=some ρ':=h
  obtain⟨x,F,rfl,J,G⟩:=r.uncons
  unfold ly at b
  rw[ag]at b
  cases e:l7 ρ i d with
  | none=>rw[e]at h;cases h
  | some ρ1 =>
   rw[e]at h
   exact⟨x,F,rfl,bI6 is l F ρ1 ρ' _ (aR8 E J b.1 e) G b.2 h k⟩
theorem aP7 {l:List lw}:∀ {is:List Nat} {ρ ρ':lx},mW ρ is l=some ρ'->is.length=l.length:=by
 induction l with
 | nil=>intro is ρ ρ' h;cases is with
  | nil=>rfl
  | cons i is=>cases h
 | cons d l ih=>intro is ρ ρ' h;cases is with
  | nil=>cases h
  | cons i is =>
   have h:(l7 ρ i d).bind (λ ρ=>mW ρ is l)=some ρ':=h
   cases e:l7 ρ i d with
   | none=>rw[e]at h;cases h
   | some ρ1=>rw[e]at h;rw[bf,bf,ih h]
theorem bf4 {φ:Nat->Addr}{H:Hp}{n:Nat}{Q:St->Hp->Prop}{tg:l6}{d:lw}{v:V}{ρ ρ':lx}{σ:St}(E:RE Γ φ H n ρ σ)(r:RV Γ φ H d v)(b:d.bnd n=true)(h:lQ ρ tg d=some ρ')(k:∀ σ',RE Γ φ H n ρ' σ'->Q σ' H):gOf Γ.K tg v σ H Q:=by
 cases tg with
 | one i=>exact k _ (aR8 E r b h)
 | tup is =>
  cases d with
  | tup l =>
   have h:mW ρ is l=some ρ':=h
   obtain⟨a,B,rfl,F,d1⟩:=r.tupE
   unfold lB at b
   exact⟨a,B,rfl,F,by rw[d1.length,aP7 h],bI6 is l B ρ ρ' σ E d1 b h k⟩
  | _=>cases h
def Off (φ:Nat->Addr)(s:lv)(b:Addr):Prop:=∀(i:Nat) (ob:lV),s[i]?=some ob->isMut ob=true->φ i≠b
theorem Off.mono {φ φ':Nat->Addr}{s s':lv}{H H':Hp}{b:Addr}{o:HO}(h:Off φ s b)(g:Gr φ s H φ' s' H')(hb:H b=some o):Off φ' s' b:=λ i ob e m z=>by
 by_cases F:i<s.length
 ·obtain⟨B,G⟩:∃ B,s[i]?=some B:=⟨s[i],aj F⟩
  exact h i B G (g.mu i B ob G e m) (by rw[<-g.w.map i F];exact z)
 ·have:=g.new i (by omega) (ah.mp e).1
  rw[z,hb]at this;cases this
theorem Off.new {φ:Nat->Addr}{s:lv}{H:Hp}{b:Addr}(r:Rp Γ φ H s)(h:H b=none):Off φ s b:=λ i ob e m z=>by
 obtain⟨u,hu,_⟩:=(r.obj i ob e).there m
 rw[z,h]at hu;cases hu
theorem Rp.foreign {φ:Nat->Addr}{s:lv}{H:Hp}{b:Addr}{ys B:List V}(r:Rp Γ φ H s)(hb:H b=some (.lst ys))(ho:Off φ s b):Rp Γ φ (upd H b (.lst B)) s:=by
 have g:Gw φ s.length H φ (upd H b (.lst B)):=⟨λ _ _=>rfl,(Kp.refl H).put hb rfl⟩
 exact⟨r.inj,λ i o e=>(r.obj i o e).mono g (r.wf i o e) λ m u hu=>by rw[zn (ho i o e m)];exact hu,r.wf,r.tab.put hb⟩
theorem Gr.foreign {φ φ':Nat->Addr}{s s':lv}{H H':Hp}{b:Addr}{ys G:List V}(g:Gr φ s H φ' s' H')(h0:H b=none)(hb:H' b=some (.lst ys)):Gr φ s H φ' s' (upd H' b (.lst G)):=by
 have ne:∀ c o,H c=some o->c≠b:=λ c o e=>zo e h0
 refine⟨⟨g.w.map,λ c o e f=>?_⟩,g.le,g.new,g.kd,λ c hc=>?_,λ c o e B F=>?_⟩
 ·rw[zn (ne c o e)];exact g.w.kp c o e f
 ·unfold upd;split
  ·simp
  ·exact g.st c hc
 ·rw[zn (ne c o e)];exact g.fr c o e B F
def bL6 (Γ:Gm)(φ:Nat->Addr)(s:lv)(H:Hp)(l:List lw)(s':lv)(Q:VK):Prop :=
 ∀ p ys φ' H',Gr φ s H φ' s' H'->s.length<=s'.length->ly s'.length l=true->H' p=some (.lst ys)->H p=none->Off φ' s' p->RVL Γ φ' H' l ys->Rp Γ φ' H' s'->Q (.ref p) H'
def TFv (Γ:Gm)(m:lx->lv->lz (List lw)):TE:=λ σ H Q=>∃ φ ρ s l s',RE Γ φ H s.length ρ σ/\Rp Γ φ H s/\m ρ s=.ok l s'/\bL6 Γ φ s H l s' Q
theorem aY4 {m:lx->lv->lz (List lw)}{σ:St}{H:Hp}{Q:VK}(h:TEv Γ (λ ρ s=>(m ρ s).bind λ l s=>mF (.lst l) s) σ H Q):TFv Γ m σ H Q:=by
 obtain⟨φ,ρ,s,d,s',E,R,hm,q⟩:=h
 obtain⟨l,s1,e1,hm⟩:=aa1 hm
 obtain⟨rfl,rfl⟩:=qr hm
 refine⟨φ,ρ,s,l,s1,E,R,e1,λ p ys φ' H' g hl hb hp h0 ho r J=>?_⟩
 have gw:Gw φ' s1.length H' (λ i=>if i=s1.length then p else φ' i) H':=⟨λ i B=>if_neg (aC B),Kp.refl _⟩
 have key:∀(i:Nat) (F:lV),(s1++[DV.O.lst l])[i]?=some F->(i<s1.length/\s1[i]?=some F)\/(i=s1.length/\F=.lst l):=λ i F e=>by
  rcases f7 i s1.length with h|h|h
  ·rw[aL h]at e;exact .inl ⟨h,e⟩
  ·subst h;simp at e;exact .inr ⟨rfl,e.symm⟩
  ·rw[bH (by simp;omega)]at e;cases e
 have G:Gr φ s H (λ i=>if i=s1.length then p else φ' i) (s1++[.lst l]) H':=by
  refine⟨⟨λ i B=>by show(if i=s1.length then p else φ' i)=_;rw[if_neg (by omega)];exact g.w.map i B,g.w.kp⟩,by simp;omega,λ i h1 h2=>?_,λ i o F e e'=>?_,g.st,g.fr⟩
  ·by_cases B:i=s1.length
   ·show H (if i=s1.length then p else φ' i)=none
    rw[if_pos B];exact h0
   ·show H (if i=s1.length then p else φ' i)=none
    rw[if_neg B];exact g.new i h1 (by simp at h2;omega)
  ·rcases key i F e' with⟨_,e2⟩|⟨B,_⟩
   ·exact g.kd i o F e e2
   ·have:=(ah.mp e).1;omega
 have P:Rp Γ (λ i=>if i=s1.length then p else φ' i) H' (s1++[.lst l]):=by
  refine⟨λ i j oi Z Y ej mi mj e=>?_,λ i o e=>?_,λ i o e=>?_,J.tab⟩
  ·rcases key i oi Y with⟨B,Y⟩|⟨B,_⟩<;>rcases key j Z ej with⟨hj,ej⟩|⟨hj,_⟩
   ·rw[if_neg (aC B),if_neg (aC hj)]at e
    exact J.inj i j oi Z Y ej mi mj e
   ·rw[if_neg (aC B),if_pos hj]at e
    exact absurd e (ho i oi Y mi)
   ·rw[if_neg (aC hj),if_pos B]at e
    exact absurd e.symm (ho j Z ej mj)
   ·rw[B,hj]
  ·rcases key i o e with⟨B,e⟩|⟨B,rfl⟩
   ·show RO Γ _ _ (if i=s1.length then p else φ' i) o
    rw[if_neg (aC B)]
    exact(J.obj i o e).mono gw (J.wf i o e) λ _ u hu=>hu
   ·show RO Γ _ _ (if i=s1.length then p else φ' i) _
    rw[if_pos B]
    exact⟨ys,hp,RVL.monoW gw l ys hb r⟩
  ·rw[aE,dg]
   rcases key i o e with⟨_,e⟩|⟨_,rfl⟩
   ·exact zV (du _) _ (J.wf i o e)
   ·exact zV (du _) _ (by unfold lD;exact hb)
 exact q (.ref p) _ H' G (by simp;omega) (by unfold lB;simp) (by unfold RV;simp) P
theorem bI3 {φ:Nat->Addr}{H:Hp}{n:Nat}{ρ:lx}{σ:St}(E:RE Γ φ H n ρ σ)(B:List (Option Nat)):RE Γ φ H n (mK ρ B) (ay5 B σ):=by
 refine⟨by unfold mK ay5;simp,λ i d e=>?_⟩
 unfold mK at e
 rw[aH]at e
 cases q:B[i]? with
 | none=>rw[q]at e;cases e
 | some o =>
  rw[q]at e
  cases o with
  | none=>cases e
  | some j =>
   have e':(ρ[j]?).join=some d:=ax e
   have ej:ρ[j]?=some (some d):=by
    cases q2:ρ[j]? with
    | none=>rw[q2]at e';cases e'
    | some o2=>rw[q2]at e';exact congrArg some e'
   obtain⟨b,v,G,F⟩:=E.val j d ej
   refine⟨b,v,?_,F⟩
   unfold ay5
   rw[aH,q]
   show some ((σ[j]?).join)=_
   rw[G];rfl
theorem aQ6 {mI:lx->lv->lz mH}{mc me:lx->lv->lz lw}{tg:l6}{G:List (Option Nat)}{σ:St}{H:Hp}{Q:VK}
  (h:TFv Γ (λ ρ s=>(mI ρ s).bind λ q s0=>if q.its.length<=lE then mJ (λ s=>lY s0 s q.src) (λ d ρ s=>match lQ ρ tg d with
   | some ρ=>lH (mc ρ s) λ k s=>if k then(me ρ s).bind λ v s=>.ok (some v,ρ) s else .ok (none,ρ) s
   | none=>.bad) q.its (mK ρ G) s0 else .bad) σ H Q):tComp G (TIv Γ mI) (gOf Γ.K tg) (TTv Γ mc) (TEv Γ me) σ H Q:=by
 obtain⟨φ,ρ,s,l,s',E,R,hm,k⟩:=h
 obtain⟨q,s0,e1,hm⟩:=aa1 hm
 split at hm
 case isFalse=>exact fb hm
 rename_i b4
 refine⟨φ,ρ,s,q,s0,E,R,e1,λ J φ1 H1 g1 l1 b1 R1 wk D hD=>?_⟩
 have h0:H D=none:=by
  cases e:H D with
  | none=>rfl
  | some o=>exact absurd hD (g1.st D (by rw[e];simp))
 refine⟨λ i m σ' H'=>∃ φ' ρ' t B ys rest,Gr φ1 s0 H1 φ' t H'/\Rp Γ φ' H' t/\RE Γ φ' H' t.length ρ' σ'/\H' D=some (.lst ys)/\Off φ' t D/\RVL Γ φ' H' B ys/\ly t.length B=true/\B.length<=i/\i<=q.its.length/\m=q.its.length - i /\
  mJ (λ s=>lY s0 s q.src) (λ d ρ s=>match lQ ρ tg d with
   | some ρ=>lH (mc ρ s) λ k s=>if k then(me ρ s).bind λ v s=>.ok (some v,ρ) s else .ok (none,ρ) s
   | none=>.bad) (q.its.drop i) ρ' t=.ok rest s'/\l=B++rest,⟨q.its.length,?_⟩,?_⟩
 ·obtain⟨g2,R2⟩:=R1.same (H':=upd H1 D (.lst [])) ((ad0.refl H1).new hD)
  exact⟨φ1,mK ρ G,s0,[],[],l,g2,R2,bI3 ((E.mono g1 l1).mono g2 (ak _)) G,zu,Off.new R1 hD,.nil,rfl,ak _,cS _,by simp,by rw[eF];exact hm,rfl⟩
 ·rintro i m σ' H' ⟨φ',ρ',t,B,ys,rest,g,R',E',hy,a3,ra,ba,b6,c0,rfl,hc,hl⟩
  have F:=g.le
  rcases gZ i q.its.length with hlt|hge
  ·have hd:q.its[i]?=some q.its[i]:=aj hlt
   rw[dG hlt]at hc
   unfold mJ at hc
   split at hc
   case isFalse=>exact fb hc
   rename_i a2
   obtain⟨b0,b3⟩:=(wk φ' H' t g F R' a2 i).1 hlt
   refine .inr ⟨b0,_,λ σ2 H2 n=>⟨q.its.length - (i+1),by omega,n⟩,λ x H2 a6=>?_⟩
   obtain⟨sm,rv⟩:=b3 x H2 a6
   obtain⟨g2,R2⟩:=R'.same sm
   have rd:=rv _ hd
   have bd:(q.its[i]).bnd t.length=true:=zh F _ (ag1 b1 hd)
   obtain⟨p,t3,hs,hc⟩:=aa1 hc
   obtain⟨r2,t4,a5,hc⟩:=aa1 hc
   cases hb:lQ ρ' tg q.its[i]with
   | none=>rw[hb]at hs;cases hs
   | some ρ3 =>
    rw[hb]at hs
    refine bf4 (E'.mono g2 (ak _)) rd bd hb λ σ3 E3=>?_
    obtain⟨c,t1,ec,hs⟩:=zI hs
    refine⟨φ',ρ3,t,c,t1,E3,R2,ec,λ φ2 H4 g4 l4 R4=>?_⟩
    have a4:H2 D=some (.lst ys):=sm _ _ hy
    have a1:H4 D=some (.lst ys):=g4.fr D _ a4 (by nofun) a3
    have Y:Off φ2 t1 D:=a3.mono g4 a4
    have G4:=(g.trans g2 F).trans g4 F
    cases c with
    | true =>
     rw[if_pos rfl]at hs
     refine iteT ?_
     obtain⟨v,t2,ev,hs⟩:=aa1 hs
     cases hs
     refine⟨φ2,ρ3,t1,v,t3,E3.mono g4 l4,R4,ev,λ w φ3 H5 g5 l5 b5 r5 R5=>?_⟩
     have Z:H5 D=some (.lst ys):=g5.fr D _ a1 (by nofun) Y
     have a0:Off φ3 t3 D:=Y.mono g5 a1
     refine⟨ys,Z,?_,?_⟩
     ·rw[ra.length]
      have:=zM
      omega
     ·have gw:Gw φ3 t3.length H5 φ3 (upd H5 D (.lst (ys++[w]))):=⟨λ _ _=>rfl,(Kp.refl H5).put Z rfl⟩
      have G5:=G4.trans g5 (am F l4)
      have GG:=g2.trans (g4.trans g5 l4) (ak _)
      have b2:RVL Γ φ3 H5 B ys:=RVL.mono GG _ _ ba ra
      have bb:ly t3.length (B++[v])=true:=zO (ab1 GG.le _ ba) (by unfold ly;rw[b5];rfl)
      refine⟨φ3,ρ3,t3,B++[v],ys++[w],r2,G5.foreign hD Z,R5.foreign Z a0,?_,zu,a0,RVL.monoW gw _ _ bb (b2.append (.cons r5 .nil)),bb,by simp;omega,hlt,rfl,?_,?_⟩
      ·have E5:=(E3.mono g4 l4).mono g5 l5
       exact⟨E5.len,λ j e hj=>by
        obtain⟨h1,z,h2,h3⟩:=E5.val j e hj
        exact⟨h1,z,h2,RV.monoW gw _ _ h1 h3⟩⟩
      ·cases hc;exact a5
      ·cases hc;rw[hl];simp
    | false =>
     rw[if_neg aR]at hs
     refine cg2 ?_
     cases hs
     have GG:=g2.trans g4 (ak _)
     exact⟨φ2,ρ3,t3,B,ys,r2,G4,R4,E3.mono g4 l4,a1,Y,RVL.mono GG _ _ ba ra,ab1 l4 _ ba,by omega,hlt,rfl,by cases hc;exact a5,by cases hc;exact hl⟩
  ·have hi:i=q.its.length:=by omega
   rw[eI hge]at hc
   unfold mJ at hc
   split at hc
   case isFalse=>exact fb hc
   rename_i a2
   cases hc
   refine .inl ⟨(wk φ' H' s' g F R' a2 i).2 hge,?_⟩
   rw[bh]at hl
   subst hl
   exact k D ys φ' H' (g1.trans g l1) (am l1 F) ba hy h0 a3 ra R'
variable {Γ:Gm} {X:Cx}
noncomputable def cd0 (Γ:Gm)(φ:Nat->Addr)(H:Hp)(n:Nat)(D:Ends):lW->Prop
 | .next ρ=>∀ σ,RE Γ φ H n ρ σ->D.nx σ H
 | .ret d=>∀ v,d.bnd n=true->RV Γ φ H d v->D.rt v H
 | .cont ρ=>∀ σ,RE Γ φ H n ρ σ->D.ct σ H
 | .brk ρ=>∀ σ,RE Γ φ H n ρ σ->D.bk σ H
def al5 (Γ:Gm)(φ:Nat->Addr)(s:lv)(H:Hp)(c:lW)(s':lv)(D:Ends):Prop :=
 ∀ φ' H',Gr φ s H φ' s' H'->s.length<=s'.length->Rp Γ φ' H' s'->cd0 Γ φ' H' s'.length D c
def TSv (Γ:Gm)(m:lx->lv->lz lW):TS:=λ D σ H=>∃ φ ρ s c s',RE Γ φ H s.length ρ σ/\Rp Γ φ H s/\m ρ s=.ok c s'/\al5 Γ φ s H c s' D
theorem PS.imp {e:Stmt}{t t':TS}(h:PS X e t)(i:∀ D σ H,t' D σ H->t D σ H):PS X e t':=λ B s σ H Q I q=>h B s σ H Q I (i Q σ H q)
theorem PSs.imp {e:List Stmt}{t t':TS}(h:PSs X e t)(i:∀ D σ H,t' D σ H->t D σ H):PSs X e t':=λ B s σ H Q I q=>h B s σ H Q I (i Q σ H q)
theorem al5.trans {φ φ1:Nat->Addr}{s s1 s':lv}{H B:Hp}{c:lW}{D:Ends}(h:al5 Γ φ s H c s' D)(g:Gr φ s H φ1 s1 B)(l:s.length<=s1.length):al5 Γ φ1 s1 B c s' D :=
 λ φ' H' g' F p=>h φ' H' (g.trans g' l) (am l F) p
theorem al5.here {φ:Nat->Addr}{s:lv}{H:Hp}{c:lW}{D:Ends}(h:al5 Γ φ s H c s D)(p:Rp Γ φ H s):cd0 Γ φ H s.length D c:=h φ H (Gr.refl φ s H) (ak _) p
variable {D:Ends} {σ:St} {H:Hp}
theorem bx3 {m:lx->lv->lz lW}(B:∀ ρ s,m ρ s=.ok (.next ρ) s)(h:TSv Γ m D σ H):bQ2 D σ H:=by
 obtain⟨φ,ρ,s,c,s',E,R,e,q⟩:=h
 rw[B]at e;cases e
 exact q.here R σ E
theorem bv4 (h:TSv Γ (λ ρ s=>.ok (.cont ρ) s) D σ H):bF4 D σ H:=by
 obtain⟨φ,ρ,s,c,s',E,R,e,q⟩:=h
 cases e
 exact q.here R σ E
theorem by6 (h:TSv Γ (λ ρ s=>.ok (.ret .non) s) D σ H):bF8 D σ H:=by
 obtain⟨φ,ρ,s,c,s',E,R,e,q⟩:=h
 cases e
 exact q.here R .non rfl RV.nonI
theorem bI1 {m:lx->lv->lz lw}(h:TSv Γ (λ ρ s=>(m ρ s).bind λ d s=>.ok (.ret d) s) D σ H):ce0 (TEv Γ m) D σ H:=by
 obtain⟨φ,ρ,s,c,s',E,R,e,q⟩:=h
 obtain⟨x,s1,e1,e⟩:=aa1 e
 cases e
 exact⟨φ,ρ,s,x,_,E,R,e1,λ v φ1 B g1 l1 F r1 R1=>q φ1 B g1 l1 R1 v F r1⟩
theorem br6 {m:lx->lv->lz lw}(h:TSv Γ (λ ρ s=>(m ρ s).bind λ _ s=>.ok (.next ρ) s) D σ H):bK6 (TEv Γ m) D σ H:=by
 obtain⟨φ,ρ,s,c,s',E,R,e,q⟩:=h
 obtain⟨x,s1,e1,e⟩:=aa1 e
 cases e
 exact⟨φ,ρ,s,x,_,E,R,e1,λ v φ1 B g1 l1 F r1 R1=>q φ1 B g1 l1 R1 σ (E.mono g1 l1)⟩
theorem aX6 {m:lx->lv->lz lw}{tg:l6}(h:TSv Γ (λ ρ s=>(m ρ s).bind λ d s=>match lQ ρ tg d with|some ρ=>.ok (.next ρ) s|none=>.bad) D σ H):bc5 (TEv Γ m) (gOf Γ.K tg) D σ H:=by
 obtain⟨φ,ρ,s,c,s',E,R,e,q⟩:=h
 obtain⟨x,s1,e1,e⟩:=aa1 e
 refine⟨φ,ρ,s,x,s1,E,R,e1,λ v φ1 B g1 l1 G r1 R1=>?_⟩
 cases hb:lQ ρ tg x with
 | none=>rw[hb]at e;cases e
 | some ρ1 =>
  rw[hb]at e
  cases e
  exact bf4 (E.mono g1 l1) r1 G hb λ σ' F=>q φ1 B g1 l1 R1 σ' F
theorem bf0 {m:lx->lv->lz (List lw)}(h:TSv Γ (λ ρ s=>((m ρ s).bind λ l s=>mF (.lst l) s).bind λ d s=>match lQ ρ tg d with|some ρ=>.ok (.next ρ) s|none=>.bad) D σ H):bc5 (TFv Γ m) (gOf Γ.K tg) D σ H :=
 aY4 (aX6 h)
def bH8 (Γ:Gm):bS8:=λ o i v H Q=>∃ φ s x y d s',Rp Γ φ H s/\RV Γ φ H x o/\RV Γ φ H y i/\RV Γ φ H d v/\x.bnd s.length=true/\y.bnd s.length=true/\d.bnd s.length=true/\DV.setIx x y d s=.ok () s' /\
 ∀ φ' H',Gr φ s H φ' s' H'->s.length<=s'.length->Rp Γ φ' H' s'->Q H'
theorem aZ7 {Z mo mi:lx->lv->lz lw}(h:TSv Γ (λ ρ s=>(Z ρ s).bind λ d s=>(mo ρ s).bind λ x s=>(mi ρ s).bind λ y s=>(DV.setIx x y d s).bind λ _ s=>.ok (.next ρ) s) D σ H) :
  bc5 (TEv Γ Z) (ce4 (TEv Γ mo) (TEv Γ mi) (bH8 Γ)) D σ H:=by
 obtain⟨φ,ρ,s,c,s',E,R,e,q⟩:=h
 obtain⟨d,s1,e1,e⟩:=aa1 e
 obtain⟨x,s2,e2,e⟩:=aa1 e
 obtain⟨y,s3,e3,e⟩:=aa1 e
 obtain⟨u,s4,e4,e⟩:=aa1 e
 cases e
 refine⟨φ,ρ,s,d,s1,E,R,e1,λ v1 φ1 H1 g1 l1 b1 r1 R1=>?_⟩
 refine⟨φ1,ρ,s1,x,s2,E.mono g1 l1,R1,e2,λ v2 φ2 H2 Y B J r2 R2=>?_⟩
 have G2:=g1.trans Y l1
 have L2:=am l1 B
 refine⟨φ2,ρ,s2,y,s3,E.mono G2 L2,R2,e3,λ v3 φ3 H3 F G b3 r3 R3=>?_⟩
 refine⟨φ3,s3,x,y,d,_,R3,RV.mono F x v2 J r2,r3,RV.mono (Y.trans F B) d v1 b1 r1,zh G x J,b3,zh (am B G) d b1,e4,λ φ4 H4 g4 l4 R4=>?_⟩
 have G3:=G2.trans F L2
 have L3:=am L2 G
 exact q φ4 H4 (G3.trans g4 L3) (am L3 l4) R4 σ (E.mono (G3.trans g4 L3) (am L3 l4))
theorem bN6 (hu:X.A.units+2<cLine):bT8 X (bH8 Γ):=by
 intro a0 sh σ H o i v ov iv u Q I ro ri rv h
 obtain⟨φ,s,x,y,d,s',R,rx,ry,rd,bx,a1,bd,B,q⟩:=h
 cases x with
 | ref r =>
  have B:(match s[r]? with
   | some (.lst l)=>(match y with
    | .int i=>(match my l.length i with|some j=>DV.R.ok () (s.set r (.lst (l.set j d)))|none=>.bad)
    | _=>.bad)
   | some (.dic l)=>if y.key&&decide (l.length<lE)then .ok () (s.set r (.dic (lM y d l)))else .bad
   | some (.dit l)=>if y.keyT&&decide (l.length<lE)then .ok () (s.set r (.dit (lM y d l)))else .bad
   | _=>.bad)=.ok () s':=B
  cases e:s[r]? with
  | none=>rw[e]at B;cases B
  | some ob =>
   rw[e]at B
   cases ob with
   | lst l =>
    cases y with
    | int k =>
     have B:(match my l.length k with|some j=>DV.R.ok () (s.set r (.lst (l.set j d)))|none=>.bad)=.ok () s':=B
     cases ej:my l.length k with
     | none=>rw[ej]at B;cases B
     | some j =>
      rw[ej]at B
      cases B
      obtain⟨xs,Y,F⟩:=R.addr e
      have hb:ly s.length (l.set j d)=true:=aa8.mpr λ z hz=>by
       rcases List.mem_or_eq_of_mem_set hz with h|h
       ·exact aa8.mp (by have:=R.wf r _ e;unfold lD at this;exact this) z h
       ·subst h;exact bd
      refine bh2 a0 sh σ H o i v ov iv u Q I ro ri rv ⟨φ r,xs,k,j,rx.refE,ry.intE,Y,?_,?_⟩
      ·rw[F.length];exact ej
      ·obtain⟨g,Z⟩:=R.set (o:=.lst (l.set j d)) (u:=.lst (xs.set j v)) e rfl hb λ H' g e=>⟨_,e,RVL.monoW g _ _ hb (F.set j rd)⟩
       exact q _ _ g (by simp) Z
    | _=>exact fb B
   | dic l =>
    have B:(if y.key&&decide (l.length<lE)then DV.R.ok () (s.set r (.dic (lM y d l)))else .bad)=.ok () s':=B
    split at B
    case isFalse=>exact fb B
    rename_i hc
    cases B
    rw[ag]at hc
    obtain⟨k,hk⟩:=aq3 hc.1
    have hlt:=of_decide_eq_true hc.2
    obtain⟨G,Y,F⟩:=R.obj r _ e
    have ex:=rx.refE;subst ex
    cases ro
    have ey:=aU4 hk ry;subst ey
    have hb:(DV.O.dic (lM y d l)).bnd s.length=true:=aF6 (R.wf r _ e) a1 bd
    have J:ly s.length ((lM y d l).map (·.2))=true:=by
     unfold lD at hb
     rw[ag]at hb
     exact hb.2
    obtain⟨g,Z⟩:=R.set (o:=.dic (lM y d l)) (u:=.dK (aA0 G k v)) e rfl hb λ H' g e=>⟨_,e,RVD.monoW g _ _ J (F.put keyOf_inj hk rd)⟩
    exact ax8 hu I (bA7.k Y (by rw[F.length];exact ay hlt zM)) ri rv λ s4 I4=>⟨_,I4,q _ _ g (by simp) Z⟩
   | dit l =>
    have B:(if y.keyT&&decide (l.length<lE)then DV.R.ok () (s.set r (.dit (lM y d l)))else .bad)=.ok () s':=B
    split at B
    case isFalse=>exact fb B
    rename_i hc
    cases B
    rw[ag]at hc
    obtain⟨k,hk⟩:=ag5 hc.1
    have hlt:=of_decide_eq_true hc.2
    obtain⟨G,Y,F⟩:=R.obj r _ e
    have ex:=rx.refE;subst ex
    cases ro
    obtain⟨kb,ey,a2⟩:=aq2 hk ry;subst ey
    have hb:(DV.O.dit (lM y d l)).bnd s.length=true:=bd8 (R.wf r _ e) a1 bd
    have J:ly s.length ((lM y d l).map (·.2))=true:=by
     unfold lD at hb
     rw[ag]at hb
     exact hb.2
    obtain⟨g,Z⟩:=R.set (o:=.dit (lM y d l)) (u:=.dT (aA0 G k v)) e rfl hb λ H' g e=>⟨_,e,RVD.monoW g _ _ J (F.put keyT_inj hk rd)⟩
    exact ax8 hu I (bA7.t Y a2 (by rw[F.length];exact ay hlt zM)) ri rv λ s4 I4=>⟨_,I4,q _ _ g (by simp) Z⟩
   | _=>exact fb B
 | _=>exact fb B
theorem bO0 {i:Nat}{m:lx->lv->lz lw} (h:TSv Γ (λ ρ s=>(ny ρ i s).bind λ x s=>(m ρ s).bind λ y s=>match x,y with
  | .int a,.int b=>match l7 ρ i (.int (a+b))with|some ρ=>.ok (.next ρ) s|none=>.bad
  | _,_=>.bad) D σ H):cb9 i (TEv Γ m) (ipI λ i j=>i+j) D σ H:=by
 obtain⟨φ,ρ,s,c,s',E,R,B,q⟩:=h
 obtain⟨x,s1,e1,F⟩:=aa1 B
 obtain⟨y,s2,e2,e⟩:=aa1 F
 clear B F
 unfold ny at e1
 split at e1
 case h_2=>cases e1
 rename_i d hd
 cases e1
 obtain⟨b,v,G,J⟩:=E.val i _ hd
 refine⟨v,G,φ,ρ,s,y,s2,E,R,e2,λ w φ1 Y g1 l1 Z r1 R1=>?_⟩
 cases x with
 | int a =>
  cases y with
  | int b =>
   refine⟨a,b,J.intE,r1.intE,?_⟩
   have e:(match l7 ρ i (.int (a+b))with|some ρ=>DV.R.ok (DV.Ct.next ρ) s2|none=>.bad)=.ok c s':=e
   cases hs:l7 ρ i (.int (a+b))with
   | none=>rw[hs]at e;cases e
   | some ρ1 =>
    rw[hs]at e
    cases e
    exact q φ1 Y g1 l1 R1 _ (aR8 (E.mono g1 l1) RV.intI rfl hs)
  | _=>cases e
 | _=>cases e
theorem bZ8 {mc:lx->lv->lz lw}{G F:lx->lv->lz lW}(h:TSv Γ (λ ρ s=>lH (mc ρ s) λ k s=>if k then G ρ s else F ρ s) D σ H):cd9 (TTv Γ mc) (TSv Γ G) (TSv Γ F) D σ H:=by
 obtain⟨φ,ρ,s,d,s',E,R,B,q⟩:=h
 obtain⟨c,s1,e1,B⟩:=zI B
 refine⟨φ,ρ,s,c,s1,E,R,e1,λ φ1 J g1 l1 R1=>?_⟩
 cases c with
 | true =>
  rw[if_pos rfl]at B ⊢
  exact⟨φ1,ρ,s1,d,s',E.mono g1 l1,R1,B,q.trans g1 l1⟩
 | false =>
  rw[if_neg aR]at B ⊢
  exact⟨φ1,ρ,s1,d,s',E.mono g1 l1,R1,B,q.trans g1 l1⟩
theorem bQ7 {Y G:lx->lv->lz lW}(h:TSv Γ (λ ρ s=>(Y ρ s).bind λ c s=>match c with|.next ρ=>G ρ s|c=>.ok c s) D σ H):cc3 (TSv Γ Y) (TSv Γ G) D σ H:=by
 obtain⟨φ,ρ,s,c,s',E,R,B,q⟩:=h
 obtain⟨J,s1,e1,B⟩:=aa1 B
 refine⟨φ,ρ,s,J,s1,E,R,e1,λ φ1 F g1 l1 R1=>?_⟩
 cases J with
 | next ρ1=>exact λ σ1 Z=>⟨φ1,ρ1,s1,c,s',Z,R1,B,q.trans g1 l1⟩
 | ret d=>cases B;exact q φ1 F g1 l1 R1
 | cont ρ=>cases B;exact q φ1 F g1 l1 R1
 | brk ρ=>cases B;exact q φ1 F g1 l1 R1
theorem ba5 {mc:lx->lv->lz lw}{mb:lx->lv->lz lW}(h:TSv Γ (DV.whl mc mb) D σ H):aZ0 (TTv Γ mc) (TSv Γ mb) D σ H:=by
 obtain⟨φ,ρ,s,c,s',E,R,B,q⟩:=h
 unfold DV.whl at B
 split at B
 case isFalse=>exact fb B
 rename_i hn
 generalize hn.choose=n at B
 refine⟨λ n σ H=>∃ φ ρ s,RE Γ φ H s.length ρ σ/\Rp Γ φ H s/\DV.qW mc mb n ρ s=.ok c s'/\al5 Γ φ s H c s' D,⟨n,φ,ρ,s,E,R,B,q⟩,?_⟩
 clear E R B q hn
 rintro n σ H ⟨φ,ρ,s,E,R,B,q⟩
 cases n with
 | zero=>exact fb B
 | succ n =>
  unfold DV.qW at B
  obtain⟨b,s1,e1,B⟩:=zI B
  refine⟨φ,ρ,s,b,s1,E,R,e1,λ φ1 H1 g1 l1 R1=>?_⟩
  cases b with
  | false =>
   rw[if_neg aR]at B ⊢
   cases B
   exact q φ1 H1 g1 l1 R1 σ (E.mono g1 l1)
  | true =>
   rw[if_pos rfl]at B ⊢
   obtain⟨J,s2,e2,B⟩:=aa1 B
   refine⟨_,λ σ' H' w=>⟨n,dC n,w⟩,φ1,ρ,s1,J,s2,E.mono g1 l1,R1,e2,λ φ2 Y Z l2 R2=>?_⟩
   have G:=g1.trans Z l1
   have L:=am l1 l2
   cases J with
   | next ρ1=>exact λ σ1 F=>⟨φ2,ρ1,s2,F,R2,B,q.trans G L⟩
   | cont ρ1=>exact λ σ1 F=>⟨φ2,ρ1,s2,F,R2,B,q.trans G L⟩
   | ret d=>cases B;exact q φ2 Y G L R2
   | brk ρ=>cases B;exact q φ2 Y G L R2
theorem bF3 {mI : DV.Env -> DV.Sto -> DV.R DV.Sq} {mb : DV.Env -> DV.Sto -> DV.R DV.Ct} {tg : DV.Tg} (h : TSv Γ (λ ρ s => (mI ρ s).bind λ q s0 => DV.qz (λ s => DV.chk s0 s q.src) (λ d ρ s => match DV.zN ρ tg d with
      | some ρ => mb ρ s
      | none => .bad) q.its ρ s0) D σ H) : bW7 (TIv Γ mI) (gOf Γ.K tg) (TSv Γ mb) D σ H := by
  obtain⟨φ, ρ, s, c, s', E, R, hm, k⟩ := h
  obtain⟨q, s0, e1, hm⟩ := aa1 hm
  refine⟨φ, ρ, s, q, s0, E, R, e1, λ J φ1 H1 g1 l1 b1 R1 wk => ?_⟩
  refine⟨λ i m σ' H' => ∃ φ' ρ' t, Gr φ1 s0 H1 φ' t H' /\ Rp Γ φ' H' t /\ RE Γ φ' H' t.length ρ' σ' /\ i <= q.its.length /\ m = q.its.length - i /\
    nI (λ s => lY s0 s q.src) (λ d ρ s => match lQ ρ tg d with
      | some ρ => mb ρ s
      | none => .bad) (q.its.drop i) ρ' t = .ok c s', ⟨q.its.length, ?_⟩, ?_⟩
  · exact⟨φ1, ρ, s0, Gr.refl _ _ _, R1, E.mono g1 l1, cS _, by simp, by rw[eF]; exact hm⟩
  · rintro i m σ' H' ⟨φ', ρ', t, g, R', E', hil, rfl, hc⟩
    have hle := g.le
    rcases gZ i q.its.length with hlt|hge
    · have hd : q.its[i]? = some q.its[i] := aj hlt
      rw[dG hlt]at hc
      unfold nI at hc
      split at hc
      case isFalse => exact fb hc
      rename_i hck
      obtain⟨hgo, hy2⟩ := (wk φ' H' t g hle R' hck i).1 hlt
      refine .inr ⟨hgo, _, λ σ2 H2 n => ⟨q.its.length - (i + 1), by omega, n⟩, λ x H2 hyl => ?_⟩
      obtain⟨sm, rv⟩ := hy2 x H2 hyl
      obtain⟨g2, R2⟩ := R'.same sm
      have rd := rv _ hd
      have bd : (q.its[i]).bnd t.length = true := zh hle _ (ag1 b1 hd)
      obtain⟨c1, t3, hs, hc⟩ := aa1 hc
      cases hb : lQ ρ' tg q.its[i]with
      | none => rw[hb]at hs; cases hs
      | some ρ3 =>
        rw[hb]at hs
        refine bf4 (E'.mono g2 (ak _)) rd bd hb λ σ3 E3 => ?_
        refine⟨φ', ρ3, t, c1, t3, E3, R2, hs, λ φ2 H4 g4 l4 R4 => ?_⟩
        have G4 := (g.trans g2 hle).trans g4 hle
        have L4 := am hle l4
        have GG := g1.trans G4 l1
        cases c1 with
        | next ρ1 => exact λ σ1 E1 => ⟨φ2, ρ1, t3, G4, R4, E1, hlt, rfl, hc⟩
        | cont ρ1 => exact λ σ1 E1 => ⟨φ2, ρ1, t3, G4, R4, E1, hlt, rfl, hc⟩
        | ret d => cases hc; exact k φ2 H4 GG (am l1 L4) R4
        | brk ρ => cases hc; exact k φ2 H4 GG (am l1 L4) R4
    · rw[eI hge]at hc
      unfold nI at hc
      split at hc
      case isFalse => exact fb hc
      rename_i hck
      cases hc
      exact .inl ⟨(wk φ' H' s' g hle R' hck i).2 hge, k φ' H' (g1.trans g l1) (am l1 hle) R' σ' E'⟩
structure Ck where
 N:List Str
 sc:Scope
 lk:String->List Nat->Expr->Bool
noncomputable abbrev ck0 (N:List Str)(sc:Scope):Ck:=⟨N,sc,λ _ _ _=>false⟩
noncomputable def Ck.vis (c:Ck)(x:Str):Bool:=match c.sc.names.lookup x with|some .local=>true|some .cell=>true|some .free=>true|_=>false
noncomputable def Ck.loc (c:Ck)(x:Str):Bool:=match c.sc.names.lookup x with|some .local=>true|some .cell=>true|_=>false
noncomputable def Ck.gl (c:Ck)(x:Str):Bool:=(match c.sc.names.lookup x with|some .globalImplicit=>true|_=>false)&&!(x==("__debug__":Str))&&!decide (x=("__name__":Str))
noncomputable def Ck.var (c:Ck)(i:Nat)(x:Str):Bool:=decide (c.N[i]?=some x)&&c.vis x&&!(x==("__debug__":Str))&&!(x==("__classdict__":Str))
noncomputable def shp:Expr->Bool
 | .Starred ..=>false
 | .Set ..=>false
 | .SetComp ..=>false
 | .DictComp ..=>false
 | .GeneratorExp ..=>false
 | .Slice ..=>false
 | .NamedExpr ..=>false
 | _=>true
noncomputable def ap7:Expr->Bool
 | .ListComp ..=>false
 | .SetComp ..=>false
 | .DictComp ..=>false
 | _=>true
noncomputable def bK0:Expr->Bool
 | .Tuple ..=>false
 | _=>true
noncomputable def bW5:Expr->Bool
 | .Call _ [] [] _=>false
 | _=>true
noncomputable def mC:DV.Cn->Const->Bool
 | .non,.none=>true
 | .bl b,.bool c=>b==c
 | .int i,.int j=>decide (i=j)
 | .str x,.str y=>decide (y=⟨x.toArray⟩)&&decide (x.length<=1000)
 | _,_=>false
noncomputable def bT1 (ck:Ck):List Nat->List Expr->Bool
 | [],[]=>true
 | i::is,.Name x _::es=>decide (ck.N[i]?=some x)&&ck.loc x&&bT1 ck is es
 | _,_=>false
noncomputable def mTg (ck:Ck):l6->Expr->Bool
 | .one i,.Name x _=>decide (ck.N[i]?=some x)&&ck.loc x
 | .tup is,.Tuple es _ _=>bT1 ck is es
 | _,_=>false
noncomputable def tgN:Expr->List Str
 | .Name x _=>[x]
 | .Tuple es _ _=>es.filterMap λ e=>match e with|.Name x _=>some x|_=>none
 | _=>[]
structure ItT where
 x:Str
 y:Str
 ob:Expr
 sc:Scope
 p1:Pos
 p2:Pos
 p3:Pos
 p4:Pos
 p5:Pos
 p6:Pos
 p7:Pos
 k1:Nat
 k2:Nat
 ap:Pos
 cp:Pos
 pos:Pos
noncomputable def ItT.tg (q:ItT):Expr:=.Tuple [.Name q.x q.p5,.Name q.y q.p6] q.k2 q.p7
noncomputable def ItT.it (q:ItT):Expr:=.Call (.Attribute q.ob "items" q.ap) [] [] q.cp
noncomputable def ItT.text (q:ItT):Expr:=.ListComp (.BinOp (.Name q.x q.p1) .Add (.Tuple [.Name q.y q.p2] q.k1 q.p3) q.p4) [⟨q.tg,q.it,[],0⟩] q.sc q.pos
noncomputable def ckC (ck:Ck)(tgt:Expr)(caps:List (Option Nat))(scope:Scope):Ck:=⟨tgN tgt++(caps.filterMap id).map λ j=>ck.N.getD j "",scope,λ _ _ _=>false⟩
noncomputable def aM0 (ck:Ck)(tg:l6)(tgt iter:Expr)(caps:List (Option Nat))(scope:Scope):Bool :=
 zS (ckC ck tgt caps scope).N caps scope ck.N ck.sc&&decide ((ckC ck tgt caps scope).N.Nodup)&&mTg (ckC ck tgt caps scope) tg tgt&&shp iter
noncomputable def biT:mq->Option Str
 | .len=>some "len" | .abs=>some "abs" | .min2=>some "min" | .int=>some "int" | .str=>some "str" | _=>none
noncomputable def biK:mq->Option (Nat×Str)
 | _=>none
noncomputable def mkT:nh->Option Str
 | .tuple=>some "tuple" | .list=>some "list" | _=>none
noncomputable def mkF:nh->Option Str
 | .min=>some "min" | _=>none
noncomputable def mtT:ni->Option (Str×Nat)
 | .append=>some ("append",1)|_=>none
noncomputable def bR8 (ck:Ck)(b:mq)(x:Str)(xs:List Expr)(m1 m2:Bool):Bool:=match biK b with
 | some p=>(match xs with|[_,.Name y _]=>decide (x=("isinstance":Str))&&ck.gl x&&decide (y=p.2)&&ck.gl y&&m2|_=>false)
 | none=>(match xs with|_::_=>decide (biT b=some x)&&ck.gl x&&m1|[]=>false)
noncomputable def lamArgs:bW->Option (List Str)
 | ⟨[],args,none,[],[],none,[]⟩=>some (args.map (·.arg))
 | _=>none
mutual
noncomputable def mE (ck:Ck):nj->Expr->Bool
 | .var i,E=>match E with|.Name x _=>ck.var i x|_=>false
 | .cst c,E=>match E with|.Constant v _ _=>mC c v|_=>false
 | .glob g,E=>match E with|.Name x _=>decide (x=(g:Str))&&ck.gl x|_=>false
 | .bin op a b,E=>match E with|.BinOp l o r _=>decide (o=bU7 op)&&mE ck a l&&mE ck b r|_=>false
 | .neg a,E=>match E with|.UnaryOp .USub l _=>mE ck a l|_=>false
 | .not a,E=>match E with|.UnaryOp .Not l _=>mE ck a l|_=>false
 | .cmp op a b,E=>match E with|.Compare l [o] [r] _=>decide (o=by2 op)&&mE ck a l&&mE ck b r|_=>false
 | .chain _ _ _ _ _,_=>false
 | .isN a,E=>match E with|.Compare l [.Is] [.Constant .none _ _] _=>mE ck a l|_=>false
 | .notN a,E=>match E with|.Compare l [.IsNot] [.Constant .none _ _] _=>mE ck a l|_=>false
 | .isB _ _,_=>false
 | .notB _ _,_=>false
 | .and a b,E=>match E with
  | .BoolOp .And [l,r] _=>mE ck a l&&mE ck b r
  | .BoolOp .And (l::m::r::es) p=>mE ck a l&&mE ck b (.BoolOp .And (m::r::es) p)
  | _=>false
 | .or a b,E=>match E with
  | .BoolOp .Or [l,r] _=>mE ck a l&&mE ck b r
  | .BoolOp .Or (l::m::r::es) p=>mE ck a l&&mE ck b (.BoolOp .Or (m::r::es) p)
  | _=>false
 | .ite c a b,E=>match E with|.IfExp t l r _=>mE ck c t&&mE ck a l&&mE ck b r|_=>false
 | .tup es,E=>match E with|.Tuple xs _ _=>mEs ck es xs&&decide (xs.length<=1000)|_=>false
 | .lst es,E=>match E with|.List xs _=>mEs ck es xs&&decide (xs.length<=1000)|_=>false
 | .dic _ _,_=>false
 | .slL _ _,_=>false
 | .slU a hi,E=>match E with|.Subscript o (.Slice none (some h) none _) _=>mE ck a o&&mE ck hi h|_=>false
 | .slLU _ _ _,_=>false
 | .rev _,_=>false
 | .fstr _,_=>false
 | .inC _ _,_=>false
 | .getC _ _,_=>false
 | .bitl _,_=>false
 | .lrng _,_=>false
 | .dicT,_=>false
 | .dicU k v,E=>match E with|.Dict a b _=>(match a,b with|[some x],[y]=>mE ck k x&&mE ck v y|_,_=>false)|_=>false
 | .get2 _ _ _,_=>false
 | .ix a b,E=>match E with|.Subscript o i _=>mE ck a o&&mE ck b i|_=>false
 | .call f as,E=>match E with|.Call (.Name x _) xs [] _=>decide (x=(f:Str))&&ck.gl x&&mAs ck as xs|_=>false
 | .callC _ _,_=>false
 | .callV _ _,_=>false
 | .bi b es,E=>match E with|.Call (.Name x _) xs [] _=>bR8 ck b x xs (mEs ck es xs) (mEs ck es (xs.take 1))|_=>false
 | .mk k l,E=>match E with
  | .Call (.Name x _) [a] [] _=>ck.gl x&&shp a&&((decide (mkT k=some x)&&mL ck 2 l a)||(decide (mkF k=some x)&&mL ck 1 l a))
  | .ListComp e gs sc p=>decide (k=.list)&&mL ck 0 l (.ListComp e gs sc p)
  | _=>false
 | .mkD k l d,E=>match E with
  | .Call (.Name x _) [a] [⟨some y,de,_⟩] _=>(decide (k=.min)&&decide (x=("min":Str)))&&decide (y=("default":Str))&&ck.gl x&&shp a&&mL ck 1 l a&&mE ck d de
  | _=>false
 | .meth m o es,E=>match E with
  | .Call (.Attribute ob x ap) xs [] cp=>decide (mtT m=some (x,xs.length))&&bW5 ob&&(ap.endLine==cp.line)&&mE ck o ob&&mEs ck es xs
  | _=>false
 | .ext _ _,_=>false
 | .extS _ _,_=>false
 | .mks _ _,_=>false
 | .mkDs _ _ _,_=>false
 | .minK _ _ _,_=>false
 | .spl _ _,_=>false
 | .join _ _,_=>false
noncomputable def mEs (ck:Ck):lT->List Expr->Bool
 | .nil,xs=>match xs with|[]=>true|_=>false
 | .cons e es,xs=>match xs with|x::xs=>mE ck e x&&shp x&&mEs ck es xs|_=>false
noncomputable def mFs (ck:Ck):lT->List Expr->Bool
 | .nil,xs=>match xs with|[]=>true|_=>false
 | .cons e es,xs=>match xs with
  | .FormattedValue v c none _::xs=>decide (c=-1)&&mE ck e v&&mFs ck es xs
  | .Constant v j p::xs=>mE ck e (.Constant v j p)&&mFs ck es xs
  | _=>false
noncomputable def mAs (ck:Ck):mM->List Expr->Bool
 | .nil,xs=>match xs with|[]=>true|_=>false
 | .ex e es,xs=>match xs with|x::xs=>mE ck e x&&shp x&&mAs ck es xs|_=>false
 | .lam _ _ _,_=>false
 | .fn _ _,_=>false
noncomputable def cc7 (ck:Ck):mM->List Expr->Bool
 | .nil,xs=>match xs with|[]=>true|_=>false
 | .ex e es,xs=>match xs with|x::xs=>mE ck e x&&shp x&&cc7 ck es xs|_=>false
 | .lam _ _ _,_=>false
 | .fn _ _,_=>false
noncomputable def mI (ck:Ck)(tgt:Expr):DV.I->Expr->Bool
 | .rng1 a,E=>match E with|.Call (.Name x _) [l] [] _=>decide (x=("range":Str))&&ck.gl x&&mE ck a l&&shp l|_=>false
 | .rng2 _ _,_=>false
 | .seq e,x=>mE ck e x&&shp x
 | .rng3 _ _ _,_=>false
 | .rngD _,_=>false
 | .enum (.seq _),_=>false
 | .zip (.seq _) (.seq _),_=>false
 | .enum _,_=>false
 | .zip _ _,_=>false
 | .items _,_=>false
noncomputable def mL (ck:Ck)(k:Nat):DV.L->Expr->Bool
 | .comp tg it e caps,E=>match E with|.ListComp elt [⟨tgt,iter,[],z⟩] scope _=>decide (z=0)&&aM0 ck tg tgt iter caps scope&&mI ck tgt it iter&&mE (ckC ck tgt caps scope) e elt|_=>false
 | .compIf tg it c e caps,E=>match E with|.ListComp elt [⟨tgt,iter,[i],z⟩] scope _=>decide (z=0)&&aM0 ck tg tgt iter caps scope&&mI ck tgt it iter&&mE (ckC ck tgt caps scope) c i&&mE (ckC ck tgt caps scope) e elt|_=>false
 | .disp es,E=>match E with|.List xs _=>decide (1<=k)&&mEs ck es xs&&decide (xs.length<=1000)|_=>false
 | .seq e,x=>decide (k=2)&&mE ck e x
 | .itm _,_=>false
end
theorem ff {p:Prop}(h:false=true):p:=Bool.noConfusion h
mutual
noncomputable def mS (ck:Ck):DV.S->Stmt->Bool
 | .asg tg e,S=>match S with
  | .Assign [t] v _=>mTg ck tg t&&mE ck e v&&(match tg with|.one _=>true|.tup _=>bK0 v&&ap7 v)
  | _=>false
 | .setIx o i e,S=>match S with|.Assign [.Subscript ob ix _] v _=>mE ck o ob&&mE ck i ix&&mE ck e v&&ap7 v|_=>false
 | .aug i e,S=>match S with|.AugAssign (.Name x _) .Add v _=>decide (ck.N[i]?=some x)&&ck.loc x&&mE ck e v|_=>false
 | .ex e,S=>match S with|.Expr v _=>mE ck e v&&ap7 v|_=>false
 | .ret e,S=>match S with|.Return (some v) _=>mE ck e v|_=>false
 | .retN,S=>match S with|.Return none _=>true|_=>false
 | .ite c a b,S=>match S with|.If t l r _=>mE ck c t&&mSs ck a l&&mSs ck b r|_=>false
 | .whl c b,S=>match S with|.While t l [] _=>mE ck c t&&mSs ck b l|_=>false
 | .for_ tg it b,S=>match S with|.For tgt iter l [] _=>mTg ck tg tgt&&mI ck tgt it iter&&mSs ck b l|_=>false
 | .pass,_=>false
 | .cont,S=>match S with|.Continue _=>true|_=>false
 | .brk,_=>false
 | .raise,_=>true
 | .und _,_=>false
noncomputable def mSs (ck:Ck):DV.Ss->List Stmt->Bool
 | .nil,xs=>match xs with|[]=>true|_=>false
 | .cons s ss,xs=>match xs with|x::xs=>(mS ck s x&&mSs ck ss xs)|_=>false
end
theorem aF0 {B:Ck}{e:nj}{E:Expr}(h:mE B e E=true):shp E=true:=by
 cases E<;>first|rfl|(exfalso;cases e<;>exact ff h)
theorem bj8 {F:Ck}{B:Expr}{e:DV.I}{E:Expr}(h:mI F B e E=true):shp E=true:=by
 cases e with
 | seq e=>have h:(mE F e E&&shp E)=true:=h;rw[ag]at h;exact h.2
 | enum a=>cases E<;>first|rfl|(exfalso;cases a<;>exact ff h)
 | zip a b=>cases E<;>first|rfl|(exfalso;cases a<;>first|exact ff h|(cases b<;>exact ff h))
 | _=>cases E<;>first|rfl|exact ff h
theorem zl {e:Expr}{es:List Expr}{env:Env}(h:shp e=true):br (e::es) env=(false,eval e env)::br es env:=by
 cases e<;>first|rfl|cases h
theorem zX {env:Env}{pos:Pos}:∀ {es:List Expr},(∀ e∈es,shp e=true)->(d7 pos (br es env)).any (·.1)=false/\(d7 pos (br es env)).all (λ x=>!x.1)=true
 | [],_=>⟨rfl,rfl⟩
 | e::es,h=>by
  have F:=zl (es:=es) (env:=env) (h e (av ..))
  obtain⟨B,h3⟩:=zX (env:=env) (pos:=pos) (es:=es) λ x hx=>h x (ai _ hx)
  rw[F]
  unfold d7 at B h3 ⊢
  simp only[aS,eU,c8,B,h3]
  exact⟨rfl,rfl⟩
theorem ar2 {e:Expr}{env:Env}(h:shp e=true)(x:Value):dj e env x=pure x:=by
 cases e<;>first|rfl|cases h
theorem az5 {e:Expr}{op:CmpOp}(h:shp e=true):c9 op e=false:=by
 cases e<;>first|rfl|cases h
theorem ag8 {e:Expr}{t:Option Expr}{l:Nat}{env:Env}(h:ap7 e=true):eK e t l env=pure false:=by
 cases e<;>first|rfl|cases h
theorem aT1 {e:Expr}{f:Str}{env:Env}(h:bW5 e=true):eS e f env (eval e env)=eval e env:=by
 cases e with
 | Call g a k p =>
  cases g with
  | Name x p' =>
   cases a with
   | nil=>cases k with
    | nil=>cases h
    | cons _ _=>rfl
   | cons _ _=>rfl
  | _=>rfl
 | _=>rfl
theorem aL0 {es:List Expr}{k:Nat}{p:Pos}{e:Expr}{env:Env}(h:bK0 e=true):gf [.Tuple es k p] e env=pure none:=by
 cases e<;>first|rfl|cases h
theorem aL7 {o i:Expr}{p:Pos}{e:Expr}{env:Env}:gf [.Subscript o i p] e env=pure none:=by
 cases e<;>rfl
theorem ap5 {e:Expr}(h:shp e=true):aS8 e:=by
 intro o i
 cases e<;>first|rfl|cases h
def spV (Γ:Gm)(c:List lw->lv->lz lw):Sp:=λ vs H Q _=>rCl Γ c vs H Q
noncomputable def bNames:List Str:=["len", "abs", "min", "max", "int", "isinstance", "bool", "str", "tuple", "list", "range", "sum", "all", "any", "sorted", "zip", "enumerate", "ord"]
def spL (Γ:Gm)(c:List lw->List lw->lv->lz lw)(cap:List V):Sp:=λ vs H Q _=>∃ φ s cs l d s',Rp Γ φ H s/\RVL Γ φ H l vs/\RVL Γ φ H cs cap/\ly s.length l=true/\ly s.length cs=true/\c cs l s=.ok d s'/\ad9 Γ φ s H d s' Q
noncomputable def LamI.own (J:LamI):Str:=match J.nm with|none => "<lambda>" | some p=>p.1
noncomputable def lamText (J:LamI)(params:bW)(body:Expr)(scope:Scope)(pos:Pos):Expr:=match J.nm with
 | none=>.Lambda params body scope pos
 | some p=>.NamedExpr (.Name p.1 p.2) (.Lambda params body scope pos) pos
structure LamHere (Γ:Gm)(X:Cx)(N:List Str)(id:String)(caps:List Nat)(params:bW)(body:Expr)(scope:Scope)(c P:Addr)(J:LamI):Prop where
 code:X.env.code=.ref c
 hd:bR X.base c P
 bm:BM X.mg X.base
 ck:lamCheck scope X.env.scope=true
 df:defaultsOf params X.env=([],[])
 lg:Γ.lg id J
 q:J.qual=X.env.qual++J.own
 p:J.params=params
 b:J.body=body
 s:J.scope=scope
 len:J.fr.length=caps.length
 at_:∀(i j:Nat) (x:Str),caps[i]?=some j->J.fr[i]?=some x->N[j]?=some x
 fr:∀ x∈J.fr,scope.names.lookup x=some .free
 cl:∀ x,scope.names.lookup x=some .free->∃ c,X.env.cells.lookup x=some c
 tab:(P,J.qual)∈Γ.T
 nd:(Γ.T.map (·.1)).Nodup
 fn:∀ x,X.fn x=true
 kd:∀ x c,X.env.cells.lookup x=some c->X.env.kindOf x=some .cell\/X.env.kindOf x=some .free
 gs:LamScope (J.ps++J.fr) J.ps J.fr J.scope
 gp:lamArgs J.params=some J.ps
 gb:∀(clos:List (Str×Addr)) (pm:Value) (c':Addr) (ctv:Value) (us:List Value),us.length=J.ps.length->d9 (dw "<lambda>" J.qual J.params J.body J.scope clos pm (.ref c') ctv) ⟨us,[]⟩=pure (J.ps.zip us)
noncomputable def strD (kvs:List (List Nat×List Nat)):List (PyData×PyData):=kvs.map λ p=>(.str ⟨p.1.toArray⟩,.str ⟨p.2.toArray⟩)
structure CG (Γ:Gm)(F:lL)(n:Nat)(X:Cx)(ck:Ck):Prop where
 K:X.K=Γ.K
 N:X.N=ck.N
 nd:ck.N.Nodup
 xe:X.xe=λ _ _=>False
 calm:X.calm=true
 deep:lJ+1<=n
 room:Room n X.A
 sc:∀ x k,ck.sc.names.lookup x=some k->X.env.scope.names.lookup x=some k\/(k=.free/\X.env.scope.names.lookup x=some .cell)
 fn:∀ x,ck.sc.names.lookup x=some .cell->X.fn x=true
 bi:∀ x∈bNames,X.mg x=none
 call:∀ f:String,(∀ l s,F.call f l s=.bad)\/∃ a fd ps,FnOk X.prog X.w X.K X.mg X.base CX0 n a fd ps (spV Γ (F.call f))/\X.mg (f:Str)=some (.ref a)/\cc X.K (.ref a)=true/\Binds X.K fd ps []
 con:∀ x d,F.con x=some d->∃ v u,X.mg (x:Str)=some u/\RelV v u/\(∀ m,d.bnd m=true)/\∀ φ H,RV Γ φ H d v
 lam:∀ id caps E,ck.lk id caps E=true->∃ c P params body scope pos J,E=lamText J params body scope pos/\LamHere Γ X ck.N id caps params body scope c P J
 cl:∀(id:String) (J:LamI) (f:Addr) (cap:List V) (clos:List (Str×Addr)),Γ.lg id J->cap.length=J.fr.length->ClOk X.prog X.w X.K X.mg X.base n (λ H=>CloAt H f J cap clos) f (spL Γ (F.lam id) cap)
 fa:∀(f:String) (a:Addr),Γ.fa f=some a->X.mg (f:Str)=some (.ref a)/\∃ oc od fd sl,X.K.lookup a=some ⟨oc,od,.func fd,sl⟩
 fk:DV.FK F
 cdc:∀ c kvs,F.cdc c=some kvs->∃ a,X.mg (c:Str)=some (.ref a)/\∀ h:Heap,X.K.In h->StrTab X.prog X.w h a (strD kvs)
section
variable {Γ:Gm} {F:lL} {n:Nat} {X:Cx} {ck:Ck}
theorem CG.vis (G:CG Γ F n X ck){x:Str}(h:ck.vis x=true):Vis X.env.scope x:=by
 unfold Ck.vis at h
 split at h
 ·rename_i e;rcases G.sc _ _ e with z|⟨z,_⟩
  ·exact .inl z
  ·cases z
 ·rename_i e;rcases G.sc _ _ e with z|⟨z,_⟩
  ·exact .inr (.inl z)
  ·cases z
 ·rename_i e;rcases G.sc _ _ e with z|⟨_,z⟩
  ·exact .inr (.inr z)
  ·exact .inr (.inl z)
 ·cases h
theorem CG.loc (G:CG Γ F n X ck){x:Str}(h:ck.loc x=true):Loc X.env.scope x/\(X.fn x=true\/X.env.scope.names.lookup x=some .local):=by
 unfold Ck.loc at h
 split at h
 ·rename_i e;rcases G.sc _ _ e with z|⟨z,_⟩
  ·exact⟨.inl z,.inr z⟩
  ·cases z
 ·rename_i e;rcases G.sc _ _ e with z|⟨z,_⟩
  ·exact⟨.inr z,.inl (G.fn _ e)⟩
  ·cases z
 ·cases h
theorem CG.gl (G:CG Γ F n X ck){x:Str}(h:ck.gl x=true):Gl X x/\(x==("__debug__":Str))=false/\x ≠ "__name__":=by
 unfold Ck.gl at h
 simp only[ag,eB]at h
 obtain⟨⟨B,J⟩,h3⟩:=h
 refine⟨?_,J,of_decide_eq_false h3⟩
 split at B
 ·rename_i e;rcases G.sc _ _ e with z|⟨z,_⟩
  ·exact z
  ·cases z
 ·cases B
theorem bj0 (G:CG Γ F n X ck):∀ {is:List Nat} {es:List Expr},bT1 ck is es=true->PGs X es (bS5 is)/\(cB es X.env).length=is.length/\(cB es X.env).findIdx? (·.1)=none
 | [],[],_=>⟨bB3,rfl,rfl⟩
 | [],_::_,h=>by cases h
 | i::is,[],h=>by cases h
 | i::is,e::es,h=>by
  cases e with
  | Name x p =>
   unfold bT1 at h
   simp only[ag,decide_eq_true_eq]at h
   obtain⟨⟨J,B⟩,h3⟩:=h
   obtain⟨l1,Y⟩:=G.loc B
   obtain⟨a,b,c⟩:=bj0 G h3
   have hs:cB (.Name x p::es) X.env=(false,gJ (.Name x p) X.env)::cB es X.env:=rfl
   refine⟨bh5 (aR0 (by rw[G.N];exact G.nd) (by rw[G.N];exact J) l1 Y) a (by rw[hs];rfl),by rw[hs,bf,bf,b],?_⟩
   rw[hs,List.findIdx?_cons]
   simp[c]
  | _=>cases h
theorem ba0 (G:CG Γ F n X ck){tg:l6}{e:Expr}(h:mTg ck tg e=true):PG X e (gOf Γ.K tg):=by
 unfold mTg at h
 split at h
 ·simp only[ag,decide_eq_true_eq]at h
  obtain⟨l1,B⟩:=G.loc h.2
  exact aR0 (by rw[G.N];exact G.nd) (by rw[G.N];exact h.1) l1 B
 ·obtain⟨a,b,c⟩:=bj0 G h
  exact bx2 G.K G.calm a b c
 ·cases h
theorem CG.comp (G:CG Γ F n X ck){tg:l6}{J iter:Expr}{B:List (Option Nat)}{scope:Scope}(h:aM0 ck tg J iter B scope=true) :
  zS (ckC ck J B scope).N B scope X.N X.env.scope=true/\shp iter=true /\
  ∀(C:Addr) (cells:List (Str×Addr)) (s:af) (H:Hp) (ex:List Addr),CG Γ F n (zH X (ckC ck J B scope).N scope C cells s H ex) (ckC ck J B scope)/\PG (zH X (ckC ck J B scope).N scope C cells s H ex) J (gOf Γ.K tg):=by
 unfold aM0 at h
 simp only[ag,decide_eq_true_eq]at h
 obtain⟨⟨⟨Y,h2⟩,h3⟩,h4⟩:=h
 refine⟨?_,h4,λ C cells s H ex=>?_⟩
 ·rw[G.N]
  unfold zS at Y ⊢
  simp only[ag]at Y ⊢
  obtain⟨⟨⟨⟨⟨a1,a2⟩,a3⟩,a4⟩,a5⟩,a6⟩:=Y
  refine⟨⟨⟨⟨⟨a1,?_⟩,a3⟩,a4⟩,a5⟩,a6⟩
  rw[aM]at a2 ⊢
  intro y hy
  have:=a2 y hy
  rw[bK]at this ⊢
  rcases this with q|q
  ·exact .inl q
  ·right
   rw[bK]at q ⊢
   rcases q with q|q
   ·rcases G.sc _ _ (eq_of_beq q)with z|⟨z,_⟩
    ·left;rw[z];exact beq_self_eq_true _
    ·cases z
   ·rcases G.sc _ _ (eq_of_beq q)with z|⟨_,z⟩
    ·right;rw[z];exact beq_self_eq_true _
    ·left;rw[z];exact beq_self_eq_true _
 ·have Z:CG Γ F n (zH X (ckC ck J B scope).N scope C cells s H ex) (ckC ck J B scope):=by
   refine⟨G.K,rfl,h2,rfl,G.calm,G.deep,G.room,λ x k e=>?_,λ x e=>?_,G.bi,G.call,G.con,λ _ _ _ h=>(by cases h),G.cl,G.fa,G.fk,G.cdc⟩
   ·have q:=qj (env:=X.env) e
    have q':(eT scope X.env).names.lookup x=some (if(k==NameKind.free&&X.env.scope.kind==.function&&X.env.kindOf x==some .cell)then NameKind.cell else k):=q
    show(eT scope X.env).names.lookup x=some k\/_
    rw[q']
    split
    ·rename_i hc
     simp only[ag]at hc
     exact .inr ⟨eq_of_beq hc.1.1,rfl⟩
    ·exact .inl rfl
   ·show(scope.names.lookup x==some .cell)=true
    rw[show scope.names.lookup x=some .cell from e];rfl
  exact⟨Z,ba0 Z h3⟩
end
section
variable {Γ:Gm} {F:lL} {n:Nat} {X:Cx} {ck:Ck} {σ:St} {H:Hp} {Q:VK}
theorem TEv.eq {m m':lx->lv->lz lw}(e:∀ ρ s,m ρ s=m' ρ s)(q:TEv Γ m σ H Q):TEv Γ m' σ H Q:=by
 have:m=m':=funext λ ρ=>funext λ s=>e ρ s
 subst this;exact q
theorem TTv.eq {m m':lx->lv->lz lw}{Q:Bool->Hp->Prop}(e:∀ ρ s,m ρ s=m' ρ s)(q:TTv Γ m σ H Q):TTv Γ m' σ H Q:=by
 have:m=m':=funext λ ρ=>funext λ s=>e ρ s
 subst this;exact q
theorem TAv.eq {m m':lx->lv->lz (List lw)}{Q:List V->Hp->Prop}(e:∀ ρ s,m ρ s=m' ρ s)(q:TAv Γ m σ H Q):TAv Γ m' σ H Q:=by
 have:m=m':=funext λ ρ=>funext λ s=>e ρ s
 subst this;exact q
theorem TFv.eq {m m':lx->lv->lz (List lw)}(e:∀ ρ s,m ρ s=m' ρ s)(q:TFv Γ m σ H Q):TFv Γ m' σ H Q:=by
 have:m=m':=funext λ ρ=>funext λ s=>e ρ s
 subst this;exact q
theorem TIv.eq {m m':lx->lv->lz mH}{R:It->Hp->Prop}(e:∀ ρ s,m ρ s=m' ρ s)(q:TIv Γ m σ H R):TIv Γ m' σ H R:=by
 have:m=m':=funext λ ρ=>funext λ s=>e ρ s
 subst this;exact q
theorem TSv.eq {m m':lx->lv->lz lW}{D:Ends}(e:∀ ρ s,m ρ s=m' ρ s)(q:TSv Γ m D σ H):TSv Γ m' D σ H:=by
 have:m=m':=funext λ ρ=>funext λ s=>e ρ s
 subst this;exact q
def EvT (Γ:Gm)(X:Cx)(E:Expr)(m:lx->lv->lz lw):Prop:=PE X E (TEv Γ m)/\PT X E (TTv Γ m)
theorem EvT.val {E:Expr}{m:lx->lv->lz lw}(h:PE X E (TEv Γ m))(he:∀ B,dU E X.env B=(do let v <- B;standAt E.pos;jD [v] (truthy v)):=by intro _;rfl):EvT Γ X E m :=
 ⟨h,(aJ8 h he).imp λ σ H Q q=>aJ4 q⟩
theorem aZ8 {c a b:Expr}{pos:Pos}{J tb Z:TT}(hc:PT X c J)(ha:PT X a tb)(hb:PT X b Z):PT X (.IfExp c a b pos) (λ σ H Q=>J σ H λ k F=>if k=true then tb σ F Q else Z σ F Q):=by
 intro B s σ H Q I h
 have e:dU (.IfExp c a b pos) X.env (eval (.IfExp c a b pos) X.env)=(do if <- dU c X.env (eval c X.env)then dU a X.env (eval a X.env)else dU b X.env (eval b X.env)):=by rw[dU]
 rw[e]
 refine ae (thn (hc B s σ H _ I h) λ k s1 ⟨F,Y,G⟩=>?_)
 cases k with
 | true=>exact ha B s1 σ F Q Y G
 | false=>exact hb B s1 σ F Q Y G
theorem bL9 {mc J G:lx->lv->lz lw}{Q:Bool->Hp->Prop}(h:TTv Γ (λ ρ s=>lH (mc ρ s) λ k s=>if k then J ρ s else G ρ s) σ H Q):TTv Γ mc σ H λ k F=>if k=true then TTv Γ J σ F Q else TTv Γ G σ F Q:=by
 obtain⟨φ,ρ,s,d,s',E,R,B,q⟩:=h
 obtain⟨c,s1,e1,B⟩:=zI B
 refine⟨φ,ρ,s,c,s1,E,R,e1,λ φ1 F g1 l1 R1=>?_⟩
 cases c with
 | true =>
  rw[if_pos rfl]at B ⊢
  exact⟨φ1,ρ,s1,d,s',E.mono g1 l1,R1,B,q.trans g1 l1⟩
 | false =>
  rw[if_neg aR]at B ⊢
  exact⟨φ1,ρ,s1,d,s',E.mono g1 l1,R1,B,q.trans g1 l1⟩
section
variable {a b c:nj} {l r t:Expr} {pos:Pos}
theorem bp8 (G:CG Γ F n X ck)(op:nD)(ha:EvT Γ X l (lA F a))(hb:EvT Γ X r (lA F b)):EvT Γ X (.BinOp l (bU7 op) r pos) (lA F (.bin op a b)) :=
 .val ((ca9 (bE3 G.K op) ha.1 hb.1).imp λ σ H Q q=>bc2 (TEv.eq (λ ρ s=>rfl) q))
theorem bz0 (ha:EvT Γ X l (lA F a)):EvT Γ X (.UnaryOp .USub l pos) (lA F (.neg a)) :=
 .val ((bW4 bF5 ha.1).imp λ σ H Q q=>bV1 (f:=λ x s=>match x with|.int i=>.ok (.int (-i)) s|_=>.bad) (TEv.eq (λ ρ s=>rfl) q) λ φ s x d s' v H' R r G B k=>by
  cases x with
  | int i =>
   cases B
   exact⟨i,r.intE,k.here R rfl RV.intI⟩
  | _=>cases B)
theorem bu2 (ha:EvT Γ X l (lA F a)):EvT Γ X (.UnaryOp .Not l pos) (lA F (.not a)) :=
 ⟨(bQ3 ha.1).imp λ σ H Q q=>bL7 (TEv.eq (λ ρ s=>rfl) q),(bI8 ha.2).imp λ σ H Q q=>bO4 (TTv.eq (λ ρ s=>rfl) q)⟩
theorem by7 (G:CG Γ F n X ck)(op:nv)(hs:shp r=true)(ha:EvT Γ X l (lA F a))(hb:EvT Γ X r (lA F b)):EvT Γ X (.Compare l [by2 op] [r] pos) (lA F (.cmp op a b)):=by
 have ho:=bK3 (Γ:=Γ) G.K (G.room.mono G.deep) op
 refine⟨(bn4 ho ha.1 hb.1 (az5 hs)).imp λ σ H Q q=>bc2 (TEv.eq (λ ρ s=>rfl) q),(bx1 ho ha.1 hb.1 (az5 hs)).imp λ σ H Q q=>?_⟩
 have q:=bn8 q
 exact bc2 (TEv.eq (λ ρ s=>rfl) q)
theorem RV.nonIff {φ:Nat->Addr}{x:lw}{v:V}(r:RV Γ φ H x v):decide (v=.non)=decide (x=.non):=by
 cases x with
 | non=>rw[r.nonE];rfl
 | bl b=>rw[r.blE];rfl
 | int i=>rw[r.intE];rfl
 | str z=>rw[r.strE];rfl
 | tup l=>obtain⟨a,B,rfl,_⟩:=r.tupE;rfl
 | ref k=>rw[r.refE];rfl
 | fn f=>unfold RV at r;obtain⟨a,_,rfl⟩:=r;rfl
 | clo f cs=>unfold RV at r;obtain⟨f,_,_,_,rfl,_⟩:=r;rfl
theorem bp3 {j pos'}(ha:EvT Γ X l (lA F a)):EvT Γ X (.Compare l [.Is] [.Constant .none j pos'] pos) (lA F (.isN a)):=by
 have key:∀ σ H Q,TEv Γ (lA F (.isN a)) σ H Q->cc5 (TEv Γ (lA F a)) σ H Q:=λ σ H Q q=>by
  obtain⟨φ,ρ,s,d,s',E,R,B,k⟩:=q
  obtain⟨x,s1,e1,B⟩:=aa1 B
  cases B
  refine⟨φ,ρ,s,x,_,E,R,e1,λ v φ1 G g1 l1 J r1 R1=>?_⟩
  show Q (.bl (decide (v=.non))) G
  rw[r1.nonIff]
  exact k _ φ1 G g1 l1 rfl RV.blI R1
 exact⟨(bj6 (bi4 ha.1)).imp key,(bm8 (bi4 ha.1)).imp λ σ H Q q=>key _ _ _ (aJ4 q)⟩
theorem be3 {j pos'}(ha:EvT Γ X l (lA F a)):EvT Γ X (.Compare l [.IsNot] [.Constant .none j pos'] pos) (lA F (.notN a)):=by
 have key:∀ σ H Q,TEv Γ (lA F (.notN a)) σ H Q->bL0 (TEv Γ (lA F a)) σ H Q:=λ σ H Q q=>by
  obtain⟨φ,ρ,s,d,s',E,R,B,k⟩:=q
  obtain⟨x,s1,e1,B⟩:=aa1 B
  cases B
  refine⟨φ,ρ,s,x,_,E,R,e1,λ v φ1 G g1 l1 J r1 R1=>?_⟩
  show Q (.bl (!decide (v=.non))) G
  rw[r1.nonIff]
  exact k _ φ1 G g1 l1 rfl RV.blI R1
 exact⟨(bj6 (aT8 ha.1)).imp key,(bm8 (aT8 ha.1)).imp λ σ H Q q=>key _ _ _ (aJ4 q)⟩
theorem aQ1 {op:BoolOp}{es:List Expr}{t:TT}(h:PT X (.BoolOp op es pos) t):PW X (.BoolOp op es pos) t:=by
 intro F B s σ H Q I q
 have:=h B s σ H Q I q
 have e:∀ w,dU (.BoolOp op es pos) X.env w=allTrue op es X.env:=λ w=>by rw[dU]
 rw[e]at this ⊢
 exact this
theorem bu6 (ha:EvT Γ X l (lA F a))(hb:EvT Γ X r (lA F b)):EvT Γ X (.BoolOp .And [l,r] pos) (lA F (.and a b)) :=
 ⟨(aS2 ha.1 (aI6 hb.1)).imp λ σ H Q q=>bi5 (TEv.eq (λ ρ s=>rfl) q),(bm7 ha.2 (bA2 hb.2)).pt.imp λ σ H Q q=>bl2 (TTv.eq (λ ρ s=>rfl) q)⟩
theorem bz4 {es:List Expr}(ha:EvT Γ X l (lA F a))(hb:EvT Γ X (.BoolOp .And (r::es) pos) (lA F b)):EvT Γ X (.BoolOp .And (l::r::es) pos) (lA F (.and a b)) :=
 ⟨(aS2 ha.1 hb.1).imp λ σ H Q q=>bi5 (TEv.eq (λ ρ s=>rfl) q),(bm7 ha.2 (aQ1 hb.2)).pt.imp λ σ H Q q=>bl2 (TTv.eq (λ ρ s=>rfl) q)⟩
theorem bJ3 (ha:EvT Γ X l (lA F a))(hb:EvT Γ X r (lA F b)):EvT Γ X (.BoolOp .Or [l,r] pos) (lA F (.or a b)) :=
 ⟨(bz1 ha.1 (aI6 hb.1)).imp λ σ H Q q=>bR1 (TEv.eq (λ ρ s=>rfl) q),(bD0 ha.2 (bQ8 hb.2)).pt.imp λ σ H Q q=>bM7 (TTv.eq (λ ρ s=>rfl) q)⟩
theorem bJ1 {es:List Expr}(ha:EvT Γ X l (lA F a))(hb:EvT Γ X (.BoolOp .Or (r::es) pos) (lA F b)):EvT Γ X (.BoolOp .Or (l::r::es) pos) (lA F (.or a b)) :=
 ⟨(bz1 ha.1 hb.1).imp λ σ H Q q=>bR1 (TEv.eq (λ ρ s=>rfl) q),(bD0 ha.2 (aQ1 hb.2)).pt.imp λ σ H Q q=>bM7 (TTv.eq (λ ρ s=>rfl) q)⟩
theorem bt7 (hc:EvT Γ X t (lA F c))(ha:EvT Γ X l (lA F a))(hb:EvT Γ X r (lA F b)):EvT Γ X (.IfExp t l r pos) (lA F (.ite c a b)) :=
 ⟨(bg2 hc.2 ha.1 hb.1).imp λ σ H Q q=>bQ9 (TEv.eq (λ ρ s=>rfl) q),(aZ8 hc.2 ha.2 hb.2).imp λ σ H Q q=>bL9 (TTv.eq (λ ρ s=>rfl) q)⟩
theorem bD1 (G:CG Γ F n X ck)(hs:shp r=true)(ha:EvT Γ X l (lA F a))(hb:EvT Γ X r (lA F b)):EvT Γ X (.Subscript l r pos) (lA F (.ix a b)) :=
 .val ((bK8 (bF7 G.K (ai2 G.room)) ha.1 hb.1 (ap5 hs)).imp λ σ H Q q=>bc2 (TEv.eq (λ ρ s=>rfl) q))
theorem bt6 {B:Pos}(G:CG Γ F n X ck)(ha:EvT Γ X l (lA F a))(hb:EvT Γ X r (lA F b)):EvT Γ X (.Subscript l (.Slice none (some r) none B) pos) (lA F (.slU a b)) :=
 .val ((be4 (bX1 G.K) ha.1 bs7 (bo1 hb.1)).imp λ σ H Q q=>(bY1 (ml:=lA F b)).2.1 (TEv.eq (λ ρ s=>rfl) q))
end
end
section
variable {Γ:Gm} {F:lL} {n:Nat} {X:Cx} {ck:Ck} {σ:St} {H:Hp} {Q:VK}
theorem aq0:∀ {es:lT} {ρ:lx} {s s':lv} {l:List lw} {B:List Expr} {G:Ck},lZ F es ρ s=.ok l s'->mEs G es B=true->l.length=B.length
 | .nil,ρ,s,s',l,B,G,h,m=>by
  cases h
  cases B with
  | nil=>rfl
  | cons _ _=>rw[mEs]at m<;>first|cases m|(intros;simp_all)
 | .cons e es,ρ,s,s',l,B,G,h,m=>by
  obtain⟨d,s1,e1,h⟩:=aa1 h
  obtain⟨r,s2,e2,h⟩:=aa1 h
  cases h
  cases B with
  | nil=>rw[mEs]at m<;>first|cases m|(intros;simp_all)
  | cons x B =>
   rw[mEs,ag]at m
   rw[bf,bf,aq0 e2 m.2]
theorem aA9:∀ {es:lT} {B:List Expr},mEs ck es B=true->∀ x∈B,shp x=true
 | .nil,[],_,x,hx=>by cases hx
 | .nil,_::_,m,_,_=>by rw[mEs]at m<;>first|cases m|(intros;simp_all)
 | .cons e es,[],m,x,hx=>by cases hx
 | .cons e es,y::B,m,x,hx=>by
  rw[mEs,ag,ag]at m
  rcases aA.mp hx with h|h
  ·rw[h];exact m.1.2
  ·exact aA9 m.2 x h
theorem aB1:∀ {es:mM} {B:List Expr},mAs ck es B=true->∀ x∈B,shp x=true
 | .nil,[],_,x,hx=>by cases hx
 | .nil,_::_,m,_,_=>by rw[mAs]at m<;>first|cases m|(intros;simp_all)
 | .ex e es,[],m,x,hx=>by cases hx
 | .lam _ _ _,_,m,_,_=>by rw[mAs]at m<;>first|cases m|(intros;simp_all)
 | .fn _ _,_,m,_,_=>by rw[mAs]at m<;>first|cases m|(intros;simp_all)
 | .ex e es,y::B,m,x,hx=>by
  rw[mAs,ag,ag]at m
  rcases aA.mp hx with h|h
  ·rw[h];exact m.1.2
  ·exact aB1 m.2 x h
theorem aF8 {e:nj}{x:Expr}{G:List Expr}{B:lx->lv->lz (List lw)}(hs:shp x=true)(Y:PE X x (TEv Γ (lA F e)))(J:PA X G (TAv Γ B)) :
  PA X (x::G) (TAv Γ (λ ρ s=>(lA F e ρ s).bind λ d s=>(B ρ s).bind λ l s=>.ok (d::l) s)) :=
 (zJ Y J (zl hs)).imp λ σ H Q q=>bo8 q
theorem aG7 {k:Nat}(h:k<=1000):k<=aJ:=by rw[fR];omega
theorem bs1 {es:lT}{B:List Expr}{k:Nat}{pos:Pos}(m:mEs ck es B=true)(hz:B.length<=1000)(h:PA X B (TAv Γ (lZ F es))):EvT Γ X (.Tuple B k pos) (lA F (.tup es)) :=
 .val ((bl7 h).imp λ σ H Q q=>tv_tup' hz m q)
where
 tv_tup' {es:lT} {B:List Expr} {σ:St} {H:Hp} {Q:VK} (hz:B.length<=1000) (m:mEs ck es B=true) (q:TEv Γ (lA F (.tup es)) σ H Q):cd2 (TAv Γ (lZ F es)) σ H Q:=by
  obtain⟨φ,ρ,s,d,s',E,R,G,q⟩:=q
  obtain⟨l,s1,e1,G⟩:=aa1 G
  cases G
  refine⟨φ,ρ,s,l,_,E,R,e1,λ vs φ1 Y g1 l1 J r1 R1=>⟨by rw[r1.length,aq0 e1 m];exact aG7 hz,λ p hp=>?_⟩⟩
  exact(q.trans g1 l1).tup R1 r1 J hp
theorem bz8 {es:lT}{B:List Expr}{pos:Pos}(m:mEs ck es B=true)(hz:B.length<=1000)(h:PA X B (TAv Γ (lZ F es))):EvT Γ X (.List B pos) (lA F (.lst es)):=by
 refine .val ((bm6 h).imp λ σ H Q q=>?_)
 obtain⟨φ,ρ,s,d,s',E,R,G,q⟩:=q
 obtain⟨l,s1,e1,G⟩:=aa1 G
 obtain⟨rfl,rfl⟩:=qr G
 refine⟨φ,ρ,s,l,_,E,R,e1,λ vs φ1 Y g1 l1 J r1 R1=>⟨by rw[r1.length,aq0 e1 m];exact aG7 hz,λ p hp=>?_⟩⟩
 exact(q.trans g1 l1).alloc R1 r1 J hp
theorem bf8 {f:String}{B:mM}{J:List Expr}{p pos:Pos}(G:CG Γ F n X ck)(hg:ck.gl (f:Str)=true)(m:mAs ck B J=true)(h:PA X J (TAv Γ (mf F B))):EvT Γ X (.Call (.Name (f:Str) p) J [] pos) (lA F (.call f B)):=by
 refine .val ?_
 obtain⟨g1,g2,g3⟩:=G.gl hg
 rcases G.call f with hbad|⟨a,fd,ps,hF,Y,hk,hb⟩
 ·intro a0 s σ H Q I q
  obtain⟨φ,ρ,s,d,s',E,R,Z,q⟩:=q
  obtain⟨l,s1,e1,Z⟩:=aa1 Z
  rw[hbad]at Z
  cases Z
 have key:∀ σ H Q,TEv Γ (lA F (.call f B)) σ H Q->aK2 (spV Γ (F.call f)) [] E0 (TAv Γ (mf F B)) σ H Q:=λ σ H Q q=>by
  have:=aD8 (TEv.eq (m':=λ ρ s=>(mf F B ρ s).bind λ l s=>F.call f l s) (λ ρ s=>rfl) q)
  unfold tCB at this
  unfold aK2 spV
  simpa only[bh]using this
 cases J with
 | nil =>
  have h0:PE X (.Call (.Name (f:Str) p) [] [] pos) (aK2 (spV Γ (F.call f)) [] E0 bl0):=aZ9 hF G.room g1 Y hk hb .nil bG8 g2
  cases B with
  | nil =>
   refine h0.imp λ σ H Q q=>?_
   have q1:=key σ H Q q
   unfold aK2 at q1 ⊢
   exact aI2 (TAv.eq (λ ρ s=>rfl) q1)
  | _=>rw[mAs]at m<;>first|cases m|(intros;simp_all)
 | cons x J =>
  have hs:=aB1 m
  exact(aT5 hF G.room g1 Y hk hb .nil bG8 h g2 (zl (hs x (av ..))) (zX λ e he=>hs e (ai _ he)).1).imp key
def BiC (Γ:Gm)(X:Cx)(b:mq)(x:Str):Prop:=(∃ id,bv x=some (.builtin id)/\ac5 X (.builtin id) (rCl Γ (nz b)))\/∃ T,bv x=some (.type T)/\ac5 X (.type T) (rCl Γ (nz b))
theorem bP9 (G:CG Γ F n X ck){b:mq}{x:Str}(h:biT b=some x):x∈bNames/\BiC Γ X b x:=by
 cases b<;>first|cases h|skip
 ·exact⟨by decide,.inl ⟨_,bY0,bs6 G.K G.calm (k:=1) rfl⟩⟩
 ·exact⟨by decide,.inl ⟨_,ca4,bs6 G.K G.calm (k:=1) rfl⟩⟩
 ·exact⟨by decide,.inr ⟨_,bU0,bO6⟩⟩
 ·exact⟨by decide,.inr ⟨_,bZ9,bP8⟩⟩
 ·exact⟨by decide,.inl ⟨_,bw7,bs6 G.K G.calm (k:=2) rfl⟩⟩
theorem bK4 {b:mq}{es:lT}{x:Str}{y:Expr}{B:List Expr}{p pos:Pos}(G:CG Γ F n X ck)(hb:biT b=some x)(hg:ck.gl x=true)(m:mEs ck es (y::B)=true)(h:PA X (y::B) (TAv Γ (lZ F es))) :
  EvT Γ X (.Call (.Name x p) (y::B) [] pos) (lA F (.bi b es)):=by
 refine .val ?_
 obtain⟨g1,Z,g3⟩:=G.gl hg
 obtain⟨hm,hc⟩:=bP9 G hb
 have hs:=aA9 m
 have s1:=zl (es:=B) (env:=X.env) (hs y (av ..))
 have s2:=(zX (env:=X.env) (pos:=pos) λ e he=>hs e (ai _ he)).1
 rcases hc with⟨id,J,Y⟩|⟨T,J,Y⟩
 ·exact(ag4 Y g1 (G.bi _ hm) J h g3 Z s1 s2).imp λ σ H Q q=>aD8 (TEv.eq (λ ρ s=>rfl) q)
 ·exact(ak7 Y g1 (G.bi _ hm) J h g3 Z s1 s2).imp λ σ H Q q=>aD8 (TEv.eq (λ ρ s=>rfl) q)
noncomputable def PEs (Γ:Gm)(F:lL)(X:Cx):lT->List Expr->Prop
 | .nil,[]=>True
 | .cons e es,x::xs=>(shp x=true/\EvT Γ X x (lA F e))/\PEs Γ F X es xs
 | _,_=>False
theorem ao1:∀ {es:lT} {B:List Expr},PEs Γ F X es B->PA X B (TAv Γ (lZ F es))
 | .nil,[],_=>ad3.imp λ σ H Q q=>aI2 (TAv.eq (λ ρ s=>rfl) q)
 | .nil,_::_,h=>h.elim
 | .cons _ _,[],h=>h.elim
 | .cons e es,x::B,h=>(aF8 h.1.1 h.1.2.1 (ao1 h.2)).imp λ σ H Q q=>TAv.eq (λ ρ s=>rfl) q
theorem bw2 {b:mq}{es:lT}{k:Nat}{t:Str}{a:Expr}{p J pos:Pos}(G:CG Γ F n X ck)(hb:biK b=some (k,t))(hg:ck.gl "isinstance"=true)(B:ck.gl t=true)(h:PEs Γ F X es [a]) :
  EvT Γ X (.Call (.Name "isinstance" p) [a,.Name t J] [] pos) (lA F (.bi b es)):=by
 cases hb
end
section
variable {Γ:Gm} {F:lL} {n:Nat} {X:Cx} {ck:Ck} {σ:St} {H:Hp}
def TAp (Γ:Gm)(cells:List (Str×Addr))(N:List Str)(m:lx->lv->lz (List lw)):TA:=λ σ H Q=>∃ φ ρ s l s',RE Γ φ H s.length ρ σ/\Rp Γ φ H s/\m ρ s=.ok l s' /\
 ∀ vs φ' H',Gr φ s H φ' s' H'->s.length<=s'.length->ly s'.length l=true->PVL Γ cells N σ φ' H' l vs->Rp Γ φ' H' s'->Q vs H'
theorem TAp.eq {cells:List (Str×Addr)}{N:List Str}{m m':lx->lv->lz (List lw)}{Q:List V->Hp->Prop}(e:∀ ρ s,m ρ s=m' ρ s)(q:TAp Γ cells N m σ H Q):TAp Γ cells N m' σ H Q:=by
 obtain⟨φ,ρ,s,l,s',E,R,B,q⟩:=q
 exact⟨φ,ρ,s,l,s',E,R,by rw[<-e];exact B,q⟩
theorem br9 {cells:List (Str×Addr)}{N:List Str}{Q:List V->Hp->Prop}(h:TAp Γ cells N (λ ρ s=>.ok [] s) σ H Q):bl0 σ H Q:=by
 obtain⟨φ,ρ,s,l,s',E,R,B,q⟩:=h
 cases B
 exact q [] φ H (Gr.refl _ _ _) (ak _) rfl .nil R
theorem bJ4 {cells:List (Str×Addr)}{N:List Str}{m:lx->lv->lz lw}{G:lx->lv->lz (List lw)}{Q:List V->Hp->Prop}(h:TAp Γ cells N (λ ρ s=>(m ρ s).bind λ d s=>(G ρ s).bind λ l s=>.ok (d::l) s) σ H Q):aN3 (TEv Γ m) (TAp Γ cells N G) σ H Q:=by
 obtain⟨φ,ρ,s,l,s',E,R,B,q⟩:=h
 obtain⟨x,s1,e1,B⟩:=aa1 B
 obtain⟨y,s2,e2,B⟩:=aa1 B
 cases B
 refine⟨φ,ρ,s,x,s1,E,R,e1,λ v φ1 H1 g1 l1 Y r1 R1=>?_⟩
 refine⟨φ1,ρ,s1,y,s',E.mono g1 l1,R1,e2,λ vs φ2 H2 F J Z r2 R2=>?_⟩
 exact q (v::vs) φ2 H2 (g1.trans F l1) (am l1 J) (by unfold ly;rw[zh J x Y,Z];rfl) (.cons (PVp.mono F Y (.inl r1)) r2) R2
end
section
variable {Γ:Gm} {F:lL} {n:Nat} {X:Cx} {ck:Ck} {σ:St} {H:Hp} {Q:VK}
def cg4 (K:ac)(H:Hp)(v:V)(ys:List V)(z:Bool):Prop:=(∃ a,v=.ref a/\(SqL K H a ys\/(SqT K H a ys/\(z=true->H a=some (.tup ys)))))\/∃ x:List Nat,v=.str ⟨x.toArray⟩/\x.length<=lE/\ys=sgV x
def TLv (Γ:Gm)(m:lx->lv->lz (List lw)):TE:=λ σ H Q=>∃ φ ρ s l s',RE Γ φ H s.length ρ σ/\Rp Γ φ H s/\m ρ s=.ok l s' /\
 ∀ v ys φ' H',Gr φ s H φ' s' H'->s.length<=s'.length->ly s'.length l=true->cg4 Γ.K H' v ys (lF l)->RVL Γ φ' H' l ys->Rp Γ φ' H' s'->Q v H'
theorem aF9 {m:lx->lv->lz (List lw)}(h:TLv Γ m σ H Q):TFv Γ m σ H Q:=by
 obtain⟨φ,ρ,s,l,s',E,R,F,q⟩:=h
 exact⟨φ,ρ,s,l,s',E,R,F,λ p ys φ' H' g hl hb hp h0 ho r B=>q (.ref p) ys φ' H' g hl hb (.inl ⟨p,rfl,.inl (SqL.of hp)⟩) r B⟩
theorem av5 {φ:Nat->Addr}:∀ x:List Nat,RVL Γ φ H (x.map λ c=>.str [c]) (sgV x)
 | []=>.nil
 | c::x=>.cons (RV.strI (by unfold lE;simp)) (av5 x)
theorem ao9 {k:Nat}:∀ x:List Nat,ly k (x.map λ c=>.str [c])=true
 | []=>rfl
 | c::x=>by rw[aS];unfold ly;rw[ao9 x];rfl
theorem bM2 {m:lx->lv->lz lw}(h:TLv Γ (λ ρ s=>(m ρ s).bind λ d s=>DV.bj7 d s) σ H Q):TEv Γ m σ H Q:=by
 obtain⟨φ,ρ,s,l,s',E,R,B,q⟩:=h
 obtain⟨d,s1,e1,B⟩:=aa1 B
 refine⟨φ,ρ,s,d,s1,E,R,e1,λ v φ1 Y g1 l1 Z r1 R1=>?_⟩
 cases d with
 | tup l' =>
  cases B
  obtain⟨a,J,⟨rfl,z1⟩,G,F⟩:=r1.tupZ
  unfold lB at Z
  exact q _ J φ1 Y g1 l1 Z (.inl ⟨a,rfl,.inr ⟨G,z1⟩⟩) F R1
 | str x =>
  cases B
  exact q v (sgV x) φ1 Y g1 l1 (ao9 x) (.inr ⟨x,r1.strE,r1.strL,rfl⟩) (av5 x) R1
 | ref k =>
  have B:(match s1[k]? with
   | some (.lst l)=>DV.R.ok l s1
   | some (.ro l)=>.ok l s1
   | _=>.bad)=.ok l s':=B
  rw[r1.refE]
  cases e:s1[k]? with
  | none=>rw[e]at B;exact fb B
  | some ob =>
   rw[e]at B
   cases ob with
   | lst l' =>
    cases B
    obtain⟨J,G,F⟩:=R1.addr e
    have:=R1.wf k _ e
    unfold lD at this
    exact q _ J φ1 Y g1 l1 this (.inl ⟨_,rfl,.inl (SqL.of G)⟩) F R1
   | ro l' =>
    cases B
    obtain⟨J,G,F⟩:=R1.obj k _ e
    have:=R1.wf k _ e
    unfold lD at this
    exact q _ J φ1 Y g1 l1 this (.inl ⟨_,rfl,.inl G.1⟩) F R1
   | _=>exact fb B
 | _=>exact fb B
theorem TLv.eq {m m':lx->lv->lz (List lw)}(e:∀ ρ s,m ρ s=m' ρ s)(q:TLv Γ m σ H Q):TLv Γ m' σ H Q:=by
 have:m=m':=funext λ ρ=>funext λ s=>e ρ s
 subst this;exact q
theorem aN0 {m:lx->lv->lz (List lw)}{a:Expr}{p pos:Pos}(G:CG Γ F n X ck)(hg:ck.gl "tuple"=true)(hs:shp a=true)(h:PE X a (TLv Γ m)) :
  PE X (.Call (.Name "tuple" p) [a] [] pos) (TEv Γ (λ ρ s=>(m ρ s).bind λ l s=>nq .tuple l s)):=by
 obtain⟨g1,Z,g3⟩:=G.gl hg
 refine(ak7 ((aD0 G.K).or (aE7 G.calm)) g1 (G.bi _ (by decide)) bv3 (zJ h ad3 (zl hs)) g3 Z (zl hs) rfl).imp λ σ H Q q=>?_
 obtain⟨φ,ρ,s,d,s',E,R,J,q⟩:=q
 obtain⟨l,s1,e1,J⟩:=aa1 J
 cases J
 refine⟨φ,ρ,s,l,_,E,R,e1,λ v ys φ1 H1 g1 l1 Y B r1 R1=>?_⟩
 rcases B with⟨a,rfl,B|B⟩|⟨x,rfl,hx,rfl⟩
 ·exact .inl ⟨a,ys,rfl,.inl ⟨B,λ p hp=>(q.trans g1 l1).tup R1 r1 Y hp⟩⟩
 ·exact .inl ⟨a,ys,rfl,.inr ⟨B.1,q _ φ1 H1 g1 l1 (by unfold lB;exact Y) (RV.tupC B.1 B.2 r1) R1⟩⟩
 ·exact .inr ⟨x,rfl,hx,λ p hp=>(q.trans g1 l1).tup R1 r1 Y hp⟩
theorem aU7 {m:lx->lv->lz (List lw)}{a:Expr}{p pos:Pos}(G:CG Γ F n X ck)(hg:ck.gl "list"=true)(hs:shp a=true)(h:PE X a (TLv Γ m)) :
  PE X (.Call (.Name "list" p) [a] [] pos) (TEv Γ (λ ρ s=>(m ρ s).bind λ l s=>nq .list l s)):=by
 obtain⟨g1,Z,g3⟩:=G.gl hg
 refine(ak7 ((aM5 G.K).or (aK1 G.calm)) g1 (G.bi _ (by decide)) bE4 (zJ h ad3 (zl hs)) g3 Z (zl hs) rfl).imp λ σ H Q q=>?_
 obtain⟨φ,ρ,s,d,s',E,R,J,q⟩:=q
 obtain⟨l,s1,e1,J⟩:=aa1 J
 obtain⟨rfl,rfl⟩:=qr J
 refine⟨φ,ρ,s,l,_,E,R,e1,λ v ys φ1 H1 g1 l1 Y B r1 R1=>?_⟩
 rcases B with⟨a,rfl,B⟩|⟨x,rfl,hx,rfl⟩
 ·exact .inl ⟨a,ys,rfl,B.imp id (·.1),λ p hp=>(q.trans g1 l1).alloc R1 r1 Y hp⟩
 ·exact .inr ⟨x,rfl,hx,λ p hp=>(q.trans g1 l1).alloc R1 r1 Y hp⟩
theorem bG3 {m:lx->lv->lz (List lw)}{k:nh}{x:Str}{a:Expr}{p pos:Pos}(G:CG Γ F n X ck)(hk:mkT k=some x)(hg:ck.gl x=true)(hs:shp a=true)(h:PE X a (TLv Γ m)) :
  PE X (.Call (.Name x p) [a] [] pos) (TEv Γ (λ ρ s=>(m ρ s).bind λ l s=>nq k l s)):=by
 cases k<;>cases hk
 ·exact aN0 G hg hs h
 ·exact aU7 G hg hs h
def FrC (Γ:Gm)(X:Cx)(x:Str)(k:nh):Prop:=∃ id r,bv x=some (.builtin id)/\x∈bNames/\ac5 X (.builtin id) r/\∀ φ H s l ys p d s' Q,Rp Γ φ H s->RVL Γ φ H l ys->H p=some (.lst ys)->nq k l s=.ok d s'->ad9 Γ φ s H d s' Q->r [.ref p] H Q
theorem aH2:∀(l:List Int) (a:Int),(l.foldl min a=a\/l.foldl min a∈l)/\l.foldl min a<=a/\∀ y∈l,l.foldl min a<=y
 | [],a=>⟨.inl rfl,fW _,λ y hy=>by cases hy⟩
 | b::l,a=>by
  obtain⟨B,F,h3⟩:=aH2 l (min a b)
  rw[cZ]
  refine⟨?_,by omega,λ y hy=>?_⟩
  ·rcases B with h|h
   ·rw[h]
    rcases k6 a b with z|z
    ·left;omega
    ·right;rw[show min a b=b by omega];exact av ..
   ·exact .inr (ai _ h)
  ·rcases aA.mp hy with z|z
   ·rw[z];omega
   ·exact h3 y z
theorem aH9 {l:List Int}{m:Int}(h:mB l=some m):m∈l/\∀ y∈l,m<=y:=by
 cases l with
 | nil=>cases h
 | cons a l =>
  cases h
  obtain⟨F,B,h3⟩:=aH2 l a
  refine⟨?_,λ y hy=>?_⟩
  ·rcases F with h|h
   ·rw[h];exact av ..
   ·exact ai _ h
  ·rcases aA.mp hy with z|z
   ·rw[z];exact B
   ·exact h3 y z
theorem bn9 (G:CG Γ F n X ck){k:nh}{x:Str}(hk:mkF k=some x):FrC Γ X x k:=by
 cases k<;>cases hk
 ·refine⟨_,_,bw7,by decide,aR7 G.calm G.K,λ φ H s l ys p d s' Q R r hp B q=>?_⟩
  unfold nq at B
  dsimp only at B
  cases e:mG l with
  | none=>rw[e]at B;exact fb B
  | some is =>
   rw[e]at B
   have B:(match mB is with|some m=>DV.R.ok (DV.D.int m) s|none=>.bad)=.ok d s':=B
   cases e2:mB is with
   | none=>rw[e2]at B;exact fb B
   | some mm =>
    rw[e2]at B
    cases B
    have:=qk e
    subst this
    refine⟨p,is,rfl,SqL.of (by rw[<-r.ints];exact hp),(λ(z:is=[])=>by rw[z]at e2;cases e2),λ m B J=>?_⟩
    obtain⟨a,b⟩:=aH9 e2
    have:m=mm:=kh (J mm a) (b m B)
    rw[this]
    exact q.here R rfl RV.intI
theorem bH0 {m:lx->lv->lz (List lw)}{k:nh}{x:Str}{a:Expr}{p pos:Pos}(G:CG Γ F n X ck)(hk:mkF k=some x)(hg:ck.gl x=true)(hs:shp a=true)(h:PE X a (TFv Γ m)) :
  PE X (.Call (.Name x p) [a] [] pos) (TEv Γ (λ ρ s=>(m ρ s).bind λ l s=>nq k l s)):=by
 obtain⟨g1,J,Z⟩:=G.gl hg
 obtain⟨id,r,hb,hx,hc,hr⟩:=bn9 (Γ:=Γ) G hk
 refine(ag4 hc g1 (G.bi _ hx) hb (zJ h ad3 (zl hs)) Z J (zl hs) rfl).imp λ σ H Q q=>?_
 obtain⟨φ,ρ,s,d,s',E,R,B,q⟩:=q
 obtain⟨l,s1,e1,B⟩:=aa1 B
 exact⟨φ,ρ,s,l,_,E,R,e1,λ p ys φ1 Y g1 l1 b1 hp h0 ho r1 R1=>hr φ1 Y s1 l ys p d s' Q R1 r1 hp B (q.trans g1 l1)⟩
theorem bH1 {md:lx->lv->lz (lw)}{ml:lx->lv->lz (List lw)}{a de:Expr}{p pos kp:Pos}(G:CG Γ F n X ck)(hg:ck.gl "min"=true)(hs:shp a=true)(h:PE X a (TFv Γ ml))(hd:PE X de (TEv Γ md)) :
  PE X (.Call (.Name "min" p) [a] [⟨some "default",de,kp⟩] pos) (TEv Γ (λ ρ s=>(ml ρ s).bind λ l s=>(md ρ s).bind λ d s=>DV.mkD .min l d s)):=by
 obtain⟨g1,g2,g3⟩:=G.gl hg
 refine(bA0 rfl G.calm g1 (G.bi _ (by decide)) h hd (zl hs)).imp λ σ H Q q=>?_
 obtain⟨φ,ρ,s,d,s',E,R,B,q⟩:=q
 obtain⟨l,s1,e1,B⟩:=aa1 B
 obtain⟨d0,s2,e2,B⟩:=aa1 B
 refine⟨φ,ρ,s,l,s1,E,R,e1,λ p ys φ1 H1 g1 l1 b1 hp h0 ho r1 R1=>?_⟩
 refine⟨φ1,ρ,s1,d0,s2,E.mono g1 l1,R1,e2,λ v φ2 H2 g2 l2 b2 r2 R2=>?_⟩
 have a0:H2 p=some (.lst ys):=g2.fr p _ hp (by nofun) (λ i ob e mu=>ho i ob e mu)
 unfold DV.mkD at B
 dsimp only at B
 cases e:mG l with
 | none=>rw[e]at B;exact fb B
 | some is =>
  rw[e]at B
  have J:(match mB is with|some m=>DV.R.ok (DV.D.int m) s2|none=>DV.R.ok d0 s2)=.ok d s':=B
  have:=qk e
  subst this
  have hq:=q.trans (g1.trans g2 l1) (am l1 l2)
  refine⟨p,is,rfl,SqL.of (by rw[<-r1.ints];exact a0),λ z=>?_,λ m Z Y=>?_⟩
  ·subst z
   cases J
   exact hq.here R2 b2 r2
  ·clear e2
   cases e2:mB is with
   | none =>
    cases is with
    | nil=>cases Z
    | cons _ _=>cases e2
   | some mm =>
    rw[e2]at J
    cases J
    obtain⟨x,y⟩:=aH9 e2
    have:m=mm:=kh (Y mm x) (y m Z)
    rw[this]
    exact hq.here R2 rfl RV.intI
theorem bh7 {φ φ':Nat->Addr}{s s':lv}{H':Hp}{r:Nat}{l:List lw}(R:Rp Γ φ H s)(g:Gr φ s H φ' s' H')(hb:r<s.length)(e:s'[r]?=some (.lst l)):tyV Γ.K "list" (.ref (φ r)) H:=by
 obtain⟨B,F⟩:∃ B,s[r]?=some B:=⟨s[r],aj hb⟩
 have Y:=g.mu r B _ F e rfl
 have ho:=R.obj r B F
 cases B with
 | lst l0 =>
  obtain⟨J,G,_⟩:=ho
  exact .inl ⟨rfl,J,SqL.of G⟩
 | ro _=>cases Y
 | dic _=>have:=g.kd r _ _ F e;cases this
 | dit _=>have:=g.kd r _ _ F e;cases this
 | ins _ _=>exact ho.elim
def mtR (Γ:Gm)(m:ni):V->List V->Hp->VK->Prop:=λ x vs H Q=>∃ φ s a l d s',Rp Γ φ H s/\RV Γ φ H a x/\RVL Γ φ H l vs/\a.bnd s.length=true/\ly s.length l=true/\nA m a l s=.ok d s'/\ad9 Γ φ s H d s' Q
theorem bM5:lE<aJ:=by rw[fR];decide
theorem aI1 {m:ni}{x:Str}{k:Nat}(G:mtT m=some (x,k)){a:lw}{l:List lw}{s s':lv}{d:lw}(h:nA m a l s=.ok d s'):∃ r l0,a=.ref r/\s[r]?=some (.lst l0):=by
 have go:∀ {r:Nat} {f:List lw->lz lw},(match s[r]? with|some (.lst l)=>f l|_=>.bad)=.ok d s'->∃ l0,s[r]?=some (.lst l0):=λ {r f} h=>by
  cases e:s[r]? with
  | none=>rw[e]at h;exact fb h
  | some ob =>
   cases ob with
   | lst l0=>exact⟨l0,rfl⟩
   | _=>rw[e]at h;exact fb h
 cases a with
 | ref r =>
  have B:∀ {f:List lw->lz lw},(match s[r]? with|some (.lst l)=>f l|_=>.bad)=.ok d s'->∃ F l0,DV.D.ref r=.ref F/\s[F]?=some (.lst l0):=λ h=>by obtain⟨l0,e⟩:=go h;exact⟨_,l0,rfl,e⟩
  cases m with
  | append=>match l with
   | [d]=>exact B h
   | []=>exact fb h
   | _::_::_=>exact fb h
  | pop=>match l with
   | []=>exact B h
   | _::_=>exact fb h
  | reverse=>match l with
   | []=>exact B h
   | _::_=>exact fb h
  | clear=>match l with
   | []=>exact B h
   | _::_=>exact fb h
  | index=>match l with
   | [d]=>exact B h
   | []=>exact fb h
   | _::_::_=>exact fb h
  | _=>exact fb h
 | _=>cases m<;>exact fb h
theorem bh0:MtR X "list.append" (mtR Γ .append):=by
 intro F sh σ H x vs v us Q I Y rv h
 obtain⟨φ,s,a,l,d,s',R,ra,rl,ba,Z,B,q⟩:=h
 obtain⟨r,l0,rfl,e⟩:=aI1 (m:=.append) rfl B
 cases l with
 | nil=>exact fb B
 | cons y t =>
  cases t with
  | cons _ _=>exact fb B
  | nil =>
   simp only[nA,e]at B
   split at B
   case isFalse=>exact fb B
   rename_i hlt
   cases B
   obtain⟨z,rfl,rz⟩:=rl.one
   obtain⟨xs,h1,J⟩:=R.addr e
   have G:ly s.length l0=true:=by have:=R.wf r _ e;unfold lD at this;exact this
   refine av8 F sh σ H x [z] v us Q I Y rv ⟨φ r,xs,z,ra.refE,rfl,h1,by rw[J.length];have:=bM5;omega,?_⟩
   exact q.put R e (J.append (.cons rz .nil)) (zO G Z) rfl RV.nonI
structure MtOk (Γ:Gm)(X:Cx)(m:ni)(x:Str):Prop where
 ex:∃ id,PySem.Slot "list" x id/\jr (.builtin id)=pure (.type "method_descriptor")/\MtR X id (mtR Γ m)
theorem bF1 (hK:X.K=Γ.K)(B:Room (lJ+1) X.A){m:ni}{x:Str}{k:Nat}(h:mtT m=some (x,k)):MtOk Γ X m x:=by
 cases m<;>cases h
 ·exact⟨_,ip,PySem.F.type_list_append,bh0⟩
theorem be7 {m:ni}{o:nj}{es:lT}{ob:Expr}{J:List Expr}{x:Str}{ap cp:Pos}(G:CG Γ F n X ck)(hm:mtT m=some (x,J.length))(hab:bW5 ob=true)(hl:(ap.endLine==cp.line)=true)(ho:PE X ob (TEv Γ (lA F o)))
  (a2:mEs ck es J=true) (h:PEs Γ F X es J):EvT Γ X (.Call (.Attribute ob x ap) J [] cp) (lA F (.meth m o es)):=by
 refine .val ?_
 obtain⟨id,slot,a1,hr⟩:=(bF1 (Γ:=Γ) (X:=X) G.K (G.room.mono G.deep) hm).ex
 have hs:=aA9 a2
 have key:∀ σ H Q,TEv Γ (lA F (.meth m o es)) σ H Q->tBM Γ.K "list" (mtR Γ m) (TEv Γ (lA F o)) (TAv Γ (lZ F es)) σ H Q:=λ σ H Q q=>by
  obtain⟨φ,ρ,s,d,s',E,R,B,q⟩:=q
  obtain⟨a,s1,e1,B⟩:=aa1 B
  obtain⟨l,s2,e2,B⟩:=aa1 B
  refine⟨φ,ρ,s,a,s1,E,R,e1,λ v φ1 H1 g1 l1 Y r1 R1=>?_⟩
  obtain⟨r,l0,rfl,er⟩:=aI1 hm B
  rw[r1.refE]
  have hk:∀ φ2 H2,Gr φ1 s1 H1 φ2 s2 H2->tyV Γ.K "list" (.ref (φ1 r)) H1:=λ φ2 H2 g2=>bh7 R1 g2 (by unfold lB at Y;exact of_decide_eq_true Y) er
  have a0:TAv Γ (lZ F es) σ H1 λ J H2=>mtR Γ m (.ref (φ1 r)) J H2 Q:=by
   refine⟨φ1,ρ,s1,l,s2,E.mono g1 l1,R1,e2,λ vs φ2 H2 g2 l2 b2 r2 R2=>?_⟩
   refine⟨φ2,s2,.ref r,l,d,s',R2,?_,r2,zh l2 _ Y,b2,B,q.trans (g1.trans g2 l1) (am l1 l2)⟩
   have:=RV.mono g2 _ _ Y r1
   rw[r1.refE]at this
   exact this
  refine⟨?_,a0⟩
  have hlt:r<s1.length:=by unfold lB at Y;exact of_decide_eq_true Y
  obtain⟨o0,e0⟩:∃ o0,s1[r]?=some o0:=⟨s1[r],aj hlt⟩
  have Z:=R1.obj r o0 e0
  cases o0 with
  | lst l0 =>
   obtain⟨J,h1,_⟩:=Z
   exact .inl ⟨rfl,J,SqL.of h1⟩
  | ro l0 =>
   obtain⟨J,h1,_⟩:=Z
   exact .inl ⟨rfl,J,h1.1⟩
  | dic _ =>
   obtain⟨o',eo,ek⟩:=DV.ae4 G.fk es ρ s1 _ _ e2 r _ e0
   rw[er]at eo;cases eo;cases ek
  | dit _ =>
   obtain⟨o',eo,ek⟩:=DV.ae4 G.fk es ρ s1 _ _ e2 r _ e0
   rw[er]at eo;cases eo;cases ek
  | ins _ _=>exact Z.elim
 cases J with
 | nil =>
  have p0:PE X (.Call (.Attribute ob x ap) [] [] cp) (cb5 X.K "list" (mtR Γ m) (TEv Γ (lA F o))):=bP7 gF slot a1 hr ho (aT1 hab) hl
  rw[G.K]at p0
  refine p0.imp λ σ H Q q=>?_
  cases es with
  | cons _ _=>exact h.elim
  | nil =>
   obtain⟨φ,ρ,s,d,s',E,R,B,k⟩:=key σ H Q q
   refine⟨φ,ρ,s,d,s',E,R,B,λ v φ1 H1 g1 l1 Y r1 R1=>?_⟩
   obtain⟨h1,h2⟩:=k v φ1 H1 g1 l1 Y r1 R1
   exact⟨h1,aI2 (TAv.eq (λ ρ s=>rfl) h2)⟩
 | cons y ys =>
  refine(bI7 G.K gF slot a1 hr ho (ao1 h) (aT1 hab) ?_ hl (zl (hs y (av ..))) (zX λ e he=>hs e (ai _ he)).1).imp key
  rw[(zX hs).2]
  have:(y::ys).length<=1:=by
   unfold mtT at hm
   split at hm<;>first|(have:=ax hm;have:=congrArg Prod.snd this;simp at this;simp;omega)|cases hm
  simp only[gr,hW,k7]
  show(true&&decide ((y::ys).length+0+0<30))=true
  rw[gr]
  exact decide_eq_true (by omega)
end
section
variable {Γ:Gm} {F:lL} {n:Nat} {X:Cx} {ck:Ck} {σ:St} {H:Hp} {Q:VK}
theorem PIf.imp {e:List Expr}{t t':TT}(h:PIf X e t)(i:∀ σ H Q,t' σ H Q->t σ H Q):PIf X e t':=λ B s σ H Q I q=>h B s σ H Q I (i σ H Q q)
structure CompF (Γ:Gm)(X:Cx)(m:lx->lv->lz (List lw))(E:Expr):Prop where
 ex:∃ elt tgt iter ifs scope pos N' caps wi g tc te,E=.ListComp elt [⟨tgt,iter,ifs,0⟩] scope pos/\zS N' caps scope X.N X.env.scope=true/\PI X tgt iter wi /\
  (∀(C:Addr) (cells:List (Str×Addr)) (s:af) (H:Hp) (ex:List Addr),PG (zH X N' scope C cells s H ex) tgt g/\PIf (zH X N' scope C cells s H ex) ifs tc/\PE (zH X N' scope C cells s H ex) elt te) /\
  (∀ x,dj iter X.env x=pure x)/\∀ σ H Q,TFv Γ m σ H Q->tComp caps wi g tc te σ H Q
theorem CompF.pe {m:lx->lv->lz (List lw)}{E:Expr}(h:CompF Γ X m E)(hc:X.calm=true):PE X E (TFv Γ m):=by
 obtain⟨a0,a1,iter,J,scope,pos,N',B,wi,g,tc,te,rfl,G,Z,h3,F,Y⟩:=h.ex
 exact(aQ7 N' B G Z hc h3 F).imp Y
theorem bs4 {tg:l6}{mI:lx->lv->lz mH}{mc Z:lx->lv->lz lw}{B:List (Option Nat)}{Y J iter i:Expr}{scope:Scope}{pos:Pos}(G:CG Γ F n X ck)(hm:aM0 ck tg J iter B scope=true)
  (hi:PI X J iter (TIv Γ mI)) (hc:∀ C cells s H ex,PT (zH X (ckC ck J B scope).N scope C cells s H ex) i (TTv Γ mc)) (he:∀ C cells s H ex,PE (zH X (ckC ck J B scope).N scope C cells s H ex) Y (TEv Γ Z)) :
  CompF Γ X (λ ρ s=>(mI ρ s).bind λ q s0=>if q.its.length<=lE then mJ (λ s=>lY s0 s q.src) (λ d ρ s=>match lQ ρ tg d with
   | some ρ=>lH (mc ρ s) λ k s=>if k then(Z ρ s).bind λ v s=>.ok (some v,ρ) s else .ok (none,ρ) s
   | none=>.bad) q.its (mK ρ B) s0 else .bad) (.ListComp Y [⟨J,iter,[i],0⟩] scope pos):=by
 obtain⟨c1,c2,c3⟩:=G.comp hm
 exact⟨Y,J,iter,[i],scope,pos,_,B,_,_,_,_,rfl,c1,hi,λ C cells s H ex=>⟨(c3 C cells s H ex).2,bv5 (hc C cells s H ex),he C cells s H ex⟩,ar2 c2,λ σ H Q q=>aQ6 q⟩
theorem bi0 {tg:l6}{mI:lx->lv->lz mH}{me:lx->lv->lz lw}{B:List (Option Nat)}{Y J iter:Expr}{scope:Scope}{pos:Pos}(G:CG Γ F n X ck)(Z:aM0 ck tg J iter B scope=true)
  (hi:PI X J iter (TIv Γ mI)) (he:∀ C cells s H ex,PE (zH X (ckC ck J B scope).N scope C cells s H ex) Y (TEv Γ me)) :
  CompF Γ X (λ ρ s=>(mI ρ s).bind λ q s0=>if q.its.length<=lE then mJ (λ s=>lY s0 s q.src) (λ d ρ s=>match lQ ρ tg d with
   | some ρ=>(me ρ s).bind λ v s=>.ok (some v,ρ) s
   | none=>.bad) q.its (mK ρ B) s0 else .bad) (.ListComp Y [⟨J,iter,[],0⟩] scope pos):=by
 obtain⟨c1,c2,c3⟩:=G.comp Z
 refine⟨Y,J,iter,[],scope,pos,_,B,_,_,TTv Γ (λ ρ s=>.ok (.bl true) s),_,rfl,c1,hi,λ C cells s H ex=>⟨(c3 C cells s H ex).2,bp1.imp λ σ H Q q=>?_,he C cells s H ex⟩,ar2 c2,λ σ H Q q=>aQ6 (TFv.eq (λ ρ s=>?_) q)⟩
 ·obtain⟨φ,ρ,s,b,s',E,R,Z,q⟩:=q
  cases Z
  exact q φ H (Gr.refl _ _ _) (ak _) R
 ·congr 1
theorem bn5 {tg:Expr}{e:nj}{E:Expr}(G:CG Γ F n X ck)(h:PE X E (TEv Γ (lA F e))):PI X tg E (TIv Γ (mY F (.seq e))):=by
 refine(PI.or (bA3 G.K h) (PI.or (ba4 G.K h) (bP0 h))).imp λ σ H R q=>bN2 (TIv.eq (λ ρ s=>rfl) q)
theorem bg5 {tg:Expr}{a:nj}{l:Expr}{p pos:Pos}(G:CG Γ F n X ck)(hg:ck.gl "range"=true)(hs:shp l=true)(h:PE X l (TEv Γ (lA F a))):PI X tg (.Call (.Name "range" p) [l] [] pos) (TIv Γ (mY F (.rng1 a))) :=
 (aS7 (G.gl hg).1 (G.bi _ (by decide)) (zJ h ad3 (zl hs)) (zl hs)).imp λ σ H R q=>by5 (TIv.eq (λ ρ s=>rfl) q)
theorem bq1 {mk mv:lx->lv->lz lw}(h:TEv Γ (λ ρ s=>(mk ρ (s++[.dit []])).bind λ kd s1=>(mv ρ s1).bind λ G s2=>if kd.keyT=true/\s2[s.length]?=some (.dit [])then .ok (.ref s.length) (s2.set s.length (.dit [(kd,G)]))else .bad) σ H Q):bm1 (TEv Γ mk) (TEv Γ mv) σ H Q:=by
 obtain⟨φ,ρ,s,d,s',E,R,F,q⟩:=h
 obtain⟨kd,s1,e1,F⟩:=aa1 F
 obtain⟨G,s2,e2,F⟩:=aa1 F
 split at F
 case isFalse=>exact fb F
 rename_i hc
 cases F
 intro p hp
 obtain⟨g0,R0⟩:=R.new (o:=.dit []) (u:=.dT []) hp rfl λ φ' H' g e=>⟨[],e,rfl⟩
 have l0:s.length<=(s++[DV.O.dit []]).length:=by simp
 refine⟨_,ρ,s++[DV.O.dit []],kd,s1,E.mono g0 l0,R0,e1,λ v1 φ1 H1 g1 l1 b1 r1 R1=>?_⟩
 refine⟨φ1,ρ,s1,G,s2,(E.mono g0 l0).mono g1 l1,R1,e2,λ v2 φ2 H2 J Z b2 r2 R2=>?_⟩
 have B:φ2 s.length=p:=by
  rw[J.w.map s.length (ay (by simp) l1),g1.w.map s.length (by simp)];simp
 obtain⟨k,hk⟩:=ag5 hc.1
 obtain⟨kb,ek,nk⟩:=aq2 hk (RV.mono J kd v1 b1 r1)
 obtain⟨Y,z1,z2⟩:=R2.obj s.length _ hc.2
 have z2:Y=[]:=z2
 subst z2
 rw[B]at z1
 refine⟨z1,kb,k,ek,nk,?_⟩
 have hb:(DV.O.dit [(kd,G)]).bnd s2.length=true:=by
  unfold lD
  simp only[aS,gS,ly,jk,ag]
  exact⟨zh Z _ b1,b2⟩
 obtain⟨g3,R3⟩:=R2.set (o:=.dit [(kd,G)]) (u:=.dT [(k,v2)]) hc.2 rfl hb λ H' g e=>⟨_,e,k,v2,[],rfl,hk,RV.monoW g _ _ b2 r2,rfl⟩
 rw[B]at g3 R3
 have L:s.length<=s2.length:=am l0 (am l1 Z)
 have lt:s.length<s2.length:=ay (by simp) (am l1 Z)
 exact q (.ref p) _ _ (((g0.trans g1 l0).trans J (am l0 l1)).trans g3 L) (by rw[bp];exact L) (by unfold lB;rw[bp];exact decide_eq_true lt) (by unfold RV;rw[B]) R3
section
variable {c:String} {kvs:List (List Nat×List Nat)} {a:Addr}
end
end
section
variable {Γ:Gm} {F:lL} {n:Nat} {X:Cx} {ck:Ck}
end
section
variable {Γ:Gm} {F:lL} {n:Nat} {X:Cx} {ck:Ck}
def TJv (Γ:Gm)(m:lx->lv->lz (List lw))(out:List Nat):TE:=λ σ H Q=>∃ φ ρ s l s' ws,RE Γ φ H s.length ρ σ/\Rp Γ φ H s/\m ρ s=.ok l s'/\mZ l=some ws/\(out++ws.flatten).length<=lE /\
 ∀ φ' H',Gr φ s H φ' s' H'->s.length<=s'.length->Rp Γ φ' H' s'->Q (.str ⟨(out++ws.flatten).toArray⟩) H'
def PF (Γ:Gm)(X:Cx)(vs:List Expr)(m:lx->lv->lz (List lw)):Prop :=
 ∀(out:List Nat) (pins:List (Addr×Obj)) (s:af) (σ:St) (H:Hp) (Q:VK),Inv X pins σ H s->TJv Γ m out σ H Q->wpAny (model X.prog X.w) X.A (joinParts ⟨out.toArray⟩ (evalEach vs X.env)) (EP X pins σ Q) X.xe s
theorem PF.eq {vs:List Expr}{m m':lx->lv->lz (List lw)}(e:∀ ρ s,m ρ s=m' ρ s)(h:PF Γ X vs m):PF Γ X vs m':=λ out B s σ H Q I q=>by
 obtain⟨φ,ρ,s0,l,s',ws,E,R,F,q⟩:=q
 exact h out B s σ H Q I ⟨φ,ρ,s0,l,s',ws,E,R,by rw[e];exact F,q⟩
theorem aD1 (w:List Nat):(⟨w.toArray⟩:Str).length=w.length:=by simp[Str.length]
theorem bQ1:PF Γ X [] (λ _ s=>.ok [] s):=λ out B s σ H Q I q=>by
 obtain⟨φ,ρ,s0,l,s',ws,E,R,F,hw,hl,q⟩:=q
 cases F
 cases hw
 rw[List.flatten_nil,bh]at q hl
 exact joinParts_nilE (joinParts_nil ⟨.str ⟨out.toArray⟩,H,I.tok _,⟨_,rfl⟩,q φ H (Gr.refl _ _ _) (ak _) R⟩ (by rw[aD1];exact am hl zM))
theorem aO6 {d:lw}{l:List lw}{ws:List (List Nat)}(h:mZ (d::l)=some ws):∃ w B,d=.str w/\mZ l=some B/\ws=w::B:=by
 cases d with
 | str w =>
  have h:(mZ l).map (w::·)=some ws:=h
  cases e:mZ l with
  | none=>rw[e]at h;cases h
  | some B=>rw[e]at h;cases h;exact⟨w,B,rfl,rfl,rfl⟩
 | _=>cases h
theorem aP8 {v:Expr}{vs:List Expr}{m1:lx->lv->lz lw}{m2:lx->lv->lz (List lw)}(h2:PF Γ X vs m2)
  (h1:∀(B:List (Addr×Obj)) (s:af) (σ:St) (H:Hp) (w:List Nat) (Q:VK),w.length<=lE->Inv X B σ H s->TEv Γ m1 σ H (λ x F=>x=.str ⟨w.toArray⟩/\Q x F) ->
   wpAny (model X.prog X.w) X.A (eval v X.env) (λ u s1=>∃ t F,u=.str ⟨w.toArray⟩ t/\Inv X B σ F s1/\Q (.str ⟨w.toArray⟩) F) X.xe s) :
  PF Γ X (v::vs) (λ ρ s=>(m1 ρ s).bind λ d s=>(m2 ρ s).bind λ l s=>.ok (d::l) s):=λ out B s σ H Q I q=>by
 obtain⟨φ,ρ,s0,l,s',ws,E,R,Y,hw,hl,q⟩:=q
 obtain⟨d,s1,e1,Y⟩:=aa1 Y
 obtain⟨l2,s2,e2,Y⟩:=aa1 Y
 cases Y
 obtain⟨w,a0,rfl,a1,rfl⟩:=aO6 hw
 rw[cJ,<-dk]at hl q
 have G:(out++w).length<=lE:=by rw[aE]at hl;omega
 have J:w.length<=lE:=by rw[aE]at G;omega
 refine joinParts_consE (joinParts_cons (a8 (h1 B s σ H w (λ x F=>∃ φ1,Gr φ s0 H φ1 s1 F/\s0.length<=s1.length/\Rp Γ φ1 F s1) J I ⟨φ,ρ,s0,.str w,s1,E,R,e1,λ v φ1 F g1 l1 b1 r1 R1=>⟨r1.strE,φ1,g1,l1,R1⟩⟩) (λ u Z hu=>?_) λ _ _ x=>x))
 obtain⟨t,F,rfl,I1,φ1,g1,l1,R1⟩:=hu
 show(_++_:Str).length<=aJ/\_
 rw[aU0]
 refine⟨by rw[aD1];exact am G zM,h2 (out++w) B Z σ F Q I1 ⟨φ1,ρ,s1,l2,s',a0,E.mono g1 l1,R1,e2,a1,hl,λ φ2 H2 g2 l2 R2=>q φ2 H2 (g1.trans g2 l1) (am l1 l2) R2⟩⟩
theorem bm2 {v:Expr}{G:lx->lv->lz lw}(hv:PE X v (TEv Γ G))(B:List (Addr×Obj))(s:af)(σ:St)(H:Hp)(w:List Nat)(Q:VK)(I:Inv X B σ H s)(q:TEv Γ G σ H (λ x F=>x=.str ⟨w.toArray⟩/\Q x F)) :
  wpAny (model X.prog X.w) X.A (eval v X.env) (λ u s1=>∃ t F,u=.str ⟨w.toArray⟩ t/\Inv X B σ F s1/\Q (.str ⟨w.toArray⟩) F) X.xe s :=
 a8 (hv B s σ H _ I q) (λ u s1 hu=>by
  obtain⟨x,F,Z,Y,ex,J⟩:=hu
  subst ex
  obtain⟨t,rfl⟩:=(show ∃ t,u=Value.str ⟨w.toArray⟩ t from Y)
  exact⟨t,F,rfl,Z,J⟩) λ _ _ x=>x
theorem bR2 {v:Expr}{p:Pos}{vs:List Expr}{F:lx->lv->lz lw}{G:lx->lv->lz (List lw)}(hv:PE X v (TEv Γ F))(J:PF Γ X vs G) :
  PF Γ X (.FormattedValue v (-1) none p::vs) (λ ρ s=>(F ρ s).bind λ d s=>(G ρ s).bind λ l s=>.ok (d::l) s) :=
 aP8 J λ B s σ H w Q hw I q=>FormattedValue_plain (a8 (bm2 hv B s σ H w Q I q) (λ u s1 hu=>by
  obtain⟨t,Z,rfl,I1,Y⟩:=hu
  exact formatField_str (λ t' tk=>⟨t',Z,rfl,I1.tok tk,Y⟩) (by rw[aD1];exact am hw zM)) λ _ _ x=>x)
theorem bR5 {v:Expr}{vs:List Expr}{G:lx->lv->lz lw}{F:lx->lv->lz (List lw)}(hv:PE X v (TEv Γ G))(J:PF Γ X vs F) :
  PF Γ X (v::vs) (λ ρ s=>(G ρ s).bind λ d s=>(F ρ s).bind λ l s=>.ok (d::l) s) :=
 aP8 J λ B s σ H w Q hw I q=>bm2 hv B s σ H w Q I q
end
section
variable {Γ:Gm} {F:lL} {n:Nat}
theorem bP5 {X:Cx}{c:DV.Cn}{v:Const}{k:Nat}{pos:Pos}(h:mC c v=true):EvT Γ X (.Constant v k pos) (lA F (.cst c)):=by
 refine .val ?_
 unfold mC at h
 split at h
 ·exact aW2.imp λ σ H Q q=>ax4 (c:=.non) (λ _=>rfl) (λ _ _=>RV.nonI) (TEv.eq (λ ρ s=>rfl) q)
 ·rename_i b c
  have e:=eq_of_beq h
  subst e
  exact bZ1.imp λ σ H Q q=>ax4 (c:=.bl b) (λ _=>rfl) (λ _ _=>RV.blI) (TEv.eq (λ ρ s=>rfl) q)
 ·rename_i i j
  have e:=of_decide_eq_true h
  subst e
  exact bC8.imp λ σ H Q q=>ax4 (c:=.int i) (λ _=>rfl) (λ _ _=>RV.intI) (TEv.eq (λ ρ s=>rfl) q)
 ·rename_i x y
  rw[ag]at h
  have e:=of_decide_eq_true h.1
  have e2:=of_decide_eq_true h.2
  subst e
  exact bm0.imp λ σ H Q q=>ax4 (c:=.str x) (λ _=>rfl) (λ _ _=>RV.strI (by unfold lE;omega)) (TEv.eq (λ ρ s=>rfl) q)
 ·cases h
theorem bp9 {X:Cx}{ck:Ck}{es:lT}{B:List Expr}{pos:Pos}(m:mEs ck es B=true)(hz:B.length<=1000)(h:PA X B (TAv Γ (lZ F es))):PE X (.List B pos) (TFv Γ (DV.evL F (.disp es))):=by
 refine(bm6 h).imp λ σ H Q q=>?_
 obtain⟨φ,ρ,s,l,s',E,R,Y,q⟩:=q
 refine⟨φ,ρ,s,l,s',E,R,Y,λ vs φ1 J g1 l1 Z r1 R1=>⟨by rw[r1.length,aq0 Y m];exact aG7 hz,λ p hp=>?_⟩⟩
 obtain⟨G,R2⟩:=R1.same (H':=upd J p (.lst vs)) ((ad0.refl J).new hp)
 refine q p vs φ1 _ (g1.trans G l1) l1 Z zu ?_ (Off.new R1 hp) (RVL.mono G _ _ Z r1) R2
 cases e:H p with
 | none=>rfl
 | some o=>exact absurd hp (g1.st p (by rw[e];simp))
theorem CompF.eq {X:Cx}{m m':lx->lv->lz (List lw)}{E:Expr}(c:CompF Γ X m E)(e:∀ ρ s,m' ρ s=m ρ s):CompF Γ X m' E:=by
 have:m'=m:=funext λ ρ=>funext λ s=>e ρ s
 subst this;exact c
theorem zd {a b:Bool}(h:(a&&b)=true):a=true/\b=true:=by rw[ag]at h;exact h
theorem bs3 {X:Cx}{J:Ck}{g:String}{p:Pos}(G:CG Γ F n X J)(h:J.gl (g:Str)=true):EvT Γ X (.Name (g:Str) p) (lA F (.glob g)):=by
 refine .val ?_
 obtain⟨g1,Z,g3⟩:=G.gl h
 cases e:F.con g with
 | none =>
  intro Y s σ H Q I q
  obtain⟨φ,ρ,s,d,s',E,R,B,q⟩:=q
  have B:(match F.con g with|some d=>DV.R.ok d s|none=>.bad)=.ok d s':=B
  rw[e]at B
  cases B
 | some d =>
  obtain⟨v,u,h1,h2,h3,h4⟩:=G.con g d e
  exact(al7 g1 h1 h2 Z).imp λ σ H Q q=>ax4 (c:=d) h3 h4 (TEv.eq (λ ρ s=>by show(match F.con g with|some d=>DV.R.ok d s|none=>.bad)=DV.R.ok d s;rw[e]) q)
theorem bG0 {X:Cx}{B:Ck}{i:Nat}{x:Str}{p:Pos}(G:CG Γ F n X B)(h:B.var i x=true):EvT Γ X (.Name x p) (lA F (.var i)):=by
 refine .val ?_
 unfold Ck.var at h
 obtain⟨h,Y⟩:=zd h
 obtain⟨h,h3⟩:=zd h
 obtain⟨Z,J⟩:=zd h
 have e1:(x==("__debug__":Str))=false:=by simpa using h3
 have e2:(x==("__classdict__":Str))=false:=by simpa using Y
 exact(aG4 (by rw[G.N];exact of_decide_eq_true Z) (G.vis J) e1 e2).imp λ σ H Q q=>bE7 i (TEv.eq (λ ρ s=>rfl) q)
theorem aF1 {X:Cx}{E:Expr}{m:lx->lv->lz lw}(h:∀ ρ s,m ρ s=.bad):EvT Γ X E m:=by
 refine⟨λ B s σ H Q I q=>?_,λ B s σ H Q I q=>?_⟩
 ·obtain⟨φ,ρ,s,d,s',E,R,F,q⟩:=q
  rw[h]at F;exact fb F
 ·obtain⟨φ,ρ,s,d,s',E,R,F,q⟩:=q
  rw[h]at F;exact fb F
inductive LK (Γ:Gm)(X:Cx)(m:lx->lv->lz (List lw))(E:Expr)(k:Nat):Prop where
 | c (h:CompF Γ X m E):LK Γ X m E k
 | f (hk:1<=k) (h:PE X E (TFv Γ m)):LK Γ X m E k
 | s (hk:k=2) (h:PE X E (TLv Γ m)):LK Γ X m E k
theorem bD7 {X:Cx}{m:lx->lv->lz (List lw)}{E:Expr}(h:LK Γ X m E 0):CompF Γ X m E:=by
 cases h with
 | c h=>exact h
 | f hk h=>omega
 | s hk h=>omega
theorem bG5 {X:Cx}{B:Ck}{m:lx->lv->lz (List lw)}{E:Expr}(G:CG Γ F n X B)(h:LK Γ X m E 1):PE X E (TFv Γ m):=by
 cases h with
 | c h=>exact h.pe G.calm
 | f hk h=>exact h
 | s hk h=>omega
theorem ca7 {X:Cx}{B:Ck}{m:lx->lv->lz (List lw)}{E:Expr}(G:CG Γ F n X B)(h:LK Γ X m E 2):PE X E (TLv Γ m):=by
 cases h with
 | c h=>exact(h.pe G.calm).imp λ σ H Q q=>aF9 q
 | f hk h=>exact h.imp λ σ H Q q=>aF9 q
 | s hk h=>exact h
theorem biOk_inv {B:Ck}{b:mq}{x:Str}{F:List Expr}{es:lT}(h:bR8 B b x F (mEs B es F) (mEs B es (F.take 1))=true) :
  (∃ k t a y Y,biK b=some (k,t)/\F=[a,.Name y Y]/\x=("isinstance":Str)/\y=t/\B.gl x=true/\B.gl y=true/\mEs B es [a]=true)\/∃ a ys,F=a::ys/\biT b=some x/\B.gl x=true/\mEs B es (a::ys)=true:=by
 unfold bR8 at h
 cases hk:biK b with
 | none =>
  rw[hk]at h
  cases F with
  | nil=>exact ff h
  | cons a ys =>
   obtain⟨h,h3⟩:=zd h
   obtain⟨J,G⟩:=zd h
   exact .inr ⟨a,ys,rfl,of_decide_eq_true J,G,h3⟩
 | some p =>
  rw[hk]at h
  cases F with
  | nil=>exact ff h
  | cons a ys=>cases ys with
   | nil=>exact ff h
   | cons b ys=>cases b with
    | Name y Y=>cases ys with
     | nil =>
      obtain⟨h,Z⟩:=zd h
      obtain⟨h,h4⟩:=zd h
      obtain⟨h,h3⟩:=zd h
      obtain⟨J,G⟩:=zd h
      exact .inl ⟨p.1,p.2,a,y,Y,rfl,rfl,of_decide_eq_true J,of_decide_eq_true h3,G,h4,Z⟩
     | cons _ _=>exact ff h
    | _=>exact ff h
mutual
theorem sE:∀(e:nj) (E:Expr) (X:Cx) (B:Ck),CG Γ F n X B->mE B e E=true->EvT Γ X E (lA F e)
 | .var i,E,X,B,G,h=>by
  cases E with
  | Name x p =>
   exact bG0 G h
  | _=>exact ff h
 | .cst c,E,X,B,G,h=>by
  cases E with
  | Constant v k p =>
   exact bP5 h
  | _=>exact ff h
 | .glob g,E,X,B,G,h=>by
  cases E with
  | Name x p =>
   obtain⟨Y,J⟩:=zd h
   have e:=of_decide_eq_true Y
   subst e
   exact bs3 G J
  | _=>exact ff h
 | .bin op a b,E,X,B,G,h=>by
  cases E with
  | BinOp l o r pE =>
   obtain⟨h,h3⟩:=zd h
   obtain⟨Y,J⟩:=zd h
   have e:=of_decide_eq_true Y
   subst e
   exact bp8 G op (sE a _ X B G J) (sE b _ X B G h3)
  | _=>exact ff h
 | .neg a,E,X,B,G,h=>by
  cases E with
  | UnaryOp o l p =>
   cases o with
   | USub =>
    exact bz0 (sE a _ X B G h)
   | _=>exact ff h
  | _=>exact ff h
 | .not a,E,X,B,G,h=>by
  cases E with
  | UnaryOp o l p =>
   cases o with
   | Not =>
    exact bu2 (sE a _ X B G h)
   | _=>exact ff h
  | _=>exact ff h
 | .cmp op a b,E,X,B,G,h=>by
  cases E with
  | Compare l os rs pE =>
   cases os with
   | cons o os_0 =>
    cases os_0 with
    | nil =>
     cases rs with
     | cons r rs_0 =>
      cases rs_0 with
      | nil =>
       obtain⟨h,h3⟩:=zd h
       obtain⟨Y,J⟩:=zd h
       have e:=of_decide_eq_true Y
       subst e
       exact by7 G op (aF0 h3) (sE a _ X B G J) (sE b _ X B G h3)
      | _=>exact ff h
     | _=>exact ff h
    | _=>exact ff h
   | _=>exact ff h
  | _=>exact ff h
 | .chain _ _ _ _ _,E,X,B,G,h=>ff h
 | .isN a,E,X,B,G,h=>by
  cases E with
  | Compare l os rs pE =>
   cases os with
   | cons o os1 =>
    cases o with
    | Is =>
     cases os1 with
     | nil =>
      cases rs with
      | cons r rs1 =>
       cases r with
       | Constant v k p1 =>
        cases v with
        | none =>
         cases rs1 with
         | nil =>
          exact bp3 (sE a _ X B G h)
         | _=>exact ff h
        | _=>exact ff h
       | _=>exact ff h
      | _=>exact ff h
     | _=>exact ff h
    | _=>exact ff h
   | _=>exact ff h
  | _=>exact ff h
 | .notN a,E,X,B,G,h=>by
  cases E with
  | Compare l os rs pE =>
   cases os with
   | cons o os1 =>
    cases o with
    | IsNot =>
     cases os1 with
     | nil =>
      cases rs with
      | cons r rs1 =>
       cases r with
       | Constant v k p1 =>
        cases v with
        | none =>
         cases rs1 with
         | nil =>
          exact be3 (sE a _ X B G h)
         | _=>exact ff h
        | _=>exact ff h
       | _=>exact ff h
      | _=>exact ff h
     | _=>exact ff h
    | _=>exact ff h
   | _=>exact ff h
  | _=>exact ff h
 | .isB _ _,E,X,B,G,h=>ff h
 | .notB _ _,E,X,B,G,h=>ff h
 | .and a b,E,X,B,G,h=>by
  cases E with
  | BoolOp op vs p=>cases op with
   | And =>
    cases vs with
    | nil=>exact ff h
    | cons l vs=>cases vs with
     | nil=>exact ff h
     | cons r vs=>cases vs with
      | nil =>
       obtain⟨Y,J⟩:=zd h
       exact bu6 (sE a _ X B G Y) (sE b _ X B G J)
      | cons r2 vs =>
       obtain⟨Y,J⟩:=zd h
       exact bz4 (sE a _ X B G Y) (sE b _ X B G J)
   | _=>exact ff h
  | _=>exact ff h
 | .or a b,E,X,B,G,h=>by
  cases E with
  | BoolOp op vs p=>cases op with
   | Or =>
    cases vs with
    | nil=>exact ff h
    | cons l vs=>cases vs with
     | nil=>exact ff h
     | cons r vs=>cases vs with
      | nil =>
       obtain⟨Y,J⟩:=zd h
       exact bJ3 (sE a _ X B G Y) (sE b _ X B G J)
      | cons r2 vs =>
       obtain⟨Y,J⟩:=zd h
       exact bJ1 (sE a _ X B G Y) (sE b _ X B G J)
   | _=>exact ff h
  | _=>exact ff h
 | .ite c a b,E,X,B,G,h=>by
  cases E with
  | IfExp tE l r pE =>
   obtain⟨h,h3⟩:=zd h
   obtain⟨Y,J⟩:=zd h
   exact bt7 (sE c _ X B G Y) (sE a _ X B G J) (sE b _ X B G h3)
  | _=>exact ff h
 | .tup es,E,X,B,G,h=>by
  cases E with
  | Tuple xs k p =>
   obtain⟨Y,J⟩:=zd h
   exact bs1 Y (of_decide_eq_true J) (ao1 (sEs es _ X B G Y))
  | _=>exact ff h
 | .lst es,E,X,B,G,h=>by
  cases E with
  | List xs p =>
   obtain⟨Y,J⟩:=zd h
   exact bz8 Y (of_decide_eq_true J) (ao1 (sEs es _ X B G Y))
  | _=>exact ff h
 | .dic .nil .nil,E,X,B,G,h=>ff h
 | .dic (.cons k .nil) (.cons v .nil),E,X,B,G,h=>ff h
 | .dic .nil (.cons _ _),E,X,B,G,h=>aF1 λ _ _=>rfl
 | .dic (.cons _ .nil) .nil,E,X,B,G,h=>aF1 λ _ _=>rfl
 | .dic (.cons _ .nil) (.cons _ (.cons _ _)),E,X,B,G,h=>aF1 λ _ _=>rfl
 | .dic (.cons _ (.cons _ _)) _,E,X,B,G,h=>aF1 λ _ _=>rfl
 | .bitl _,E,X,B,G,h=>ff h
 | .fstr _,E,X,B,G,h=>ff h
 | .inC _ _,E,X,B,G,h=>ff h
 | .getC _ _,E,X,B,G,h=>ff h
 | .lrng _,E,X,B,G,h=>ff h
 | .dicU k v,E,X,B,G,h=>by
  cases E with
  | Dict a b p=>cases a with
   | nil=>exact ff h
   | cons x a=>cases x with
    | none=>cases a with|nil=>exact ff h|_=>exact ff h
    | some x=>cases a with
     | nil=>cases b with
      | nil=>exact ff h
      | cons y b=>cases b with
       | nil =>
        obtain⟨Y,J⟩:=zd h
        exact .val ((bc7 (Nat.lt_of_succ_lt (ai2 G.room)) (sE k _ X B G Y).1 (sE v _ X B G J).1).imp λ σ H Q q=>bq1 (TEv.eq (λ ρ s=>rfl) q))
       | _=>exact ff h
     | _=>exact ff h
  | _=>exact ff h
 | .dicT,E,X,B,G,h=>ff h
 | .get2 _ _ _,E,X,B,G,h=>ff h
 | .ix a b,E,X,B,G,h=>by
  cases E with
  | Subscript o i p =>
   obtain⟨Y,J⟩:=zd h
   exact bD1 G (aF0 J) (sE a _ X B G Y) (sE b _ X B G J)
  | _=>exact ff h
 | .slL _ _,E,X,B,G,h=>ff h
 | .slU a hi,E,X,B,G,h=>by
  cases E with
  | Subscript o i p =>
   cases i with
   | Slice lo hi st p2 =>
    cases lo with
    | none =>
     cases hi with
     | some l =>
      cases st with
      | none =>
       obtain⟨Y,J⟩:=zd h
       exact bt6 G (sE a _ X B G Y) (sE hi _ X B G J)
      | _=>exact ff h
     | _=>exact ff h
    | _=>exact ff h
   | _=>exact ff h
  | _=>exact ff h
 | .slLU _ _ _,E,X,B,G,h=>ff h
 | .rev _,E,X,B,G,h=>ff h
 | .call f as,E,X,B,G,h=>by
  cases E with
  | Call fE xs kw p =>
   cases fE with
   | Name x pN =>
    cases kw with
    | nil =>
     obtain⟨h,h3⟩:=zd h
     obtain⟨Y,J⟩:=zd h
     have e:=of_decide_eq_true Y
     subst e
     exact bf8 G J h3 (sAs as _ X B G h3)
    | _=>exact ff h
   | _=>exact ff h
  | _=>exact ff h
 | .callC _ _,E,X,B,G,h=>ff h
 | .callV _ _,E,X,B,G,h=>ff h
 | .bi b es,E,X,B,G,h=>by
  cases E with
  | Call fE xs kw p =>
   cases fE with
   | Name x pN =>
    cases kw with
    | nil =>
     have h:bR8 B b x xs (mEs B es xs) (mEs B es (xs.take 1))=true:=h
     rcases biOk_inv h with⟨k,t,a,y,py,hk,rfl,rfl,rfl,J,Z,h5⟩|⟨a,ys,rfl,Y,J,h3⟩
     ·exact bw2 G hk J Z (sEs es _ X B G h5)
     ·exact bK4 G Y J h3 (ao1 (sEs es _ X B G h3))
    | _=>exact ff h
   | _=>exact ff h
  | _=>exact ff h
 | .mk k l,E,X,B,G,h=>by
  cases E with
  | ListComp e gs sc p =>
   obtain⟨Y,J⟩:=zd h
   have e:=of_decide_eq_true Y
   subst e
   exact .val (((bD7 (sL l _ X B G 0 J)).pe G.calm).imp λ σ H Q q=>aY4 (TEv.eq (λ ρ s=>rfl) q))
  | Call fE xs kw p =>
   cases fE with
   | Name x pN =>
    cases xs with
    | cons a xs_0 =>
     cases xs_0 with
     | nil =>
      cases kw with
      | nil =>
       obtain⟨h,Z⟩:=zd h
       obtain⟨J,h3⟩:=zd h
       rw[bK]at Z
       rcases Z with Z|Z
       ·obtain⟨h5,h6⟩:=zd Z
        exact .val ((bG3 G (of_decide_eq_true h5) J h3 (ca7 G (sL l _ X B G 2 h6))).imp λ σ H Q q=>TEv.eq (λ ρ s=>rfl) q)
       ·obtain⟨h5,h6⟩:=zd Z
        exact .val ((bH0 G (of_decide_eq_true h5) J h3 (bG5 G (sL l _ X B G 1 h6))).imp λ σ H Q q=>TEv.eq (λ ρ s=>rfl) q)
      | _=>exact ff h
     | _=>exact ff h
    | _=>exact ff h
   | _=>exact ff h
  | _=>exact ff h
 | .mks _ _,E,X,B,G,h=>ff h
 | .mkDs _ _ _,E,X,B,G,h=>ff h
 | .minK _ _ _,E,X,B,G,h=>ff h
 | .mkD k l d,E,X,B,G,h=>by
  cases E with
  | Call fE xs kw p =>
   cases fE with
   | Name x pN =>
    cases xs with
    | cons a xs_0 =>
     cases xs_0 with
     | nil =>
      cases kw with
      | cons kk kw1 =>
       cases kk with
       | mk ky de kp =>
        cases ky with
        | some y =>
         cases kw1 with
         | nil =>
          obtain⟨h,h7⟩:=zd h
          obtain⟨h,h6⟩:=zd h
          obtain⟨h,h5⟩:=zd h
          obtain⟨h,h3⟩:=zd h
          obtain⟨Y,J⟩:=zd h
          have e3:=of_decide_eq_true J
          subst e3
          obtain⟨e,e2⟩:=zd Y
          have e:=of_decide_eq_true e
          have e2:=of_decide_eq_true e2
          subst e e2
          exact .val ((bH1 G h3 h5 (bG5 G (sL l _ X B G 1 h6)) (sE d _ X B G h7).1).imp λ σ H Q q=>TEv.eq (λ ρ s=>rfl) q)
         | _=>exact ff h
        | _=>exact ff h
      | _=>exact ff h
     | _=>exact ff h
    | _=>exact ff h
   | _=>exact ff h
  | _=>exact ff h
 | .meth m o es,E,X,B,G,h=>by
  cases E with
  | Call fE xs kw p =>
   cases fE with
   | Attribute ob x ap =>
    cases kw with
    | nil =>
     obtain⟨h,h5⟩:=zd h
     obtain⟨h,Z⟩:=zd h
     obtain⟨h,h3⟩:=zd h
     obtain⟨Y,J⟩:=zd h
     exact be7 G (of_decide_eq_true Y) J h3 (sE o _ X B G Z).1 h5 (sEs es _ X B G h5)
    | _=>exact ff h
   | _=>exact ff h
  | _=>exact ff h
 | .ext _ _,E,X,B,G,h=>ff h
 | .extS _ _,E,X,B,G,h=>ff h
 | .spl _ _,E,X,B,G,h=>ff h
 | .join _ _,E,X,B,G,h=>ff h
theorem sEs:∀(es:lT) (B:List Expr) (X:Cx) (J:Ck),CG Γ F n X J->mEs J es B=true->PEs Γ F X es B
 | .nil,B,X,J,G,h=>by
  cases B with
  | nil =>
   exact trivial
  | _=>exact ff h
 | .cons e es,B,X,J,G,h=>by
  cases B with
  | cons x B =>
   obtain⟨h,h3⟩:=zd h
   obtain⟨Z,Y⟩:=zd h
   exact⟨⟨Y,sE e _ X J G Z⟩,sEs es _ X J G h3⟩
  | _=>exact ff h
theorem sFs:∀(es:lT) (J:List Expr) (X:Cx) (B:Ck),CG Γ F n X B->mFs B es J=true->PF Γ X J (lZ F es)
 | .nil,J,X,B,G,h=>by
  cases J with
  | nil=>exact(bQ1).eq λ _ _=>rfl
  | _=>exact ff h
 | .cons e es,J,X,B,G,h=>by
  cases J with
  | cons x J =>
   cases x with
   | FormattedValue v c sp p =>
    cases sp with
    | none =>
     obtain⟨h,h3⟩:=zd h
     obtain⟨Z,Y⟩:=zd h
     have e1:=of_decide_eq_true Z
     subst e1
     exact(bR2 (sE e _ X B G Y).1 (sFs es _ X B G h3)).eq λ _ _=>rfl
    | _=>exact ff h
   | Constant v j p =>
    obtain⟨Z,Y⟩:=zd h
    exact(bR5 (sE e _ X B G Z).1 (sFs es _ X B G Y)).eq λ _ _=>rfl
   | _=>exact ff h
  | _=>exact ff h
theorem sAs:∀(es:mM) (B:List Expr) (X:Cx) (J:Ck),CG Γ F n X J->mAs J es B=true->PA X B (TAv Γ (mf F es))
 | .nil,B,X,J,G,h=>by
  cases B with
  | nil =>
   exact ad3.imp λ σ H Q q=>aI2 (TAv.eq (λ ρ s=>rfl) q)
  | _=>exact ff h
 | .ex e es,B,X,J,G,h=>by
  cases B with
  | cons x B =>
   obtain⟨h,h3⟩:=zd h
   obtain⟨Z,Y⟩:=zd h
   exact(aF8 Y (sE e _ X J G Z).1 (sAs es _ X J G h3)).imp λ σ H Q q=>TAv.eq (λ ρ s=>rfl) q
  | _=>exact ff h
 | .lam _ _ _,B,X,J,G,h=>ff h
 | .fn _ _,B,X,J,G,h=>ff h
theorem cg5:∀(es:mM) (B:List Expr) (X:Cx) (J:Ck),CG Γ F n X J->cc7 J es B=true->PA X B (TAp Γ X.env.cells X.N (mf F es))
 | .nil,B,X,J,G,h=>by
  cases B with
  | nil =>
   exact ad3.imp λ σ H Q q=>br9 (TAp.eq (λ ρ s=>rfl) q)
  | _=>exact ff h
 | .ex e es,B,X,J,G,h=>by
  cases B with
  | cons x B =>
   obtain⟨h,h3⟩:=zd h
   obtain⟨Z,Y⟩:=zd h
   exact(zJ (sE e _ X J G Z).1 (cg5 es _ X J G h3) (zl Y)).imp λ σ H Q q=>bJ4 (TAp.eq (λ ρ s=>rfl) q)
  | _=>exact ff h
 | .lam id caps es,B,X,J,G,h=>ff h
 | .fn _ _,B,X,J,G,h=>ff h
theorem sI:∀(i:DV.I) (E tg:Expr) (X:Cx) (B:Ck),CG Γ F n X B->mI B tg i E=true->PI X tg E (TIv Γ (mY F i))
 | .seq e,E,tg,X,B,G,h=>by
  obtain⟨J,Y⟩:=zd h
  exact bn5 G (sE e _ X B G J).1
 | .rng1 a,E,tg,X,B,G,h=>by
  cases E with
  | Call fE xs kw p =>
   cases fE with
   | Name x pN =>
    cases xs with
    | cons l xs_0 =>
     cases xs_0 with
     | nil =>
      cases kw with
      | nil =>
       obtain⟨h,Z⟩:=zd h
       obtain⟨h,h3⟩:=zd h
       obtain⟨J,Y⟩:=zd h
       have e:=of_decide_eq_true J
       subst e
       exact bg5 G Y Z (sE a _ X B G h3).1
      | _=>exact ff h
     | _=>exact ff h
    | _=>exact ff h
   | _=>exact ff h
  | _=>exact ff h
 | .rng2 _ _,E,tg,X,B,G,h=>ff h
 | .rngD _,E,tg,X,B,G,h=>ff h
 | .rng3 _ _ _,E,tg,X,B,G,h=>ff h
 | .enum (.seq _),E,tg,X,B,G,h=>ff h
 | .enum (.rng1 _),E,tg,X,B,G,h=>ff h
 | .enum (.rng2 _ _),E,tg,X,B,G,h=>ff h
 | .enum (.rng3 _ _ _),E,tg,X,B,G,h=>ff h
 | .enum (.rngD _),E,tg,X,B,G,h=>ff h
 | .enum (.enum _),E,tg,X,B,G,h=>ff h
 | .enum (.zip _ _),E,tg,X,B,G,h=>ff h
 | .enum (.items _),E,tg,X,B,G,h=>ff h
 | .zip (.seq _) (.seq _),E,tg,X,B,G,h=>ff h
 | .zip (.seq _) (.rng1 _),E,tg,X,B,G,h=>ff h
 | .zip (.seq _) (.rng2 _ _),E,tg,X,B,G,h=>ff h
 | .zip (.seq _) (.rng3 _ _ _),E,tg,X,B,G,h=>ff h
 | .zip (.seq _) (.rngD _),E,tg,X,B,G,h=>ff h
 | .zip (.seq _) (.enum _),E,tg,X,B,G,h=>ff h
 | .zip (.seq _) (.zip _ _),E,tg,X,B,G,h=>ff h
 | .zip (.seq _) (.items _),E,tg,X,B,G,h=>ff h
 | .zip (.rng1 _) _,E,tg,X,B,G,h=>ff h
 | .zip (.rng2 _ _) _,E,tg,X,B,G,h=>ff h
 | .zip (.rng3 _ _ _) _,E,tg,X,B,G,h=>ff h
 | .zip (.rngD _) _,E,tg,X,B,G,h=>ff h
 | .zip (.enum _) _,E,tg,X,B,G,h=>ff h
 | .zip (.zip _ _) _,E,tg,X,B,G,h=>ff h
 | .zip (.items _) _,E,tg,X,B,G,h=>ff h
 | .items _,E,tg,X,B,G,h=>ff h
theorem sL:∀(l:DV.L) (E:Expr) (X:Cx) (J:Ck),CG Γ F n X J->∀ k,mL J k l E=true->LK Γ X (DV.evL F l) E k
 | .comp tg it e caps,E,X,J,G,k,h=>by
  cases E with
  | ListComp elt gs scope p =>
   cases gs with
   | cons g gs1 =>
    cases g with
    | mk tgt iter ifs z =>
     cases ifs with
     | nil =>
      cases gs1 with
      | nil =>
       obtain⟨h,h3⟩:=zd h
       obtain⟨h,Y⟩:=zd h
       obtain⟨h0,B⟩:=zd h
       have Z:=of_decide_eq_true h0
       subst Z
       have c:=bi0 (pos:=p) G B (sI it _ _ X J G Y) λ C cells s H ex=>(sE e _ _ _ ((G.comp B).2.2 C cells s H ex).1 h3).1
       exact .c (c.eq λ ρ s=>rfl)
      | _=>exact ff h
     | _=>exact ff h
   | _=>exact ff h
  | _=>exact ff h
 | .compIf tg it i e caps,E,X,J,G,k,h=>by
  cases E with
  | ListComp elt gs scope p =>
   cases gs with
   | cons g gs1 =>
    cases g with
    | mk tgt iter ifs z =>
     cases ifs with
     | cons i1 ifs1 =>
      cases ifs1 with
      | nil =>
       cases gs1 with
       | nil =>
        obtain⟨h,h4⟩:=zd h
        obtain⟨h,h3⟩:=zd h
        obtain⟨h,Y⟩:=zd h
        obtain⟨h0,B⟩:=zd h
        have Z:=of_decide_eq_true h0
        subst Z
        have c:=bs4 (pos:=p) G B (sI it _ _ X J G Y) (λ C cells s H ex=>(sE i _ _ _ ((G.comp B).2.2 C cells s H ex).1 h3).2) λ C cells s H ex=>(sE e _ _ _ ((G.comp B).2.2 C cells s H ex).1 h4).1
        exact .c (c.eq λ ρ s=>rfl)
       | _=>exact ff h
      | _=>exact ff h
     | _=>exact ff h
   | _=>exact ff h
  | _=>exact ff h
 | .disp es,E,X,J,G,k,h=>by
  cases E with
  | List xs p =>
   obtain⟨h,Y⟩:=zd h
   obtain⟨h0,B⟩:=zd h
   exact .f (of_decide_eq_true h0) (bp9 B (of_decide_eq_true Y) (ao1 (sEs es _ X J G B)))
  | _=>exact ff h
 | .seq e,E,X,J,G,k,h=>by
  obtain⟨h0,B⟩:=zd h
  exact .s (of_decide_eq_true h0) ((sE e _ X J G B).1.imp λ σ H Q q=>bM2 (TLv.eq (λ ρ s=>rfl) q))
 | .itm _,E,X,J,G,k,h=>ff h
end
end
section
variable {Γ:Gm} {F:lL} {n:Nat}
theorem be8 {X:Cx}{ck:Ck}{m:lx->lv->lz (List lw)}{E:Expr}{x:Str}{i:Nat}{px pos:Pos}(G:CG Γ F n X ck)(c:CompF Γ X m E)(hi:ck.N[i]?=some x)(hl:ck.loc x=true) :
  PS X (.Assign [.Name x px] E pos) (bc5 (TFv Γ m) (av9 i)):=by
 obtain⟨a1,a2,iter,Z,scope,p2,N',B,wi,g,tc,te,rfl,h1,h2,h3,h4,h5⟩:=c.ex
 obtain⟨l1,l2⟩:=G.loc hl
 have nd:X.N.Nodup:=by rw[G.N];exact G.nd
 have a0:X.N[i]?=some x:=by rw[G.N];exact hi
 generalize hb:((X.env.blockKind==.function&&X.env.kindOf x==some .local&&px.line==(Expr.ListComp a1 [⟨a2,iter,Z,0⟩] scope p2).pos.line&&!(scope.names.any λ(n,k)=>n==x&&(k==.local||k==.cell))))=b
 have J:eK (.ListComp a1 [⟨a2,iter,Z,0⟩] scope p2) (some (.Name x px)) pos.line X.env=pure b:=by rw[<-hb];rfl
 have imp:∀ D σ H,bc5 (TFv Γ m) (av9 i) D σ H->bc5 (tComp B wi g tc te) (av9 i) D σ H:=λ D σ H q=>h5 _ _ _ q
 cases b with
 | true =>
  have Y:X.env.scope.names.lookup x=some .local:=by
   simp only[ag]at hb
   exact eq_of_beq hb.1.1.2
  exact(aM3 N' B nd a0 Y h1 h2 G.calm h3 h4 J).imp imp
 | false=>exact(bn0 nd a0 l1 (aQ7 N' B h1 h2 G.calm h3 h4) J l2).imp imp
theorem bx6 {X:Cx}{B:Ck}{e:nj}{v:Expr}{x:Str}{i:Nat}{px pos:Pos}(G:CG Γ F n X B)(Y:B.N[i]?=some x)(hl:B.loc x=true)(h:mE B e v=true) :
  PS X (.Assign [.Name x px] v pos) (TSv Γ (DV.ex F (.asg (.one i) e))):=by
 obtain⟨l1,l2⟩:=G.loc hl
 have nd:X.N.Nodup:=by rw[G.N];exact G.nd
 have J:X.N[i]?=some x:=by rw[G.N];exact Y
 by_cases hc:ap7 v=true
 ·exact(bn0 nd J l1 (sE e v X B G h).1 (ag8 hc) l2).imp λ D σ H q=>aX6 (tg:=.one i) (TSv.eq (λ ρ s=>rfl) q)
 ·have hs:=aF0 h
  cases v with
  | ListComp elt gs sc p =>
   cases e with
   | mk k l =>
    obtain⟨Z,h2⟩:=zd h
    have e:=of_decide_eq_true Z
    subst e
    exact(be8 G (bD7 (sL l _ X B G 0 h2)) Y hl).imp λ D σ H q=>bf0 (tg:=.one i) (TSv.eq (λ ρ s=>rfl) q)
   | _=>exact ff h
  | SetComp _ _ _ _=>cases hs
  | DictComp _ _ _ _ _=>cases hs
  | _=>exact absurd rfl hc
mutual
theorem sS:∀(st:DV.S) (S:Stmt) (X:Cx) (B:Ck),CG Γ F n X B->mS B st S=true->PS X S (TSv Γ (DV.ex F st))
 | .asg tg e,S,X,B,G,h=>by
  cases S with
  | Assign ts v p =>
   cases ts with
   | cons t ts1 =>
    cases ts1 with
    | nil =>
     obtain⟨h,h3⟩:=zd h
     obtain⟨Y,J⟩:=zd h
     cases tg with
     | one i =>
      have h:=Y
      cases t with
      | Name x px =>
       obtain⟨a1,a2⟩:=zd h
       exact bx6 G (of_decide_eq_true a1) a2 J
      | _=>exact ff h
     | tup is =>
      obtain⟨a1,a2⟩:=zd h3
      have h:=Y
      cases t with
      | Tuple te tk tp=>exact(aX5 (sE e _ X B G J).1 (ba0 G Y) (show eK v (some (.Tuple te tk tp)) p.line X.env=pure false from ag8 a2) (aL0 a1) rfl).imp λ D σ H q=>aX6 (TSv.eq (λ ρ s=>rfl) q)
      | _=>exact ff h
    | _=>exact ff h
   | _=>exact ff h
  | _=>exact ff h
 | .setIx o i e,S,X,B,G,h=>by
  cases S with
  | Assign ts v p2 =>
   cases ts with
   | cons tt ts1 =>
    cases tt with
    | Subscript ob ix p1 =>
     cases ts1 with
     | nil =>
      obtain⟨h,h4⟩:=zd h
      obtain⟨h,h3⟩:=zd h
      obtain⟨Y,J⟩:=zd h
      have Z:=aF0 J
      refine(aX5 (sE e _ X B G h3).1 (bI0 (sE o _ X B G Y).1 (sE i _ X B G J).1 (bN6 (ai2 G.room)) ?_) (show eK v (some (.Subscript ob ix p1)) p2.line X.env=pure false from ag8 h4) aL7 ?_).imp λ D σ H q=>aZ7 (TSv.eq (λ ρ s=>rfl) q)
      ·intro w
       cases ix<;>first|rfl|cases Z
      ·rfl
     | _=>exact ff h
    | _=>exact ff h
   | _=>exact ff h
  | _=>exact ff h
 | .aug i e,S,X,B,G,h=>by
  cases S with
  | AugAssign tt op v p =>
   cases tt with
   | Name x p1 =>
    cases op with
    | Add =>
     obtain⟨h,h3⟩:=zd h
     obtain⟨Y,J⟩:=zd h
     obtain⟨l1,l2⟩:=G.loc J
     exact(bD3 (by rw[G.N];exact G.nd) (by rw[G.N];exact of_decide_eq_true Y) l1 (sE e _ X B G h3).1 bM9 l2).imp λ D σ H q=>bO0 (TSv.eq (λ ρ s=>rfl) q)
    | _=>exact ff h
   | _=>exact ff h
  | _=>exact ff h
 | .ex e,S,X,B,G,h=>by
  cases S with
  | Expr v p =>
   obtain⟨Y,J⟩:=zd h
   exact(aY0 (sE e _ X B G Y).1 (ag8 J)).imp λ D σ H q=>br6 (TSv.eq (λ ρ s=>rfl) q)
  | _=>exact ff h
 | .ret e,S,X,B,G,h=>by
  cases S with
  | Return vo p =>
   cases vo with
   | some v =>
    exact(aH3 (sE e _ X B G h).1).imp λ D σ H q=>bI1 (TSv.eq (λ ρ s=>rfl) q)
   | _=>exact ff h
  | _=>exact ff h
 | .retN,S,X,B,G,h=>by
  cases S with
  | Return vo p =>
   cases vo with
   | none =>
    exact bt8.imp λ D σ H q=>by6 (TSv.eq (λ ρ s=>rfl) q)
   | _=>exact ff h
  | _=>exact ff h
 | .ite c a b,S,X,B,G,h=>by
  cases S with
  | If t l r p =>
   obtain⟨h,h3⟩:=zd h
   obtain⟨Y,J⟩:=zd h
   exact(ba7 (sE c _ X B G Y).2 (sSs a _ X B G J) (sSs b _ X B G h3)).imp λ D σ H q=>bZ8 (TSv.eq (λ ρ s=>rfl) q)
  | _=>exact ff h
 | .whl c b,S,X,B,G,h=>by
  cases S with
  | While t l o p =>
   cases o with
   | nil =>
    obtain⟨Y,J⟩:=zd h
    exact(aJ2 (by rw[G.xe];exact ki) (sE c _ X B G Y).2 (sSs b _ X B G J)).imp λ D σ H q=>ba5 (TSv.eq (λ ρ s=>rfl) q)
   | _=>exact ff h
  | _=>exact ff h
 | .for_ tg it b,S,X,B,G,h=>by
  cases S with
  | For tgt iter l o p =>
   cases o with
   | nil =>
    obtain⟨h,h3⟩:=zd h
    obtain⟨Y,J⟩:=zd h
    exact(bk6 (by rw[G.xe];exact ki) G.calm (sI it _ _ X B G J) (ba0 G Y) (sSs b _ X B G h3) (ar2 (bj8 J))).imp λ D σ H q=>bF3 (TSv.eq (λ ρ s=>rfl) q)
   | _=>exact ff h
  | _=>exact ff h
 | .pass,S,X,B,G,h=>ff h
 | .cont,S,X,B,G,h=>by
  cases S with
  | Continue p =>
   exact aD6.imp λ D σ H q=>bv4 (TSv.eq (λ ρ s=>rfl) q)
  | _=>exact ff h
 | .brk,S,X,B,G,h=>ff h
 | .und _,S,X,B,G,h=>ff h
 | .raise,S,X,B,G,h=>bf7.imp λ D σ H q=>by
  obtain⟨φ,ρ,s,c,s',E,R,hm,q⟩:=q
  cases hm
theorem sSs:∀(st:DV.Ss) (S:List Stmt) (X:Cx) (B:Ck),CG Γ F n X B->mSs B st S=true->PSs X S (TSv Γ (mn F st))
 | .nil,S,X,B,G,h=>by
  cases S with
  | nil =>
   exact as7.imp λ D σ H q=>bx3 (m:=mn F .nil) (λ ρ s=>rfl) q
  | _=>exact ff h
 | .cons s ss,S,X,B,G,h=>by
  cases S with
  | cons x xs =>
   obtain⟨Y,J⟩:=zd h
   exact(zF (sS s _ X B G Y) (sSs ss _ X B G J)).imp λ D σ H q=>bQ7 (TSv.eq (λ ρ s=>rfl) q)
  | _=>exact ff h
end
end
noncomputable def ca5 (ck:Ck):List String->List Expr->Bool
 | [],xs=>match xs with|[]=>true|_=>false
 | c::cs,xs=>match xs with|.Name x _::es=>decide (x=(c:Str))&&ck.gl x&&ca5 ck cs es|_=>false
noncomputable def mHT (ck:Ck)(n:Str):DV.HT->Expr->Bool
 | .isi cs,E=>match E with|.Call (.Name g _) [.Name x _,.Tuple es _ _] [] _=>decide (g=("isinstance":Str))&&ck.gl g&&decide (x=n)&&ca5 ck cs es&&decide (cs.length<=1000)|_=>false
 | .one c,E=>match E with|.Call (.Name g _) [.Name x _,.Name d _] [] _=>decide (g=("isinstance":Str))&&ck.gl g&&decide (x=n)&&decide (d=(c:Str))&&ck.gl d|_=>false
 | .not _,_=>false
 | .ve,E=>match E with|.Call (.Name g _) [.Name x _,.Name d _] [] _=>decide (g=("isinstance":Str))&&ck.gl g&&decide (x=n)&&decide (d=("ValueError":Str))&&ck.gl d|_=>false
 | .or _ _,_=>false
noncomputable def mHd (ck:Ck)(n:Str):nJ->List Stmt->Bool
 | .ret _,_=>false
 | .iff _ _ _,_=>false
 | .nob _,_=>false
 | .noe,_=>false
 | .iffN t h,S=>match S with|.If e [.Return (some (.Constant .none _ _)) _] [] _::rest=>mHT ck n t e&&mHd ck n h rest|_=>false
 | .aoN a b,S=>match S with|[.Return (some (.BoolOp .Or [.BoolOp .And [x,y] _,.Constant .none _ _] _)) _]=>mHT ck n a x&&mHT ck n b y|_=>false
 | .sup _ h,S=>mHd ck n h S
structure XC (F:lL)(K:ac)(mg:Str->Option Value):Prop where
 at_:∀ c:String,F.xc c=true->∃ C,mg (c:Str)=some (.ref C)/\ExcCls K C/\excI K C=true
 cls:∀ c:String,F.xt c=true->∃ C,mg (c:Str)=some (.ref C)
 sub:∀(c d:String) (C D:Addr),F.xc c=true->F.xt d=true->mg (c:Str)=some (.ref C)->mg (d:Str)=some (.ref D)->bF K (.ref C) (.ref D)=some (lK c d)
 exm:∀(c d:String) (C D:Addr),F.xc c=true->F.xt d=true->mg (c:Str)=some (.ref C)->mg (d:Str)=some (.ref D)->bD K (.ref C) (.ref D)=some (lK c d)
 ve0:∀ c:String,F.xc c=true->mg ("ValueError":Str)=none
 ve1:∀(c:String) (C:Addr),F.xc c=true->mg (c:Str)=some (.ref C)->bF K (.ref C) (.type "ValueError")=some true
theorem av4:∀ {B:List Addr} {us:List Value},Vals (B.map V.ref) us->us=B.map Value.ref
 | [],_,.nil=>rfl
 | d::B,_,.cons r t=>by
  have e:=av4 t
  subst e
  cases(show _=Value.ref d from r)
  rfl
def cf4 (K:ac)(a C:Addr):List V->Hp->VK->Prop:=λ xs H Q=>(∃ y b,xs=[.ref a,y]/\((∃ D,y=.ref D/\bF K (.ref C) (.ref D)=some b)\/∃(p:Addr) (ds:List Addr),y=.ref p/\H p=some (.tup (ds.map V.ref))/\iR K (.ref C) (ds.map Value.ref)=some b)/\Q (.bl b) H)\/xs=[.ref a,.ty "ValueError"]/\bF K (.ref C) (.type "ValueError")=some true/\Q (.bl true) H
section
variable {Γ:Gm} {F:lL} {n:Nat} {X:Cx} {ck:Ck} {a C:Addr} {oe:Obj}
theorem ar9 (F:eD X.K (.ref a) (.ref C) (λ h=>XAt h a C))(hcl:oe.cls=.ref C):ac5 (X.hnd a oe) (.builtin "isinstance") (cf4 X.K a C):=by
 intro G s σ H Z us Q I r h
 rcases h with h|⟨rfl,hv,q⟩
 case inr =>
  obtain⟨u,B,rfl,r1,r2⟩:=by0 r
  cases(show u=Value.ref a from r1)
  cases(show B=Value.type "ValueError" from r2)
  have hx:XAt s.heap a C:=⟨oe,(I.pin (a,oe) (av ..)).1,hcl⟩
  exact kj F I.kIn hx hv (λ z=>nomatch z) λ tk=>⟨.bl true,H,I.tok _,rfl,q⟩
 obtain⟨y,b,rfl,hc,q⟩:=h
 obtain⟨u,B,rfl,r1,r2⟩:=by0 r
 cases(show u=Value.ref a from r1)
 have hx:XAt s.heap a C:=⟨oe,(I.pin (a,oe) (av ..)).1,hcl⟩
 rcases hc with⟨D,rfl,e⟩|⟨p,ds,rfl,hp,e⟩
 ·cases(show B=Value.ref D from r2)
  exact kj F I.kIn hx e (λ z=>nomatch z) λ tk=>⟨.bl b,H,I.tok _,rfl,q⟩
 ·cases(show B=Value.ref p from r2)
  obtain⟨z,its,J,ob,e1,e2,nn,e3⟩:=(show ac4 X.prog X.w H s.heap p (.tup (ds.map V.ref))from I.hok p _ hp)
  have Y:=av4 J
  subst Y
  obtain⟨c0,dd,dt,sl⟩:=ob
  cases e2
  cases e3
  exact PySem.W.kia_tup F I.kIn hx e1 e (λ z=>nomatch z) λ tk=>⟨.bl b,H,I.tok _,rfl,q⟩
def tHv (i:Nat)(a:Addr)(b:Bool):TE:=λ σ H Q=>σ[i]?=some (some (.ref a))/\∀ H',ad0 H H'->Q (.bl b) H'
def tHt (i:Nat)(a:Addr)(b:Bool):TT:=λ σ H Q=>σ[i]?=some (some (.ref a))/\∀ H',ad0 H H'->Q b H'
theorem bc9 {H:Hp}{p:Addr}{o:HO}(h:H p=none):ad0 H (upd H p o):=λ b u e=>by rw[zn (zo e h)];exact e
theorem bk2 (G:CG Γ F n X ck)(xc:XC F X.K X.mg):∀ {cs:List String} {es:List Expr},ca5 ck cs es=true->cs.all F.xt=true->∃ B:List Addr,B.length=cs.length/\PA (X.hnd a oe) es (λ σ H Q=>Q (B.map V.ref) H)/\(∀ e∈es,shp e=true) /\
  ∀(c:String),F.xc c=true->X.mg (c:Str)=some (.ref C)->iR X.K (.ref C) (B.map Value.ref)=some (cs.any (lK c))
 | [],es,h,_=>by
  cases es with
  | nil=>exact⟨[],rfl,ad3.imp λ σ H Q q=>q,by nofun,λ c _ _=>rfl⟩
  | cons _ _=>exact ff h
 | d::cs,es,h,hc=>by
  cases es with
  | nil=>exact ff h
  | cons e es =>
   cases e with
   | Name x p =>
    obtain⟨h,h3⟩:=zd h
    obtain⟨Z,h2⟩:=zd h
    have e1:=of_decide_eq_true Z
    subst e1
    rw[c8,ag]at hc
    obtain⟨D,hD⟩:=xc.cls d hc.1
    obtain⟨g1,g2,g3⟩:=G.gl h2
    obtain⟨B,hl,hp,hs,hk⟩:=bk2 G xc h3 hc.2
    refine⟨D::B,by simp[hl],?_,λ e he=>?_,λ c Y J=>?_⟩
    ·have h0:PE (X.hnd a oe) (.Name (d:Str) p) (tC (.ref D)):=al7 (X:=X.hnd a oe) g1 hD rfl g2
     exact(zJ h0 hp rfl).imp λ σ H Q q=>q
    ·rcases aA.mp he with z|z
     ·subst z;rfl
     ·exact hs e z
    ·have e1:=xc.sub c d C D Y hc.1 J hD
     have e2:=hk c Y J
     rw[aS]
     show(match bF X.K (.ref C) (.ref D)with|some true=>some true|some false=>iR X.K (.ref C) (B.map Value.ref)|none=>none)=_
     rw[e1]
     cases hs:lK c d with
     | true=>simp[hs]
     | false=>simp only[eU,hs,ji];exact e2
   | _=>exact ff h
theorem bz9 (G:CG Γ F n X ck)(xc:XC F X.K X.mg){c:String}(Y:F.xc c=true)(a0:X.mg (c:Str)=some (.ref C))(kx:eD X.K (.ref a) (.ref C) (λ h=>XAt h a C))(hcl:oe.cls=.ref C){nm:Str}{i:Nat}(hi:ck.N[i]?=some nm)(hv:Vis X.env.scope nm)(hd:(nm==("__debug__":Str))=false)(Z:(nm==("__classdict__":Str))=false) :
  ∀ {t:DV.HT} {E:Expr},mHT ck nm t E=true->t.ok F.xt=true->PE (X.hnd a oe) E (tHv i a (t.val c))/\PT (X.hnd a oe) E (tHt i a (t.val c))
 | .isi cs,E,h,ho=>by
  cases E with
  | Call g xs kw p =>
   cases g with
   | Name g pg =>
    cases xs with
    | nil=>exact ff h
    | cons x xs=>cases x with
     | Name x px =>
      cases xs with
      | nil=>exact ff h
      | cons y xs=>cases y with
       | Tuple es k py =>
        cases xs with
        | cons _ _=>exact ff h
        | nil=>cases kw with
         | cons _ _=>exact ff h
         | nil =>
          obtain⟨h,h5⟩:=zd h
          obtain⟨h,h4⟩:=zd h
          obtain⟨h,h3⟩:=zd h
          obtain⟨h1,h2⟩:=zd h
          have e1:=of_decide_eq_true h1
          have e3:=of_decide_eq_true h3
          have e5:=of_decide_eq_true h5
          subst e1 e3
          obtain⟨g1,g2,g3⟩:=G.gl h2
          obtain⟨ds,hl,hp,hs,hk⟩:=bk2 (a:=a) (C:=C) (oe:=oe) G xc h4 ho
          have B:PE (X.hnd a oe) (.Name x px) (bM6 i):=aG4 (X:=X.hnd a oe) (by show X.N[i]?=_;rw[G.N];exact hi) hv hd Z
          have pa:PA (X.hnd a oe) [.Name x px,.Tuple es k py] _:=zJ B (zJ (bl7 hp) ad3 rfl) rfl
          have main:PE (X.hnd a oe) (.Call (.Name "isinstance" pg) [.Name x px,.Tuple es k py] [] p) (tHv i a (cs.any (lK c))):=by
           refine(ag4 (ar9 kx hcl) (show Gl (X.hnd a oe) "isinstance" from g1) (G.bi _ (by decide)) qG pa g3 g2 rfl rfl).imp λ σ H Q q=>?_
           exact⟨.ref a,q.1,by rw[aw,hl];exact am e5 (by decide),λ p a1=>.inl ⟨.ref p,_,rfl,.inr ⟨p,ds,rfl,zu,hk c Y a0⟩,q.2 _ (bc9 a1)⟩⟩
          refine⟨main,(aJ8 main).imp λ σ H Q q=>?_⟩
          exact⟨q.1,λ H' s=>⟨_,rfl,q.2 H' s⟩⟩
       | _=>exact ff h
     | _=>exact ff h
   | _=>exact ff h
  | _=>exact ff h
 | .one d,E,h,ho=>by
  cases E with
  | Call g xs kw p =>
   cases g with
   | Name g pg =>
    cases xs with
    | nil=>exact ff h
    | cons x xs=>cases x with
     | Name x px =>
      cases xs with
      | nil=>exact ff h
      | cons y xs=>cases y with
       | Name y py =>
        cases xs with
        | cons _ _=>exact ff h
        | nil=>cases kw with
         | cons _ _=>exact ff h
         | nil =>
          obtain⟨h,h5⟩:=zd h
          obtain⟨h,h4⟩:=zd h
          obtain⟨h,h3⟩:=zd h
          obtain⟨h1,h2⟩:=zd h
          have e1:=of_decide_eq_true h1
          have e3:=of_decide_eq_true h3
          have e4:=of_decide_eq_true h4
          subst e1 e3 e4
          obtain⟨g1,g2,g3⟩:=G.gl h2
          obtain⟨k1,k2,k3⟩:=G.gl h5
          obtain⟨D,hD⟩:=xc.cls d ho
          have B:PE (X.hnd a oe) (.Name x px) (bM6 i):=aG4 (X:=X.hnd a oe) (by show X.N[i]?=_;rw[G.N];exact hi) hv hd Z
          have J:PE (X.hnd a oe) (.Name (d:Str) py) (tC (.ref D)):=al7 (X:=X.hnd a oe) k1 hD rfl k2
          have pa:PA (X.hnd a oe) [.Name x px,.Name (d:Str) py] _:=zJ B (zJ J ad3 rfl) rfl
          have main:PE (X.hnd a oe) (.Call (.Name "isinstance" pg) [.Name x px,.Name (d:Str) py] [] p) (tHv i a (lK c d)):=by
           refine(ag4 (ar9 kx hcl) (show Gl (X.hnd a oe) "isinstance" from g1) (G.bi _ (by decide)) qG pa g3 g2 rfl rfl).imp λ σ H Q q=>?_
           exact⟨.ref a,q.1,.inl ⟨.ref D,_,rfl,.inl ⟨D,rfl,xc.sub c d C D Y ho a0 hD⟩,q.2 _ (ad0.refl _)⟩⟩
          refine⟨main,(aJ8 main).imp λ σ H Q q=>?_⟩
          exact⟨q.1,λ H' s=>⟨_,rfl,q.2 H' s⟩⟩
       | _=>exact ff h
     | _=>exact ff h
   | _=>exact ff h
  | _=>exact ff h
 | .ve,E,h,ho=>by
  cases E with
  | Call g xs kw p =>
   cases g with
   | Name g pg =>
    cases xs with
    | nil=>exact ff h
    | cons x xs=>cases x with
     | Name x px =>
      cases xs with
      | nil=>exact ff h
      | cons y xs=>cases y with
       | Name y py =>
        cases xs with
        | cons _ _=>exact ff h
        | nil=>cases kw with
         | cons _ _=>exact ff h
         | nil =>
          obtain⟨h,h5⟩:=zd h
          obtain⟨h,h4⟩:=zd h
          obtain⟨h,h3⟩:=zd h
          obtain⟨h1,h2⟩:=zd h
          have e1:=of_decide_eq_true h1
          have e3:=of_decide_eq_true h3
          have e4:=of_decide_eq_true h4
          subst e1 e3 e4
          obtain⟨g1,g2,g3⟩:=G.gl h2
          obtain⟨k1,k2,k3⟩:=G.gl h5
          have B:PE (X.hnd a oe) (.Name x px) (bM6 i):=aG4 (X:=X.hnd a oe) (by show X.N[i]?=_;rw[G.N];exact hi) hv hd Z
          have J:PE (X.hnd a oe) (.Name "ValueError" py) (tC (.ty "ValueError")):=bA9 (X:=X.hnd a oe) k1 (xc.ve0 c Y) (by rfl) rfl
          have pa:PA (X.hnd a oe) [.Name x px,.Name "ValueError" py] _:=zJ B (zJ J ad3 rfl) rfl
          have main:PE (X.hnd a oe) (.Call (.Name "isinstance" pg) [.Name x px,.Name "ValueError" py] [] p) (tHv i a true):=by
           refine(ag4 (ar9 kx hcl) (show Gl (X.hnd a oe) "isinstance" from g1) (G.bi _ (by decide)) qG pa g3 g2 rfl rfl).imp λ σ H Q q=>?_
           exact⟨.ref a,q.1,.inr ⟨rfl,xc.ve1 c C Y a0,q.2 _ (ad0.refl _)⟩⟩
          refine⟨main,(aJ8 main).imp λ σ H Q q=>?_⟩
          exact⟨q.1,λ H' s=>⟨_,rfl,q.2 H' s⟩⟩
       | _=>exact ff h
     | _=>exact ff h
   | _=>exact ff h
  | _=>exact ff h
 | .not _,E,h,ho=>ff h
 | .or _ _,E,h,ho=>ff h
end
def tHd (i:Nat)(a:Addr)(v:V):TS:=λ D σ H=>σ[i]?=some (some (.ref a))/\∀ H',ad0 H H'->D.rt v H'
noncomputable def vV:lw->V
 | .bl b=>.bl b
 | _=>.non
noncomputable def mX (ck:Ck):nK->List Stmt->Bool
 | .no,_=>true
 | .rais c,S=>match S with|.Raise (some (.Call (.Name x _) [.Constant (.str _) _ _] [] _)) none _::_=>decide (x=(c:Str))&&ck.gl x|_=>false
 | .call f as,S=>match S with
  | .Expr (.Call (.Name x _) (e::es) [] _) _::_=>decide (x=(f:Str))&&ck.gl x&&mAs ck as (e::es)
  | .Assign [.Name _ _] (.Subscript (.Call (.Name x _) (e::es) [] _) ix _) _::_=>decide (x=(f:Str))&&ck.gl x&&mAs ck as (e::es)&&shp ix
  | _=>false
 | .iteT c a r,S=>match S with|.If t l [] _::rest=>mE ck c t&&mX ck a l&&mX ck r rest|_=>false
 | .iteE c a r,S=>match S with|.If t l o _::_=>mE ck c t&&mX ck a l&&mX ck r o|_=>false
 | .seq s b,S=>match S with|x::rest=>mS ck s x&&mX ck b rest|_=>false
 | .forX tg it b x,S=>match S with|.For tgt iter l [] _::_=>mTg ck tg tgt&&mI ck tgt it iter&&mSs ck b l&&mX ck x l|_=>false
 | .whlX c b x,S=>match S with|.While t l [] _::_=>mE ck c t&&mSs ck b l&&mX ck x l|_=>false
noncomputable def noL:nK->Bool
 | .iteT _ a r=>noL a&&noL r
 | .iteE _ a r=>noL a&&noL r
 | .seq _ b=>noL b
 | .forX _ _ _ _=>false
 | .whlX _ _ _=>false
 | _=>true
noncomputable def noR:nK->Bool
 | .rais _=>false
 | .iteT _ a r=>noR a&&noR r
 | .iteE _ a r=>noR a&&noR r
 | .seq _ b=>noR b
 | .forX _ _ _ x=>noR x
 | .whlX _ _ x=>noR x
 | _=>true
def ap9 (Γ:Gm)(mg:Str->Option Value)(φ:Nat->Addr)(s:lv)(H:Hp)(c:String)(s':lv)(E:XK):Prop :=
 ∀ φ' H' a C,Gr φ s H φ' s' H'->s.length<=s'.length->Rp Γ φ' H' s'->mg (c:Str)=some (.ref C)->E (.ref a) (some C) H'
def TXv (Γ:Gm)(mg:Str->Option Value)(m:lx->lv->Option (String×lv))(E:XK):TS:=λ _ σ H=>∃ φ ρ s c s',RE Γ φ H s.length ρ σ/\Rp Γ φ H s/\m ρ s=some (c,s')/\ap9 Γ mg φ s H c s' E
def spX (Γ:Gm)(mg:Str->Option Value)(x:List lw->lv->Option (String×lv)):Sp:=λ vs H _ E=>∃ φ s l c s',Rp Γ φ H s/\RVL Γ φ H l vs/\ly s.length l=true/\x l s=some (c,s')/\ap9 Γ mg φ s H c s' E
theorem ap9.trans {Γ:Gm}{B:Str->Option Value}{φ φ1:Nat->Addr}{s s1 s':lv}{H F:Hp}{c:String}{E:XK}(h:ap9 Γ B φ s H c s' E)(g:Gr φ s H φ1 s1 F)(l:s.length<=s1.length):ap9 Γ B φ1 s1 F c s' E :=
 λ φ' H' a C g' G p m=>h φ' H' a C (g.trans g' l) (am l G) p m
theorem PA.nox {X:Cx}{e:List Expr}{t:TA}(h:PA X.nox e t):PA X e t:=λ pos B s σ H Q I hw =>
 a8 (h pos B s σ H Q (I.wish _) hw) (λ _ _ ⟨v,H',F,r,q⟩=>⟨v,H',F.unwish,r,q⟩) λ _ _ z=>bj z
theorem PS.nox {X:Cx}{st:Stmt}{t:TS}(h:PS X.nox st t):PS X st t:=λ B s σ H D I hw =>
 a8 (h B s σ H D (I.wish _) hw) (λ _ _ q=>q.unwish) λ _ _ z=>bj z
def XOk (Γ:Gm)(prog:az)(w:World)(K:ac)(mg:Str->Option Value)(base:Heap)(F:lL)(n:Nat):Prop:=∀ f:String,(∀ l s,F.xcall f l s=none) \/
 ∃ a fd ps,FnOk prog w K mg base (CX1 prog w) n a fd ps (spX Γ mg (F.xcall f))/\mg (f:Str)=some (.ref a)/\cc K (.ref a)=true/\Binds K fd ps []
section
variable {Γ:Gm} {F:lL} {n:Nat} {X:Cx} {ck:Ck} {a C:Addr} {oe:Obj}
theorem bp4 (G:CG Γ F n X ck)(xc:XC F X.K X.mg){c:String}(a0:F.xc c=true)(Z:X.mg (c:Str)=some (.ref C))(kx:eD X.K (.ref a) (.ref C) (λ h=>XAt h a C))(hcl:oe.cls=.ref C){nm:Str}{i:Nat}(hi:ck.N[i]?=some nm)(hv:Vis X.env.scope nm)(hd:(nm==("__debug__":Str))=false)(Y:(nm==("__classdict__":Str))=false) :
  ∀ {t:nJ} {S:List Stmt},mHd ck nm t S=true->t.ok F.xt=true->PSs (X.hnd a oe) S (tHd i a (vV (t.vD c)))
 | .ret _,S,h,ho=>ff h
 | .iff _ _ _,S,h,ho=>ff h
 | .sup _ g,S,h,ho=>bp4 G xc a0 Z kx hcl hi hv hd Y (t:=g) h (zd ho).2
 | .aoN a' b',S,h,ho=>by
  cases S with
  | nil=>exact ff h
  | cons s S=>cases s with
   | Return vo p=>cases vo with
    | none=>exact ff h
    | some v=>cases v with
     | BoolOp op vs pb=>cases op with
      | Or=>cases vs with
       | nil=>exact ff h
       | cons l vs=>cases l with
        | BoolOp op2 ws pw=>cases op2 with
         | And=>cases ws with
          | nil=>exact ff h
          | cons x ws=>cases ws with
           | nil=>exact ff h
           | cons y ws=>cases ws with
            | cons _ _=>exact ff h
            | nil=>cases vs with
             | nil=>exact ff h
             | cons r vs=>cases r with
              | Constant k j pk=>cases k with
               | none=>cases vs with
                | cons _ _=>exact ff h
                | nil=>cases S with
                 | cons _ _=>exact ff h
                 | nil =>
                  obtain⟨m1,m2⟩:=zd h
                  have B:(a'.ok F.xt&&b'.ok F.xt)=true:=ho
                  rw[ag]at B
                  have q1:=(bz9 G xc a0 Z kx hcl hi hv hd Y m1 B.1).1
                  have q2:=(bz9 G xc a0 Z kx hcl hi hv hd Y m2 B.2).1
                  refine(aY5 (aH3 (bz1 (aS2 q1 (aI6 q2)) (aI6 aW2)))).imp λ D σ H q=>?_
                  have J:∀ H',ad0 H H'->D.rt (vV (if a'.val c then(if b'.val c then .bl true else .non)else .non)) H':=q.2
                  refine⟨q.1,λ H1 s1=>⟨_,rfl,?_⟩⟩
                  cases ha:a'.val c with
                  | true =>
                   rw[ha]at J
                   refine⟨q.1,λ H2 s2=>?_⟩
                   cases hb:b'.val c with
                   | true=>rw[hb]at J;exact⟨true,rfl,J H2 (s1.trans s2)⟩
                   | false=>rw[hb]at J;exact⟨false,rfl,J H2 (s1.trans s2)⟩
                  | false=>rw[ha]at J;exact⟨false,rfl,J H1 s1⟩
               | _=>exact ff h
              | _=>exact ff h
         | _=>exact ff h
        | _=>exact ff h
      | _=>exact ff h
     | _=>exact ff h
   | _=>exact ff h
 | .iffN t g,S,h,ho=>by
  cases S with
  | nil=>exact ff h
  | cons s S=>cases s with
   | If e l r p=>cases l with
    | nil=>exact ff h
    | cons l0 l=>cases l0 with
     | Return vo pr=>cases vo with
      | none=>exact ff h
      | some v=>cases v with
       | Constant k j pk=>cases k with
        | none=>cases l with
         | cons _ _=>exact ff h
         | nil=>cases r with
          | cons _ _=>exact ff h
          | nil =>
           obtain⟨h1,h3⟩:=zd h
           have B:(t.ok F.xt&&g.ok F.xt)=true:=ho
           rw[ag]at B
           have q1:=(bz9 G xc a0 Z kx hcl hi hv hd Y h1 B.1).2
           have q2:=bp4 G xc a0 Z kx hcl hi hv hd Y h3 B.2
           refine(zF (ba7 q1 (aY5 (aH3 aW2)) as7) q2).imp λ D σ H q=>⟨q.1,λ H' s=>?_⟩
           have J:∀ H',ad0 H H'->D.rt (vV (if t.val c then .non else g.vD c)) H':=q.2
           cases hb:t.val c with
           | true=>rw[hb]at J;exact J H' s
           | false=>rw[hb]at J;exact⟨q.1,λ H2 s2=>J H2 (s.trans s2)⟩
        | _=>exact ff h
       | _=>exact ff h
     | _=>exact ff h
   | _=>exact ff h
 | .nob _,S,h,ho=>ff h
 | .noe,S,h,ho=>ff h
theorem bx8 {y:Str}{F pos:Pos}{e:Expr}{G:TE}(he:PE X e G)(hn:ap7 e=true)(hw:gf [.Name y F] e X.env=pure none):PS X (.Assign [.Name y F] e pos) (λ D σ H=>G σ H λ _ _=>False):=by
 intro B s σ H D I h
 exact aX5 (X:=X) (tg:=.Name y F) (pos:=pos) he bc1 (show eK e (some (.Name y F)) pos.line X.env=pure false from ag8 hn) hw rfl B s σ H D I h
theorem bj5 (G:CG Γ F n X.nox ck)(XO:XOk Γ X.prog X.w X.K X.mg X.base F n){E:XK}(hp:ag3 (CX1 X.prog X.w) X E){f:String}{J:mM}{e:Expr}{es:List Expr}{p pos:Pos}(hg:ck.gl (f:Str)=true)(m:mAs ck J (e::es)=true) :
  ∃ t:TE,PE X (.Call (.Name (f:Str) p) (e::es) [] pos) t/\∀ D σ H Q,TXv Γ X.mg (l8 F (.call f J)) E D σ H->t σ H Q:=by
 obtain⟨g1,g2,g3⟩:=G.gl hg
 rcases XO f with hbad|⟨a,fd,ps,hF,Y,hk,hb⟩
 ·refine⟨λ _ _ _=>False,λ _ _ _ _ _ _ z=>z.elim,λ D σ H Q q=>?_⟩
  obtain⟨φ,ρ,s,c,s',Z,R,B,q⟩:=q
  change(match mf F J ρ s with|.ok l s1=>F.xcall f l s1|_=>none)=_ at B
  split at B
  ·rw[hbad]at B;cases B
  ·cases B
 ·have hs:=aB1 m
  have pa:PA X (e::es) (TAv Γ (mf F J)):=(sAs J _ X.nox ck G m).nox
  refine⟨_,aT5 hF G.room g1 Y hk hb .nil hp pa g2 (zl (hs e (av ..))) (zX λ x hx=>hs x (ai _ hx)).1,λ D σ H Q q=>?_⟩
  obtain⟨φ,ρ,s,c,s',Z,R,B,q⟩:=q
  change(match mf F J ρ s with|.ok l s1=>F.xcall f l s1|_=>none)=_ at B
  split at B
  ·rename_i l s1 e1
   refine⟨φ,ρ,s,l,s1,Z,R,e1,λ vs φ1 H1 g1 l1 b1 r1 R1=>?_⟩
   show spX Γ X.mg (F.xcall f) (vs++[]) H1 Q E
   rw[bh]
   exact⟨φ1,s1,l,c,s',R1,r1,b1,B,q.trans g1 l1⟩
  ·cases B
theorem bK7 {mg : Str -> Option Value} {E : XK} {mI : DV.Env -> DV.Sto -> DV.R DV.Sq} {mb : DV.Env -> DV.Sto -> DV.R DV.Ct} {mx : DV.Env -> DV.Sto -> Option (String × DV.Sto)} {tg : DV.Tg} {D D0 : Ends} {σ : St} {H : Hp} (h : TXv Γ mg (λ ρ s => match mI ρ s with
      | .ok q s0 => nM (λ s => lY s0 s q.src) (λ d ρ s => match lQ ρ tg d with
        | some ρ => mb ρ s
        | none => .bad) (λ d ρ s => match lQ ρ tg d with
        | some ρ => mx ρ s
        | none => none) q.its ρ s0
      | _ => none) E D0 σ H) : bW7 (TIv Γ mI) (gOf Γ.K tg) (λ D σ H => TSv Γ mb D σ H \/ TXv Γ mg mx E D σ H) D σ H := by
  obtain⟨φ, ρ, s, c, s', Ev, R, hm, k⟩ := h
  dsimp only at hm
  split at hm
  case h_2 => cases hm
  rename_i q s0 e1
  refine⟨φ, ρ, s, q, s0, Ev, R, e1, λ J φ1 H1 g1 l1 b1 R1 wk => ?_⟩
  refine⟨λ i m σ' H' => ∃ φ' ρ' t, Gr φ1 s0 H1 φ' t H' /\ Rp Γ φ' H' t /\ RE Γ φ' H' t.length ρ' σ' /\ i <= q.its.length /\ m = q.its.length - i /\
    nM (λ s => lY s0 s q.src) (λ d ρ s => match lQ ρ tg d with
      | some ρ => mb ρ s
      | none => .bad) (λ d ρ s => match lQ ρ tg d with
      | some ρ => mx ρ s
      | none => none) (q.its.drop i) ρ' t = some (c, s'), ⟨q.its.length, ?_⟩, ?_⟩
  · exact⟨φ1, ρ, s0, Gr.refl _ _ _, R1, Ev.mono g1 l1, cS _, by simp, by rw[eF]; exact hm⟩
  · rintro i m σ' H' ⟨φ', ρ', t, g, R', E', hil, rfl, hc⟩
    have hle := g.le
    rcases gZ i q.its.length with hlt|hge
    · have hd : q.its[i]? = some q.its[i] := aj hlt
      rw[dG hlt]at hc
      unfold nM at hc
      split at hc
      case isFalse => cases hc
      rename_i hck
      obtain⟨hgo, hy2⟩ := (wk φ' H' t g hle R' hck i).1 hlt
      refine .inr ⟨hgo, _, λ σ2 H2 n => ⟨q.its.length - (i + 1), by omega, n⟩, λ x H2 hyl => ?_⟩
      obtain⟨sm, rv⟩ := hy2 x H2 hyl
      obtain⟨g2, R2⟩ := R'.same sm
      have rd := rv _ hd
      have bd : (q.its[i]).bnd t.length = true := zh hle _ (ag1 b1 hd)
      cases hb : lQ ρ' tg q.its[i]with
      | none =>
        rw[hb]at hc
        cases hc
      | some ρ3 =>
        rw[hb]at hc
        refine bf4 (E'.mono g2 (ak _)) rd bd hb λ σ3 E3 => ?_
        have go : ∀ {c1 : lW} {t3 : lv}, mb ρ3 t = .ok c1 t3 -> (∀ φ2 H4, Gr φ' t H2 φ2 t3 H4 -> t.length <= t3.length -> Rp Γ φ2 H4 t3 -> Gr φ1 s0 H1 φ2 t3 H4) := λ _ φ2 H4 g4 l4 R4 => (g.trans g2 hle).trans g4 hle
        split at hc
        · rename_i ρ1 t3 hs
          exact .inl ⟨φ', ρ3, t, .next ρ1, t3, E3, R2, hs, λ φ2 H4 g4 l4 R4 σ1 E1 => ⟨φ2, ρ1, t3, go hs φ2 H4 g4 l4 R4, R4, E1, hlt, rfl, hc⟩⟩
        · rename_i ρ1 t3 hs
          exact .inl ⟨φ', ρ3, t, .cont ρ1, t3, E3, R2, hs, λ φ2 H4 g4 l4 R4 σ1 E1 => ⟨φ2, ρ1, t3, go hs φ2 H4 g4 l4 R4, R4, E1, hlt, rfl, hc⟩⟩
        · cases hc
        · exact .inr ⟨φ', ρ3, t, c, s', E3, R2, hc, k.trans (g1.trans (g.trans g2 hle) l1) (am l1 hle)⟩
    · rw[eI hge]at hc
      cases hc
theorem bd9 {J:Str->Option Value}{E:XK}{mc:lx->lv->lz lw}{mb:lx->lv->lz lW}{mx:lx->lv->Option (String×lv)}{D D0:Ends}{σ:St}{H:Hp}(h:TXv Γ J (DV.whlX mc mb mx) E D0 σ H):aZ0 (TTv Γ mc) (λ D σ H=>TSv Γ mb D σ H\/TXv Γ J mx E D σ H) D σ H:=by
 obtain⟨φ,ρ,s,c,s',F,R,B,q⟩:=h
 unfold DV.whlX at B
 split at B
 case isFalse=>cases B
 rename_i hn
 generalize hn.choose=n at B
 refine⟨λ n σ H=>∃ φ ρ s,RE Γ φ H s.length ρ σ/\Rp Γ φ H s/\DV.zL mc mb mx n ρ s=some (c,s')/\ap9 Γ J φ s H c s' E,⟨n,φ,ρ,s,F,R,B,q⟩,?_⟩
 clear F R B q hn
 rintro n σ H ⟨φ,ρ,s,F,R,B,q⟩
 cases n with
 | zero=>cases B
 | succ n =>
  unfold DV.zL at B
  split at B
  case h_2=>cases B
  rename_i s1 e1
  refine⟨φ,ρ,s,true,s1,F,R,e1,λ φ1 H1 g1 l1 R1=>?_⟩
  show if true=true then _ else _
  rw[if_pos rfl]
  refine⟨_,λ σ' H' w=>⟨n,dC n,w⟩,?_⟩
  split at B
  ·rename_i ρ1 s2 e2
   exact .inl ⟨φ1,ρ,s1,.next ρ1,s2,F.mono g1 l1,R1,e2,λ φ2 H2 G Z R2 σ1 Y=>⟨φ2,ρ1,s2,Y,R2,B,q.trans (g1.trans G l1) (am l1 Z)⟩⟩
  ·rename_i ρ1 s2 e2
   exact .inl ⟨φ1,ρ,s1,.cont ρ1,s2,F.mono g1 l1,R1,e2,λ φ2 H2 G Z R2 σ1 Y=>⟨φ2,ρ1,s2,Y,R2,B,q.trans (g1.trans G l1) (am l1 Z)⟩⟩
  ·cases B
  ·exact .inr ⟨φ1,ρ,s1,c,s',F.mono g1 l1,R1,B,q.trans g1 l1⟩
theorem aq1 (G:CG Γ F n X.nox ck)(xc:XC F X.K X.mg)(XO:XOk Γ X.prog X.w X.K X.mg X.base F n){E:XK}(hp:ag3 (CX1 X.prog X.w) X E):∀(b:nK) (S:List Stmt),(noR b=true\/au8 X E)->(noL b=true\/iW (model X.prog X.w) X.A X.env X.xe)->mX ck b S=true->PSs X S (TXv Γ X.mg (l8 F b) E)
 | .no,S,_,_,h=>λ B s σ H D I q=>by
  obtain⟨_,_,_,_,_,_,_,z,_⟩:=q
  cases z
 | .rais c,S,hT,_,h=>by
  have hT:au8 X E:=hT.elim (λ z=>by cases z) id
  cases hx:F.xc c with
  | false =>
   intro B s σ H D I q
   obtain⟨_,_,s,_,_,_,_,z,_⟩:=q
   change(if F.xc c=true then some (c,s)else none)=_ at z
   rw[hx]at z;cases z
  | true =>
   cases S with
   | nil=>exact ff h
   | cons st S=>cases st with
    | Raise v k p=>cases v with
     | none=>exact ff h
     | some v=>cases v with
      | Call g xs kw pc=>cases g with
       | Name x pn=>cases xs with
        | nil=>exact ff h
        | cons y xs=>cases y with
         | Constant cv j py=>cases cv with
          | str t=>cases xs with
           | cons _ _=>exact ff h
           | nil=>cases kw with
            | cons _ _=>exact ff h
            | nil=>cases k with
             | some _=>exact ff h
             | none =>
              obtain⟨h1,Z⟩:=zd h
              have e:=of_decide_eq_true h1
              subst e
              obtain⟨g1,g2,g3⟩:=G.gl Z
              obtain⟨C,hC,hE,_⟩:=xc.at_ c hx
              refine(zF (bg0 hT hE g1 hC G.room.hd g2) z9).imp λ D σ H q a=>?_
              obtain⟨φ,ρ,s,c',s',Ev,R,J,q⟩:=q
              change(if F.xc c=true then some (c,s)else none)=_ at J
              rw[hx,if_pos rfl]at J
              cases J
              exact q φ H a C (Gr.refl φ s H) (ak _) R hC
          | _=>exact ff h
         | _=>exact ff h
       | _=>exact ff h
      | _=>exact ff h
    | _=>exact ff h
 | .call f as,S,_,_,h=>by
  cases S with
  | nil=>exact ff h
  | cons st S=>cases st with
   | Assign ts v p=>cases ts with
    | nil=>exact ff h
    | cons t0 ts=>cases t0 with
     | Name y py=>cases ts with
      | cons _ _=>exact ff h
      | nil=>cases v with
       | Subscript g ix ps=>cases g with
        | Call g xs kw pc=>cases g with
         | Name x pn=>cases xs with
          | nil=>exact ff h
          | cons y xs=>cases kw with
           | cons _ _=>exact ff h
           | nil =>
            obtain⟨h,h4⟩:=zd h
            obtain⟨h,h3⟩:=zd h
            obtain⟨h1,Z⟩:=zd h
            have e:=of_decide_eq_true h1
            subst e
            obtain⟨t,ht,hq⟩:=bj5 G XO hp Z h3
            exact(zF (bx8 (bK8 (bF7 (Γ:=Γ) (X:=X) (show X.K=Γ.K from G.K) (ai2 G.room)) ht bh3 (ap5 h4)) rfl rfl) z9).imp λ D σ H q=>hq D σ H _ q
         | _=>exact ff h
        | _=>exact ff h
       | _=>exact ff h
     | _=>exact ff h
   | Expr v p=>cases v with
    | Call g xs kw pc=>cases g with
     | Name x pn=>cases xs with
      | nil=>exact ff h
      | cons y xs=>cases kw with
       | cons _ _=>exact ff h
       | nil =>
        obtain⟨h,h3⟩:=zd h
        obtain⟨h1,Z⟩:=zd h
        have e:=of_decide_eq_true h1
        subst e
        obtain⟨t,ht,hq⟩:=bj5 G XO hp Z h3
        exact(zF (aY0 ht (ag8 rfl)) z9).imp λ D σ H q=>hq D σ H _ q
     | _=>exact ff h
    | _=>exact ff h
   | _=>exact ff h
 | .iteT c a r,S,hT,Y,h=>by
  cases S with
  | nil=>exact ff h
  | cons st S=>cases st with
   | If t l o p=>cases o with
    | cons _ _=>exact ff h
    | nil =>
     obtain⟨h,h3⟩:=zd h
     obtain⟨h1,Z⟩:=zd h
     have a3:noR a=true\/au8 X E:=hT.elim (λ z=>.inl (zd z).1) .inr
     have a0:noR r=true\/au8 X E:=hT.elim (λ z=>.inl (zd z).2) .inr
     have a2:noL a=true\/_:=Y.elim (λ z=>.inl (zd z).1) .inr
     have a1:noL r=true\/_:=Y.elim (λ z=>.inl (zd z).2) .inr
     refine(zF (ba7 (sE c _ X.nox ck G h1).2.nox (aq1 G xc XO hp a _ a3 a2 Z) as7) (aq1 G xc XO hp r _ a0 a1 h3)).imp λ D σ H q=>?_
     obtain⟨φ,ρ,s,c',s',Ev,R,J,q⟩:=q
     change(match lA F c ρ s with|.ok (.bl b) s1=>if b then l8 F a ρ s1 else l8 F r ρ s1|_=>none)=_ at J
     split at J
     ·rename_i b s1 e1
      refine⟨φ,ρ,s,b,s1,Ev,R,e1,λ φ1 H1 g1 l1 R1=>?_⟩
      cases b with
      | true=>exact⟨φ1,ρ,s1,c',s',Ev.mono g1 l1,R1,J,q.trans g1 l1⟩
      | false=>exact⟨φ1,ρ,s1,c',s',Ev.mono g1 l1,R1,J,q.trans g1 l1⟩
     ·cases J
   | _=>exact ff h
 | .iteE c a r,S,hT,Y,h=>by
  cases S with
  | nil=>exact ff h
  | cons st S=>cases st with
   | If t l o p =>
    obtain⟨h,h3⟩:=zd h
    obtain⟨h1,Z⟩:=zd h
    have a3:noR a=true\/au8 X E:=hT.elim (λ z=>.inl (zd z).1) .inr
    have a0:noR r=true\/au8 X E:=hT.elim (λ z=>.inl (zd z).2) .inr
    have a2:noL a=true\/_:=Y.elim (λ z=>.inl (zd z).1) .inr
    have a1:noL r=true\/_:=Y.elim (λ z=>.inl (zd z).2) .inr
    refine(zF (ba7 (sE c _ X.nox ck G h1).2.nox (aq1 G xc XO hp a _ a3 a2 Z) (aq1 G xc XO hp r _ a0 a1 h3)) z9).imp λ D σ H q=>?_
    obtain⟨φ,ρ,s,c',s',Ev,R,J,q⟩:=q
    change(match lA F c ρ s with|.ok (.bl b) s1=>if b then l8 F a ρ s1 else l8 F r ρ s1|_=>none)=_ at J
    split at J
    ·rename_i b s1 e1
     refine⟨φ,ρ,s,b,s1,Ev,R,e1,λ φ1 H1 g1 l1 R1=>?_⟩
     cases b with
     | true=>exact⟨φ1,ρ,s1,c',s',Ev.mono g1 l1,R1,J,q.trans g1 l1⟩
     | false=>exact⟨φ1,ρ,s1,c',s',Ev.mono g1 l1,R1,J,q.trans g1 l1⟩
    ·cases J
   | _=>exact ff h
 | .seq st b,S,hT,Y,h=>by
  cases S with
  | nil=>exact ff h
  | cons x S =>
   obtain⟨h1,Z⟩:=zd h
   refine(zF (sS st _ X.nox ck G h1).nox (aq1 G xc XO hp b _ hT Y Z)).imp λ D σ H q=>?_
   obtain⟨φ,ρ,s,c',s',Ev,R,J,q⟩:=q
   change(match DV.ex F st ρ s with|.ok (.next ρ1) s1=>l8 F b ρ1 s1|_=>none)=_ at J
   split at J
   ·rename_i ρ1 s1 e1
    exact⟨φ,ρ,s,.next ρ1,s1,Ev,R,e1,λ φ1 H1 g1 l1 R1 σ1 a4=>⟨φ1,ρ1,s1,c',s',a4,R1,J,q.trans g1 l1⟩⟩
   ·cases J
 | .forX tg it b x,S,hT,Y,h=>by
  have Y:iW (model X.prog X.w) X.A X.env X.xe:=Y.elim (λ z=>by cases z) id
  cases S with
  | nil=>exact ff h
  | cons st S=>cases st with
   | For tgt iter l o p=>cases o with
    | cons _ _=>exact ff h
    | nil =>
     obtain⟨h,h4⟩:=zd h
     obtain⟨h,h3⟩:=zd h
     obtain⟨h1,Z⟩:=zd h
     have hb:PSs X l (λ D σ H=>TSv Γ (mn F b) D σ H\/TXv Γ X.mg (l8 F x) E D σ H):=λ B s σ H D I q=>q.elim (λ z=>(sSs b _ X.nox ck G h3).nox B s σ H D I z) (λ z=>aq1 G xc XO hp x _ hT (.inr Y) h4 B s σ H D I z)
     have hi:PI X tgt iter (TIv Γ (mY F it)):=(sI it _ _ X.nox ck G Z).nox
     have hg:PG X tgt (gOf Γ.K tg):=(ba0 G h1).nox
     refine(zF (bk6 Y G.calm hi hg hb (ar2 (bj8 Z))) z9).imp λ D σ H q=>?_
     exact bK7 (mI:=mY F it) (mb:=mn F b) (mx:=l8 F x) (tg:=tg) (q:TXv Γ X.mg _ E D σ H)
   | _=>exact ff h
 | .whlX c b x,S,hT,Y,h=>by
  have Y:iW (model X.prog X.w) X.A X.env X.xe:=Y.elim (λ z=>by cases z) id
  cases S with
  | nil=>exact ff h
  | cons st S=>cases st with
   | While t l o p=>cases o with
    | cons _ _=>exact ff h
    | nil =>
     obtain⟨h,h3⟩:=zd h
     obtain⟨h1,Z⟩:=zd h
     have hb:PSs X l (λ D σ H=>TSv Γ (mn F b) D σ H\/TXv Γ X.mg (l8 F x) E D σ H):=λ B s σ H D I q=>q.elim (λ z=>(sSs b _ X.nox ck G Z).nox B s σ H D I z) (λ z=>aq1 G xc XO hp x _ hT (.inr Y) h3 B s σ H D I z)
     exact(zF (aJ2 Y (sE c _ X.nox ck G h1).2.nox hb) z9).imp λ D σ H q=>bd9 (mc:=lA F c) (mb:=mn F b) (mx:=l8 F x) (q:TXv Γ X.mg _ E D σ H)
   | _=>exact ff h
theorem bz7 {tb:List Stmt}{h₀:eV}{hs:List eV}{p:Pos}{t:TS}(hx:X.xe=λ _ _=>False)(h:PSs X tb t):PS X (.Try tb (h₀::hs) [] [] p) t:=by
 intro B s σ H D I q
 refine j3 (a8 (h B s σ H D I q) (λ f s1 z=>?_) (λ e s1 z=>?_))
 ·cases f with
  | next=>exact cY z
  | _=>exact z
 ·rw[hx]at z;exact z.elim
def EH (C:Addr)(v:V)(D:Ends):XK:=λ _ o H'=>o=some C/\∀ H'',ad0 H' H''->D.rt v H''
theorem bo5 {tb:List Stmt}{x nm:Str}{i:Nat}{b₀:Stmt}{G:List Stmt}{np Z p:Pos}{hs:List eV}{m:lx->lv->Option (String×lv)}{b:V}{D':Addr}(a2:X.ex=[])(a3:X.stack=X.env::X.outer)(a6:X.env.frame=some X.env.locals)
  (hc:bD X.K (.ref C) (.ref D')=some true) (hg:Gl X x) (hm:X.mg x=some (.ref D')) (hd:(x==("__debug__":Str))=false) (hN:X.N.Nodup) (hi:X.N[i]?=some nm) (hl:X.env.scope.names.lookup nm=some .local)
  (a1:∀(pn:List (Addr×Obj)) (W:Value->af->Prop) (E:XK),ag3 (CX1 X.prog X.w) { X with pn:=pn,xe:=W } E->PSs { X with pn:=pn,xe:=W } tb (TXv Γ X.mg m E)) (a5:∀ a oe,oe.cls=.ref C->PSs (X.hnd a oe) (b₀::G) (tHd i a b)) :
  PS X (.Try tb (.ExceptHandler (some (.Name x np)) (some nm) (b₀::G) Z::hs) [] [] p) (λ D σ H=>TXv Γ X.mg m (EH C b D) D σ H):=by
 intro B s σ H D I q
 let W:Value->af->Prop:=λ e s₁=>wpAny (model X.prog X.w) X.A (jX e X.env) (λ _ s₂=>wpAny (model X.prog X.w) X.A (j2 e none) (λ _ s₃=>wpAny (model X.prog X.w) X.A (handleBy e X.env (.ExceptHandler (some (.Name x np)) (some nm) (b₀::G) Z::hs)) (SP X B D) X.xe s₃) X.xe s₂) X.xe s₁
 have b0:({ X with pn:=X.pn++B,xe:=W }:Cx).Ok:=⟨I.ok.mod,I.ok.kind,I.ok.glob,I.ok.blt,I.ok.above,I.ok.inj,I.ok.has,I.ok.cab,I.ok.hd,I.ok.frames,I.ok.stk,I.ok.exf,I.ok.bs,I.ok.bsz,I.ok.noex,I.ok.exfs,I.ok.funs,I.ok.frf⟩
 have I':Inv { X with pn:=X.pn++B,xe:=W } [] σ H s:=⟨b0,I.os,I.bare,I.base,I.loc,I.cell,I.free,I.freeC,λ p hp=>I.pin p (by rw[bh]at hp;exact hp),I.hok,I.len⟩
 have F:∀ {Y:List (Addr×Obj)} {σ':St} {H':Hp} {s':af},Inv { X with pn:=X.pn++B,xe:=W } Y σ' H' s'->Inv X B σ' H' s':=λ J=>⟨I.ok,J.os,J.bare,J.base,J.loc,J.cell,J.free,J.freeC,λ p hp=>J.pin p (cb _ hp),J.hok,J.len⟩
 have hp:ag3 (CX1 X.prog X.w) { X with pn:=X.pn++B,xe:=W } (EH C b D):=λ Y σ' H' s' e b1 J h=>by
  obtain⟨a,C',b2,rfl,T,eC,hq⟩:=CX1.tr J a2 h
  cases eC
  obtain⟨a0,oe,vs,T0,oT,ts,h1,h2,h3,h4,h5,h6,a4,h7⟩:=T.tr
  have hn:i < σ'.length:=by rw[J.len];exact(ah.mp hi).1
  exact aK7 ⟨F T.inv,T.n0,T.nH,λ p hp=>T.np p (cb _ hp),a0,oe,vs,T0,oT,ts,h1,h2,h3,h4,h5,h6,λ p hp=>a4 p (cb _ hp),h7⟩ a2 a3 a6 hc hg hm hd hN hi hl (a5 a) ⟨by rw[aO hn],hq⟩
 refine j3 (a8 (a1 _ W _ hp [] s σ H D I' q) (λ f s1 z=>?_) (λ e s1 z=>z))
 cases f with
 | next=>obtain⟨σ1,H1,J,z⟩:=z;exact cY ⟨σ1,H1,F J,z⟩
 | brk=>obtain⟨σ1,H1,J,z⟩:=z;exact⟨σ1,H1,F J,z⟩
 | cont=>obtain⟨σ1,H1,J,z⟩:=z;exact⟨σ1,H1,F J,z⟩
 | ret u=>obtain⟨v,σ1,H1,J,r,z⟩:=z;exact⟨v,σ1,H1,F J,r,z⟩
end
section
variable {Γ:Gm}
theorem aC0 {φ φ1:Nat->Addr}{H F:Hp}{s s1:lv}(R:Rp Γ φ H s)(g:Gr φ s H φ1 s1 F)(ho:nN s s1=true){i:Nat}{o:lV}(B:i<s.length)(e:s1[i]?=some o):o.bnd s.length=true:=by
 unfold nN at ho
 have:=aM.mp ho i (cA.mpr B)
 rw[e,bK]at this
 rcases this with h|h
 ·exact R.wf i o (of_decide_eq_true h).symm
 ·exact h
theorem qv {s1:lv}{k i:Nat}{o:lV}(e:(s1.take k)[i]?=some o):i<k/\s1[i]?=some o:=by
 rw[jy]at e
 split at e
 ·exact⟨‹_›,e⟩
 ·cases e
theorem aK6 {φ φ1:Nat->Addr}{H B:Hp}{s s1:lv}(R:Rp Γ φ H s)(g:Gr φ s H φ1 s1 B)(R1:Rp Γ φ1 B s1)(ho:nN s s1=true):Gr φ s H φ1 (s1.take s.length) B/\Rp Γ φ1 B (s1.take s.length):=by
 have hl:(s1.take s.length).length=s.length:=by rw[b7];have:=g.le;omega
 refine⟨⟨g.w,by rw[hl];exact ak _,λ i J G=>by rw[hl]at G;omega,λ i o F e e'=>g.kd i o F e (qv e').2,g.st,g.fr⟩,λ i j o F e e' m m' z=>R1.inj i j o F (qv e).2 (qv e').2 m m' z,λ i o e=>R1.obj i o (qv e).2,λ i o e=>?_,R1.tab⟩
 rw[hl]
 exact aC0 R g ho (qv e).1 (qv e).2
theorem qw {φ φ1:Nat->Addr}{H J:Hp}{s s1 s':lv}{v0 d:lw}{v:V}(R:Rp Γ φ H s)(g:Gr φ s H φ1 s1 J)(R1:Rp Γ φ1 J s1)(hb:v0.bnd s1.length=true)(r:RV Γ φ1 J v0 v)(h:nr s v0 s1=.ok d s') :
  ∃ φ',Gr φ s H φ' s' J/\s.length<=s'.length/\d.bnd s'.length=true/\RV Γ φ' J d v/\Rp Γ φ' J s':=by
 have all:d=v0->s'=s1->∃ φ',Gr φ s H φ' s' J/\s.length<=s'.length/\d.bnd s'.length=true/\RV Γ φ' J d v/\Rp Γ φ' J s':=λ e1 e2=>by
  subst e1;subst e2
  exact⟨φ1,g,g.le,hb,r,R1⟩
 unfold nr at h
 split at h
 case isFalse=>cases h;exact all rfl rfl
 rename_i ho
 obtain⟨gt,Rt⟩:=aK6 R g R1 ho
 have hl:(s1.take s.length).length=s.length:=by rw[b7];have:=g.le;omega
 have tk:d=v0->s'=s1.take s.length->v0.bnd s.length=true->∃ φ',Gr φ s H φ' s' J/\s.length<=s'.length/\d.bnd s'.length=true/\RV Γ φ' J d v/\Rp Γ φ' J s':=λ e1 e2 b=>by
  subst e1;subst e2
  exact⟨φ1,gt,by rw[hl];exact ak _,by rw[hl];exact b,r,Rt⟩
 split at h
 ·rename_i k
  split at h
  ·cases h
   exact tk rfl rfl (by unfold lB;exact decide_eq_true ‹_›)
  ·rename_i hk
   split at h
   ·rename_i o Z
    split at h
    ·rename_i Y
     cases h
     have gw:Gw φ1 s.length J (λ i=>if i=s.length then φ1 k else φ1 i) J:=⟨λ i B=>if_neg (aC B),Kp.refl _⟩
     have key:∀(i:Nat) (G:lV),(s1.take s.length++[o])[i]?=some G->(i<s.length/\s1[i]?=some G)\/(i=s.length/\G=o):=λ i G e=>by
      rcases f7 i s.length with h|h|h
      ·rw[aL (by rw[hl];exact h)]at e;exact .inl (qv e)
      ·subst h
       rw[aB (by rw[hl];exact ak _),hl,dE]at e
       exact .inr ⟨rfl,(ax e).symm⟩
      ·rw[bH (by rw[aE,hl];simp;omega)]at e;cases e
     have F:(s1.take s.length++[o]).length=s.length+1:=by rw[aE,hl];rfl
     refine⟨λ i=>if i=s.length then φ1 k else φ1 i,⟨⟨λ i B=>?_,g.w.kp⟩,by rw[F];omega,λ i h1 h2=>?_,λ i oo G e e'=>?_,g.st,g.fr⟩,by rw[F];omega,by unfold lB;rw[F];exact decide_eq_true (dC _),?_,⟨λ i j oi oj a0 a1 mi mj e=>?_,λ i G e=>?_,λ i G e=>?_,R1.tab⟩⟩
     ·show(if i=s.length then φ1 k else φ1 i)=φ i
      rw[if_neg (aC B)];exact g.w.map i B
     ·rw[F]at h2
      show H (if i=s.length then φ1 k else φ1 i)=none
      rw[if_pos (by omega)]
      exact g.new k (by omega) (ah.mp Z).1
     ·rcases key i G e' with⟨_,e2⟩|⟨B,_⟩
      ·exact g.kd i oo G e e2
      ·have:=(ah.mp e).1;omega
     ·rw[r.refE]
      unfold RV
      show V.ref (φ1 k)=V.ref (if s.length=s.length then φ1 k else φ1 s.length)
      rw[if_pos rfl]
     ·rcases key i oi a0 with⟨B,ei⟩|⟨B,zi⟩<;>rcases key j oj a1 with⟨hj,ej⟩|⟨hj,zj⟩
      ·rw[if_neg (aC B),if_neg (aC hj)]at e
       exact R1.inj i j oi oj ei ej mi mj e
      ·rw[if_neg (aC B),if_pos hj]at e
       subst zj
       have:=R1.inj i k oi _ ei Z mi mj e
       omega
      ·rw[if_neg (aC hj),if_pos B]at e
       subst zi
       have:=R1.inj k j _ oj Z ej mi mj e
       omega
      ·rw[B,hj]
     ·rcases key i G e with⟨B,e⟩|⟨B,rfl⟩
      ·show RO Γ _ _ (if i=s.length then φ1 k else φ1 i) G
       rw[if_neg (aC B)]
       exact(R1.obj i G e).mono gw (aC0 R g ho B e) λ _ u hu=>hu
      ·show RO Γ _ _ (if i=s.length then φ1 k else φ1 i) G
       rw[if_pos B]
       exact(R1.obj k _ Z).mono gw Y λ _ u hu=>hu
     ·rw[F]
      rcases key i G e with⟨B,e⟩|⟨_,rfl⟩
      ·exact zV (du _) _ (aC0 R g ho B e)
      ·exact zV (du _) _ Y
    ·cases h;exact all rfl rfl
   ·exact fb h
 ·split at h
  ·cases h;exact tk rfl rfl ‹_›
  ·cases h;exact all rfl rfl
structure LamGood (J:LamI)(L:mO):Prop where
 sc:LamScope (J.ps++J.fr) J.ps J.fr J.scope
 ps:J.ps.length=L.ps
 fr:J.fr.length=L.cs
 m:mE (ck0 (J.ps++J.fr) J.scope) L.body J.body=true
 pa:lamArgs J.params=some J.ps
 bind:∀(clos:List (Str×Addr)) (doc pm:Value) (c':Addr) (ctv:Value) (us:List Value),us.length=J.ps.length->d9 (dw "<lambda>" J.qual J.params J.body J.scope clos pm (.ref c') ctv) ⟨us,[]⟩=pure (J.ps.zip us) /\
  ∀(nm:Str) (rp:Pos),d9 (fX nm J.qual J.params [.Return (some J.body) rp] J.scope clos .none .none doc pm none (.ref c') ctv) ⟨us,[]⟩=pure (J.ps.zip us)
structure LkAt (Γ:Gm)(cds:List (Addr×Addr))(f:Str)(sc:Scope)(N:List Str)(fd:bI)(id:String)(caps:List Nat)(params:bW)(body:Expr)(scope:Scope)(c P:Addr)(J:LamI):Prop where
 code:fd.code=.ref c
 cd:(c,P)∈cds
 ck:lamCheck scope sc=true
 fre:∀ x,scope.names.lookup x=some .free->sc.names.lookup x=some .cell
 cel:∀ y∈sc.names,y.2=.cell->sc.names.lookup y.1=some .cell
 df:∀ env,defaultsOf params env=([],[])
 lg:Γ.lg id J
 q:J.qual=f ++ ".<locals>."++J.own
 p:J.params=params
 b:J.body=body
 s:J.scope=scope
 len:J.fr.length=caps.length
 at_:∀(i j:Nat) (x:Str),caps[i]?=some j->J.fr[i]?=some x->N[j]?=some x
 fr:∀ x∈J.fr,scope.names.lookup x=some .free
 tab:(P,J.qual)∈Γ.T
def br2 (Γ:Gm)(cds:List (Addr×Addr))(f:Str)(sc:Scope)(N:List Str)(fd:bI)(lk:String->List Nat->Expr->Bool):Prop :=
 ∀ id caps E,lk id caps E=true->∃ c P params body scope pos J,E=lamText J params body scope pos/\LkAt Γ cds f sc N fd id caps params body scope c P J
def GoodB (Γ:Gm)(cds:List (Addr×Addr))(mg:Str->Option Value)(f:String)(pc vc:Nat)(m:Ck->List Stmt->Bool):Prop:=∃ st N ps a fd lk,DefAt Γ.K mg (f:Str) st ps a fd/\FnScope N ps (defScope st)/\ps.length=pc/\N.length=pc+vc/\m ⟨N,defScope st,lk⟩ (zt st)=true/\br2 Γ cds (f:Str) (defScope st) N fd lk
def Good (Γ:Gm)(cds:List (Addr×Addr))(mg:Str->Option Value)(f:String)(d:mP):Prop:=GoodB Γ cds mg f d.ps d.vs λ ck S=>mSs ck d.body S
noncomputable def mT (ck:Ck)(d:DV.Tf)(S:List Stmt):Bool:=match S with
 | st::rest=>(match st with|.Try tb hs [] [] _=>(match hs with|[eh]=>(match eh with|.ExceptHandler (some en) (some nm) hb _=>(match en,hb with|.Name x _,b::su=>mSs ck d.body tb&&(mX ck d.xb tb&&(noR d.xb&&(noL d.xb&&(d.h.supOk d.c&&(decide (x=((d.h.cls d.c:String):Str))&&(ck.gl x&&(decide (ck.N[d.i]?=some nm)&&((ck.sc.names.lookup nm==some .local)&&(!(nm==("__debug__":Str))&&(!(nm==("__classdict__":Str))&&(mHd ck nm d.h (b::su)&&mSs ck d.tl rest)))))))))))|_,_=>false)|.ExceptHandler (some en) none hb _=>false|_=>false)|_=>false)|_=>false)
 | _=>false
structure PrOk (Γ:Gm)(cds:List (Addr×Addr))(P:lI)(mg:Str->Option Value)(w:World):Prop where
 df:∀ f d,P.df f=some d->Good Γ cds mg f d
 con:∀ x d,P.con x=some d->∃ v u,mg (x:Str)=some u/\RelV v u/\(∀ m,d.bnd m=true)/\∀ φ H,RV Γ φ H d v
 bi:∀ x∈bNames,mg x=none
 fa:∀(f:String) (a:Addr),Γ.fa f=some a->mg (f:Str)=some (.ref a)/\∃ oc od fd sl,Γ.K.lookup a=some ⟨oc,od,.func fd,sl⟩
 lg:∀ id J,Γ.lg id J->∃ L,P.lm id=some L/\LamGood J L
 nd:(Γ.T.map (·.1)).Nodup
 xf:∀ f d,P.xf f=some d->GoodB Γ cds mg f d.ps d.vs λ ck S=>mX ck d.body S
 tf:∀ f d,P.tf f=some d->GoodB Γ cds mg f d.ps d.vs λ ck S=>mT ck d S
 xc:∀ c:String,P.xc c=true->∃ C,mg (c:Str)=some (.ref C)/\ExcCls Γ.K C/\excI Γ.K C=true
 xt:∀ c:String,P.xt c=true->∃ C,mg (c:Str)=some (.ref C)
 xs:∀(c d:String) (C D:Addr),P.xc c=true->P.xt d=true->mg (c:Str)=some (.ref C)->mg (d:Str)=some (.ref D)->bF Γ.K (.ref C) (.ref D)=some (lK c d)
 xm:∀(c d:String) (C D:Addr),P.xc c=true->P.xt d=true->mg (c:Str)=some (.ref C)->mg (d:Str)=some (.ref D)->bD Γ.K (.ref C) (.ref D)=some (lK c d)
 xe:∀(c:String) (C:Addr),P.xc c=true->mg (c:Str)=some (.ref C)->bD Γ.K (.ref C) (.ref C)=some true
 v0:∀ c:String,P.xc c=true->mg ("ValueError":Str)=none
 v1:∀(c:String) (C:Addr),P.xc c=true->mg (c:Str)=some (.ref C)->bF Γ.K (.ref C) (.type "ValueError")=some true
 cdc:∀(c:String) kvs,P.cdc c=some kvs->∃ a,mg (c:Str)=some (.ref a)/\∀(prog:az) (h:Heap),Γ.K.In h->StrTab prog w h a (strD kvs)
noncomputable def am6 (Γ : Gm) (prog : Program) (w : World) (mg : Str -> Option Value) (base : Heap) (F : DV.Fns) (n : Nat) : Prop := (∀ f : String, (∀ l s, F.call f l s = .bad) \/
      ∃ a fd ps, FnOk prog w Γ.K mg base CX0 n a fd ps (spV Γ (F.call f)) /\ mg (f : Str) = some (.ref a) /\ cc Γ.K (.ref a) = true /\ Binds Γ.K fd ps []) /\
  ∀(id : String) (J : LamI) (f : Addr) (cap : List V) (clos : List (Str × Addr)), Γ.lg id J -> cap.length = J.fr.length -> ClOk prog w Γ.K mg base n (λ H => CloAt H f J cap clos) f (spL Γ (F.lam id) cap)
theorem at0 {φ:Nat->Addr}{H:Hp}{n k:Nat}{N:List Str}{l:List lw}{vs:List V}(r:RVL Γ φ H l vs)(b:ly n l=true)(hN:N.length=l.length+k):RE Γ φ H n (l.map some++aq k none) (qT N vs):=by
 have hl:=r.length
 refine⟨?_,λ i d e=>?_⟩
 ·unfold qT;simp[hl,hN]
 ·by_cases hi:i<l.length
  ·rw[aL (by simpa using hi),aH]at e
   have e':l[i]?=some d:=by
    rw[aj hi]at e ⊢
    exact ax e
   obtain⟨v,e1,e2⟩:=r.get e'
   refine⟨ag1 b e',v,?_,e2⟩
   unfold qT
   rw[aL (by rw[aw,hl];exact hi),aH,e1];rfl
  ·rw[aB (by simpa using jW hi)]at e
   rw[gy]at e
   split at e<;>cases e
theorem bk0 {F:List (Addr×Addr)}{P:lI}{prog:az}{w:World}{G:Str->Option Value}(Z:PrOk Γ F P G w)(n:Nat):∀(c:String) B,(lC P n).cdc c=some B->∃ a,G (c:Str)=some (.ref a)/\∀ h:Heap,Γ.K.In h->StrTab prog w h a (strD B):=by
 have:(lC P n).cdc=P.cdc:=by cases n<;>rfl
 rw[this]
 intro c B e
 obtain⟨a,Y,J⟩:=Z.cdc c B e
 exact⟨a,Y,J prog⟩
theorem aT3 {Z:List (Addr×Addr)}{P:lI}{prog:az}{w:World}{mg:Str->Option Value}{base:Heap}(hP:PrOk Γ Z P mg w)(hb:∀ y∈Z,bR base y.1 y.2/\BM mg base)(n:Nat)(F:am6 Γ prog w mg base (lC P n) (n+31))
  {f:String} {st:Stmt} {N ps:List Str} {a:Addr} {fd:bI} {lk:String->List Nat->Expr->Bool} (hS:FnScope N ps (defScope st)) (hL:br2 Γ Z (f:Str) (defScope st) N fd lk) (G:Value) (a3:∀ id B E,lk id B E=true->fd.code=G) (A:aN) (Y:List Env) (sh:af) (H:Hp) (E:XK) (hr:Room (n+31) (A.deeper (fe (f:Str) (defScope st) sh.heap.objs.size a G))) :
  CG Γ (lC P n) (n+31) (at4 CX0 prog w Γ.K mg base N (f:Str) (defScope st) a G A Y sh H E).nox ⟨N,defScope st,lk⟩:=by
 refine⟨rfl,rfl,hS.nd,rfl,rfl,?_,hr,λ x k e=>.inl e,λ _ _=>rfl,hP.bi,F.1,?_,λ id B E' a1=>?_,F.2,hP.fa,DV.ae3 P n,bk0 hP n⟩
 ·show lJ+1<=n+31
  unfold lJ;omega
 ·have:(lC P n).con=P.con:=by cases n<;>rfl
  rw[this];exact hP.con
 ·obtain⟨c,Pa,params,body,scope,pos,J,eE,L⟩:=hL id B E' a1
  obtain⟨a2,a6⟩:=hb _ L.cd
  obtain⟨L',_,lg⟩:=hP.lg id J L.lg
  refine⟨c,Pa,params,body,scope,pos,J,eE,⟨?_,a2,a6,L.ck,L.df _,L.lg,L.q,L.p,L.b,L.s,L.len,L.at_,L.fr,λ x hx=>?_,L.tab,hP.nd,λ _=>rfl,λ x c hx=>?_,lg.sc,lg.pa,λ a0 pm c' a5 us a4=>(lg.bind a0 .none pm c' a5 us a4).1⟩⟩
  ·show G=.ref c
   rw[<-a3 id B E' a1];exact L.code
  ·exact zQ (L.fre x hx)
  ·rcases zx (aG hx)with z|z
   ·exact .inl (L.cel (x,.cell) z rfl)
   ·exact absurd z (by simp)
theorem bD8 {a1:List (Addr×Addr)}{P:lI}{prog:az}{w:World}{mg:Str->Option Value}{base:Heap}(hP:PrOk Γ a1 P mg w)(hb:∀ y∈a1,bR base y.1 y.2/\BM mg base)(n:Nat)(a0:am6 Γ prog w mg base (lC P n) (n+31))
  {f:String} {d:mP} (e:P.df f=some d) {st:Stmt} {N ps:List Str} {a:Addr} {fd:bI} {lk:String->List Nat->Expr->Bool} (hD:DefAt Γ.K mg (f:Str) st ps a fd) (hS:FnScope N ps (defScope st)) (h1:ps.length=d.ps) (h2:N.length=d.ps+d.vs) (hm:mSs ⟨N,defScope st,lk⟩ d.body (zt st)=true) (hL:br2 Γ a1 (f:Str) (defScope st) N fd lk) :
  FnOk prog w Γ.K mg base CX0 (n+1+31) a fd ps (spV Γ ((lC P (n+1)).call f)):=by
 have Z:∀ vs H Q E,spV Γ ((lC P (n+1)).call f) vs H Q E->vs.length=ps.length:=λ vs H Q E q=>by
  obtain⟨φ,s,l,d',s',R,r,b,hc,k⟩:=q
  simp only[lC,e]at hc
  split at hc
  ·rw[r.length,h1];assumption
  ·exact fb hc
 have body:∀(F:Value),(∀ id B E,lk id B E=true->fd.code=F)->∀(A:aN) (Y:List Env) (sh:af) (H:Hp) (vs:List V) (Q:VK) (E:XK),Room (n+31) (A.deeper (fe (f:Str) (defScope st) sh.heap.objs.size a F))->spV Γ ((lC P (n+1)).call f) vs H Q E ->
   ∃ t,PSs (at4 CX0 prog w Γ.K mg base N (f:Str) (defScope st) a F A Y sh H E).nox (zt st) t/\t { nx:=λ _ H'=>Q .non H',rt:=Q } (qT N vs) H:=by
  intro F a3 A Y sh H vs Q E hr q
  have G:=aT3 hP hb n a0 hS hL (a:=a) F a3 A Y sh H E hr
  refine⟨_,sSs d.body (zt st) _ ⟨N,defScope st,lk⟩ G hm,?_⟩
  obtain⟨φ,s,l,d',s',R,r,b,hc,k⟩:=q
  simp only[lC,e]at hc
  split at hc
  case isFalse=>exact fb hc
  rename_i Z
  obtain⟨c,s1,e1,hc⟩:=aa1 hc
  refine⟨φ,l.map some++aq d.vs none,s,c,s1,at0 r b (by rw[h2,Z]),R,e1,λ φ1 H1 g1 l1 R1=>?_⟩
  cases c with
  | ret v0 =>
   intro v hb rv
   obtain⟨φ',g',l',b',r',R'⟩:=qw R g1 R1 hb rv hc
   exact k v φ' H1 g' l' b' r' R'
  | next ρ =>
   intro σ' _
   obtain⟨φ',g',l',b',r',R'⟩:=qw (v0:=.non) R g1 R1 rfl RV.nonI hc
   exact k .non φ' H1 g' l' b' r' R'
  | cont ρ=>exact fb hc
  | brk ρ=>exact fb hc
 by_cases hl:∃ id B E,lk id B E=true
 ·obtain⟨id,B,E,a2⟩:=hl
  obtain⟨c,Pa,params,a4,scope,pos,J,eE,L⟩:=hL id B E a2
  exact hD.fn.okC L.code hS Z (body _ λ _ _ _ _=>L.code)
 ·exact hD.fn.ok hS Z (λ F=>body F λ id B E h=>absurd ⟨id,B,E,h⟩ hl)
theorem Fun.okX {CX:CXT}{P:az}{w:World}{K:ac}{mg:Str->Option Value}{base:Heap}{x qual:Str}{st:Stmt}{f:Addr}{Y:bI}{N ps:List Str}{k:Nat}{sp:Sp}(F:Fun K x qual st f Y)(S:FnScope N ps (defScope st))(len:∀ vs H Q E,sp vs H Q E->vs.length=ps.length)
  (J:∀(G:Value),Y.code=G->∀(A:aN) (B:List Env) (s:af) (H:Hp) (vs:List V) (Q:VK) (E:XK),Room k (A.deeper (fe qual (defScope st) s.heap.objs.size f G))->sp vs H Q E ->
   ∃ t,PSs (at4 CX P w K mg base N qual (defScope st) f G A B s H E) (zt st) t/\t { nx:=λ _ H'=>Q .non H',rt:=Q } (qT N vs) H):FnOk P w K mg base CX (k+1) f Y ps sp:=by
 obtain⟨oc,od,kV,a0,pm,an,G,ct,a1,rfl,lk,hc⟩:=F.ex
 exact bA4 lk hc S len λ A B s H vs Q E hr Z=>J G rfl A B s H vs Q E hr Z
theorem bJ2 {J:List (Addr×Addr)}{P:lI}{w:World}{Y:Str->Option Value}(B:PrOk Γ J P Y w)(n:Nat):XC (lC P n) Γ.K Y:=by
 have e:(lC P n).xc=P.xc:=by cases n<;>rfl
 have e':(lC P n).xt=P.xt:=by cases n<;>rfl
 exact⟨λ c h=>B.xc c (by rw[e]at h;exact h),λ c h=>B.xt c (by rw[e']at h;exact h),λ c d C D G F=>B.xs c d C D (by rw[e]at G;exact G) (by rw[e']at F;exact F),λ c d C D G F=>B.xm c d C D (by rw[e]at G;exact G) (by rw[e']at F;exact F),λ c h=>B.v0 c (by rw[e]at h;exact h),λ c C h=>B.v1 c C (by rw[e]at h;exact h)⟩
theorem bC9 {Y:List (Addr×Addr)}{P:lI}{prog:az}{w:World}{F:Str->Option Value}{base:Heap}(hP:PrOk Γ Y P F w)(hb:∀ y∈Y,bR base y.1 y.2/\BM F base)(n:Nat)(J:am6 Γ prog w F base (lC P n) (n+31))(XO:XOk Γ prog w Γ.K F base (lC P n) (n+31))
  {f:String} {d:DV.Xf} (e:P.xf f=some d) {st:Stmt} {N ps:List Str} {a:Addr} {fd:bI} {lk:String->List Nat->Expr->Bool} (hD:DefAt Γ.K F (f:Str) st ps a fd) (hS:FnScope N ps (defScope st)) (h1:ps.length=d.ps) (h2:N.length=d.ps+d.vs) (hm:mX ⟨N,defScope st,lk⟩ d.body (zt st)=true) (hL:br2 Γ Y (f:Str) (defScope st) N fd lk) :
  FnOk prog w Γ.K F base (CX1 prog w) (n+1+31) a fd ps (spX Γ F ((lC P (n+1)).xcall f)):=by
 refine hD.fn.okX hS (λ vs H Q E q=>?_) λ Z a1 A B sh H vs Q E hr q=>?_
 ·obtain⟨φ,s,l,c,s',R,r,b,hc,k⟩:=q
  simp only[lC,e]at hc
  split at hc
  ·rw[r.length,h1];assumption
  ·cases hc
 ·have G:=aT3 hP hb n J hS hL (a:=a) Z (λ _ _ _ _=>a1) A B sh H E hr
  obtain⟨φ,s,l,c,s',R,r,b,hc,k⟩:=q
  simp only[lC,e]at hc
  split at hc
  case isFalse=>cases hc
  rename_i a0
  exact⟨_,aq1 (X:=at4 (CX1 prog w) prog w Γ.K F base N (f:Str) (defScope st) a Z A B sh H E) G (bJ2 hP n) XO bV2 d.body (zt st) (.inr bT9) (.inr PassesOwn.leaving) hm,φ,l.map some++aq d.vs none,s,c,s',at0 r b (by rw[h2,a0]),R,hc,k⟩
theorem bH7 {B:Ck}{nm:Str}{h:nJ}{S:List Stmt}{c:String}{s s':lv}(m:mHd B nm h S=true):h.out c s s'=nr s (h.vD c) s':=by
 cases h with
 | noe=>exact ff m
 | _=>rfl
theorem br1 {B:Ck}{nm:Str}{c:String}{φ:Nat->Addr}{H:Hp}{n:Nat}:∀ {h:nJ} {S:List Stmt},mHd B nm h S=true->(h.vD c).bnd n=true/\RV Γ φ H (h.vD c) (vV (h.vD c))
 | .ret _,S,m=>ff m
 | .iff _ _ _,S,m=>ff m
 | .nob b,S,_=>⟨rfl,RV.blI⟩
 | .noe,S,_=>⟨rfl,RV.nonI⟩
 | .iffN t h,S,m=>by
  show lB n (if t.val c then .non else h.vD c)=true/\RV Γ φ H (if t.val c then .non else h.vD c) (vV (if t.val c then .non else h.vD c))
  split
  ·exact⟨rfl,RV.nonI⟩
  ·cases S with
   | nil=>exact ff m
   | cons s S=>cases s with
    | If e l r p=>cases l with
     | nil=>exact ff m
     | cons l0 l=>cases l0 with
      | Return vo pr=>cases vo with
       | none=>exact ff m
       | some v=>cases v with
        | Constant k j pk=>cases k with
         | none=>cases l with
          | cons _ _=>exact ff m
          | nil=>cases r with
           | cons _ _=>exact ff m
           | nil=>exact br1 (zd m).2
         | _=>exact ff m
        | _=>exact ff m
      | _=>exact ff m
    | _=>exact ff m
 | .aoN a b,S,_=>by
  show lB n (if a.val c then(if b.val c then .bl true else .non)else .non)=true/\RV Γ φ H (if a.val c then(if b.val c then .bl true else .non)else .non) (vV (if a.val c then(if b.val c then .bl true else .non)else .non))
  split
  ·split
   ·exact⟨rfl,RV.blI⟩
   ·exact⟨rfl,RV.nonI⟩
  ·exact⟨rfl,RV.nonI⟩
 | .sup x h,S,m=>br1 (h:=h) m
theorem bD6 {cds : List (Addr × Addr)} {P : DV.Pr} {prog : Program} {w : World} {mg : Str -> Option Value} {base : Heap} (hP : PrOk Γ cds P mg w) (hb : ∀ y ∈ cds, PySem.W.CodeHd base y.1 y.2 /\ BM mg base) (n : Nat) (hcall : am6 Γ prog w mg base (DV.aa0 P n) (n + 31)) (XO : XOk Γ prog w Γ.K mg base (DV.aa0 P n) (n + 31))
    {f : String} {d : DV.Tf} (e0 : P.df f = none) (e : P.tf f = some d) {st : Stmt} {N ps : List Str} {a : Addr} {fd : bI} {lk : String -> List Nat -> Expr -> Bool} (hD : DefAt Γ.K mg (f : Str) st ps a fd) (hS : FnScope N ps (defScope st)) (h1 : ps.length = d.ps) (h2 : N.length = d.ps + d.vs) (hm : mT ⟨N, defScope st, lk⟩ d (zt st) = true) (hL : br2 Γ cds (f : Str) (defScope st) N fd lk) :
    FnOk prog w Γ.K mg base CX0 (n + 1 + 31) a fd ps (spV Γ ((lC P (n + 1)).call f)) := by
  refine hD.fn.okX hS (λ vs H Q E q => ?_) λ cdv hcd A outer sh H vs Q E hr q => ?_
  · obtain⟨φ, s, l, d', s', R, r, b, hc, k⟩ := q
    simp only[lC, e0, e]at hc
    split at hc
    · rw[r.length, h1]; assumption
    · exact fb hc
  have G := aT3 hP hb n hcall hS hL (a := a) cdv (λ _ _ _ _ => hcd) A outer sh H E hr
  have xc := bJ2 hP n
  obtain⟨φ, s, l, d', s', R, r, b, hc, k⟩ := q
  simp only[lC, e0, e]at hc
  split at hc
  case isFalse => exact fb hc
  rename_i hlen
  have E0 := at0 r b (k := d.vs) (N := N) (by rw[h2, hlen])
  unfold mT at hm
  split at hm
  case h_2 => exact ff hm
  rename_i st0 rest eb
  rw[eb]
  split at hm
  case h_2 => exact ff hm
  rename_i tb hs tp
  split at hm
  case h_2 => exact ff hm
  rename_i eh
  have run : mSs ⟨N, defScope st, lk⟩ d.body tb = true -> mSs ⟨N, defScope st, lk⟩ d.tl rest = true -> ((mn (lC P n) d.body (l.map some ++ aq d.vs none) s).bind λ c s1 => match c with
    | .ret v => nr s v s1
    | .next ρ => (mn (lC P n) d.tl ρ s1).bind λ c s2 => match c with
      | .ret v => nr s v s2
      | .next _ => nr s .non s2
      | _ => .bad
    | _ => .bad) = .ok d' s' -> ∃ t, PSs (at4 CX0 prog w Γ.K mg base N (f : Str) (defScope st) a cdv A outer sh H E) (.Try tb [eh] [] [] tp :: rest) t /\ t { nx := λ _ H' => Q .non H', rt := Q } (qT N vs) H := λ m1 m11 hc => by
    refine⟨_, (zF (bz7 (X := (at4 CX0 prog w Γ.K mg base N (f : Str) (defScope st) a cdv A outer sh H E).nox) rfl (sSs d.body tb _ ⟨N, defScope st, lk⟩ G m1)) (sSs d.tl rest _ ⟨N, defScope st, lk⟩ G m11)).nox, ?_⟩
    obtain⟨c, s1, e1, hc⟩ := aa1 hc
    refine⟨φ, l.map some ++ aq d.vs none, s, c, s1, E0, R, e1, λ φ1 H1 g1 l1 R1 => ?_⟩
    cases c with
    | ret v0 =>
      intro v hb rv
      obtain⟨φ', g', l', b', r', R'⟩ := qw R g1 R1 hb rv hc
      exact k v φ' H1 g' l' b' r' R'
    | next ρ =>
      intro σ' E1
      obtain⟨c, s2, e2, hc⟩ := aa1 hc
      refine⟨φ1, ρ, s1, c, s2, E1, R1, e2, λ φ2 H2 g2 l2 R2 => ?_⟩
      cases c with
      | ret v0 =>
        intro v hb rv
        obtain⟨φ', g', l', b', r', R'⟩ := qw R (g1.trans g2 l1) R2 hb rv hc
        exact k v φ' H2 g' l' b' r' R'
      | next ρ =>
        intro σ' _
        obtain⟨φ', g', l', b', r', R'⟩ := qw (v0 := .non) R (g1.trans g2 l1) R2 rfl RV.nonI hc
        exact k .non φ' H2 g' l' b' r' R'
      | cont ρ => exact fb hc
      | brk ρ => exact fb hc
    | cont ρ => exact fb hc
    | brk ρ => exact fb hc
  split at hm
  · rename_i en nm hb0 hp
    split at hm
    case h_2 => exact ff hm
    rename_i x np b0 su
    obtain⟨m1, hm⟩ := zd hm
    obtain⟨m2, hm⟩ := zd hm
    obtain⟨m3, hm⟩ := zd hm
    obtain⟨m3b, hm⟩ := zd hm
    obtain⟨m3c, hm⟩ := zd hm
    obtain⟨m4, hm⟩ := zd hm
    obtain⟨m5, hm⟩ := zd hm
    obtain⟨m6, hm⟩ := zd hm
    obtain⟨m7, hm⟩ := zd hm
    obtain⟨m8, hm⟩ := zd hm
    obtain⟨m9, hm⟩ := zd hm
    obtain⟨m10, m11⟩ := zd hm
    have ex := of_decide_eq_true m4
    have ei := of_decide_eq_true m6
    subst ex
    unfold DV.bf9 at hc
    split at hc
    · rename_i c s1 hx
      split at hc
      case isFalse => exact fb hc
      rename_i hcond
      obtain⟨rfl, hxc, hok⟩ := hcond
      rw[bH7 m10]at hc
      obtain⟨C, hC, hE, hI⟩ := xc.at_ _ hxc
      obtain⟨g1, g2, g3⟩ := G.gl m5
      have hloc : (defScope st).names.lookup nm = some .local := eq_of_beq m7
      have hd1 : (nm == ("__debug__" : Str)) = false := by simpa using m8
      have hd2 : (nm == ("__classdict__" : Str)) = false := by simpa using m9
      have kx : ∀ a', eD Γ.K (.ref a') (.ref C) (λ h => XAt h a' C) := λ a' => br0 hE hI
      obtain⟨D', hD', hexm⟩ : ∃ D', mg ((d.h.cls d.c : String) : Str) = some (.ref D') /\ bD Γ.K (.ref C) (.ref D') = some true := by
        have exn : (lC P n).xc = P.xc := by cases n <;> rfl
        cases hh : d.h with
        | sup x' h' =>
          rw[hh]at hok m3c
          have hxt : (lC P n).xt x' = true := (zd hok).1
          obtain⟨D', hD'⟩ := xc.cls x' hxt
          refine⟨D', hD', ?_⟩
          rw[xc.exm d.c x' C D' hxc hxt hC hD']
          exact congrArg some m3c
        | _ => exact⟨C, hC, hP.xe d.c C (by rw[exn]at hxc; exact hxc) hC⟩
      refine⟨_, (zF (bo5 (X := (at4 CX0 prog w Γ.K mg base N (f : Str) (defScope st) a cdv A outer sh H E).nox) (Γ := Γ) (C := C) (m := l8 (lC P n) d.xb) (b := vV (d.h.vD d.c)) (D' := D') (i := d.i) rfl rfl rfl hexm g1 hD' g2 hS.nd ei hloc (λ pn W E1 hpas => ?_) λ a' oe hcl => bp4 G xc hxc hC (kx a') hcl ei (.inl hloc) hd1 hd2 m10 hok) z9).nox, ?_⟩
      · have G' : CG Γ (DV.aa0 P n) (n + 31) ({ (at4 CX0 prog w Γ.K mg base N (f : Str) (defScope st) a cdv A outer sh H E).nox with pn := pn, xe := W } : Cx).nox ⟨N, defScope st, lk⟩ := ⟨G.K, G.N, G.nd, rfl, G.calm, G.deep, G.room, G.sc, G.fn, G.bi, G.call, G.con, λ id caps E' hlk => by
            obtain⟨c, Pa, params, body, scope, pos, J, eE, L⟩ := G.lam id caps E' hlk
            exact⟨c, Pa, params, body, scope, pos, J, eE, ⟨L.code, L.hd, L.bm, L.ck, L.df, L.lg, L.q, L.p, L.b, L.s, L.len, L.at_, L.fr, L.cl, L.tab, L.nd, L.fn, L.kd, L.gs, L.gp, L.gb⟩⟩, G.cl, G.fa, G.fk, G.cdc⟩
        exact aq1 (X := { (at4 CX0 prog w Γ.K mg base N (f : Str) (defScope st) a cdv A outer sh H E).nox with pn := pn, xe := W }) G' xc XO hpas d.xb tb (.inl m3) (.inl m3b) m2
      · refine⟨φ, l.map some ++ aq d.vs none, s, d.c, s1, E0, R, hx, λ φ' H' a' C' g' l' R' hC' => ?_⟩
        have hC' : mg (d.c : Str) = some (.ref C') := hC'
        rw[hC]at hC'
        cases hC'
        refine⟨rfl, λ H'' same => ?_⟩
        obtain⟨gs, Rs⟩ := R'.same same
        have vr := br1 (Γ := Γ) (c := d.c) (φ := φ') (H := H'') (n := s1.length) m10
        obtain⟨φ2, g2', l2, b2, r2, R2⟩ := qw (v0 := d.h.vD d.c) R (g'.trans gs l') Rs vr.1 vr.2 hc
        exact k _ φ2 H'' g2' l2 b2 r2 R2
    · exact run m1 m11 hc
  · exact ff hm
  · exact ff hm
theorem bq2 {b4:List (Addr×Addr)}{P:lI}{prog:az}{w:World}{mg:Str->Option Value}{base:Heap}(hP:PrOk Γ b4 P mg w)(n:Nat)(a0:am6 Γ prog w mg base (lC P n) (n+31))
  (id:String) (J:LamI) (f:Addr) (cap:List V) (F:List (Str×Addr)) (b3:Γ.lg id J) (a2:cap.length=J.fr.length) :
  ClOk prog w Γ.K mg base (n+1+31) (λ H=>CloAt H f J cap F) f (spL Γ ((lC P (n+1)).lam id) cap):=by
 obtain⟨L,eL,LG⟩:=hP.lg id J b3
 have a1:∀ vs H Q E,spL Γ ((lC P (n+1)).lam id) cap vs H Q E->vs.length=J.ps.length:=λ vs H Q E q=>by
  obtain⟨φ,s,cs,l,d,s',R,r,rc,b,bc,hc,k⟩:=q
  simp only[lC,eL]at hc
  split at hc
  ·rename_i hh;rw[r.length,LG.ps];exact hh.1
  ·exact fb hc
 have main:∀(A:aN) (Y:List Env) (sh:af) (H:Hp) (cd:Value) (vs:List V) (Q:VK),Room (n+31) (A.deeper (cV J.qual J.scope sh.heap.objs.size f cd (aK (sh.heap.objs.size+1) J.scope.names F)))->Cells F H->(∀ b o,Γ.K.lookup b=some o->H b=none)->spL Γ ((lC P (n+1)).lam id) cap vs H Q E0 ->
   ∃ t,PE (aB7 prog w Γ.K mg base (J.ps++J.fr) J.qual J.scope f cd F A Y sh H) J.body t/\t (vs.map some++cap.map some) (ac2 F H) λ v H'=>(∀ b,isC F b=true->H' b=none)->Q v (Put F H H'):=by
  intro A Y sh H cd vs Q hr B hK q
  have G:CG Γ (lC P n) (n+31) (aB7 prog w Γ.K mg base (J.ps++J.fr) J.qual J.scope f cd F A Y sh H) (ck0 (J.ps++J.fr) J.scope):=by
   refine⟨rfl,rfl,LG.sc.nd,rfl,rfl,?_,hr,λ x k e=>.inl e,λ x e=>?_,hP.bi,a0.1,?_,λ _ _ _ h=>(by cases h),a0.2,hP.fa,DV.ae3 P n,bk0 hP n⟩
   ·show lJ+1<=n+31
    unfold lJ;omega
   ·show(J.scope.names.lookup x==some .cell)=true
    rw[show J.scope.names.lookup x=some .cell from e];rfl
   ·have:(lC P n).con=P.con:=by cases n<;>rfl
    rw[this];exact hP.con
  refine⟨_,(sE L.body J.body _ (ck0 (J.ps++J.fr) J.scope) G LG.m).1,?_⟩
  obtain⟨φ,s,cs,l,d,s',R,r,rc,b,bc,hc,k⟩:=q
  simp only[lC,eL]at hc
  split at hc
  case isFalse=>exact fb hc
  rename_i hh
  obtain⟨h1,h2,h3⟩:=hh
  rw[ag,ag]at h3
  obtain⟨⟨b6,b5⟩,b2⟩:=h3
  obtain⟨v0,s1,e1,hc⟩:=aa1 hc
  have RD:Rp Γ φ (ac2 F H) s:=R.dropC B b2
  have b0:RVL Γ φ (ac2 F H) (l++cs) (vs++cap):=(RVL.dropC B l vs b6 r).append (RVL.dropC B cs cap b5 rc)
  refine⟨φ,l.map some++cs.map some,s,v0,s1,⟨by simp[r.length,rc.length],λ i x ei=>?_⟩,RD,e1,λ v φ1 H1 g1 l1 b1 r1 R1 a3=>?_⟩
  ·rw[<-bE,aH]at ei
   have a6:(l++cs)[i]?=some x:=by
    cases q:(l++cs)[i]? with
    | none=>rw[q]at ei;cases ei
    | some y=>rw[q]at ei;cases ei;rfl
   obtain⟨u,e3,e4⟩:=b0.get a6
   refine⟨ag1 (zO b bc) a6,u,?_,e4⟩
   rw[<-bE,aH,e3];rfl
  ·obtain⟨φ',g',l',b',r',R'⟩:=qw RD g1 R1 b1 r1 hc
   have gp:=Gr.put B a3 hK R' g'
   obtain⟨gs,Rs⟩:=R'.same (aX8 (H:=H) a3)
   exact k v φ' _ gp l' b' (RV.mono gs d v b' r') Rs
 unfold CloAt
 cases q:J.nm with
 | none=>exact bv6 LG.sc a1 a2 (λ pm c' Z us a4=>(LG.bind F .none pm c' Z us a4).1) (λ A Y sh H cd vs Q hr hat hK q=>by
   obtain⟨pm,c',Z,_,_,B,_⟩:=hat
   exact main A Y sh H cd vs Q hr B hK q)
 | some p=>exact bx4 LG.sc a1 a2 (λ a5 pm c' Z us a4=>(LG.bind F a5 pm c' Z us a4).2 _ _) (λ A Y sh H cd vs Q hr hat hK q=>by
   obtain⟨a5,pm,c',Z,_,_,B,_⟩:=hat
   obtain⟨t,h1,h2⟩:=main A Y sh H cd vs Q hr B hK q
   exact⟨_,zF (aH3 h1) as7,h2⟩)
theorem aF2 {a0:List (Addr×Addr)}{P:lI}{prog:az}{w:World}{mg:Str->Option Value}{base:Heap}(F:PrOk Γ a0 P mg w)(hb:∀ y∈a0,bR base y.1 y.2/\BM mg base):∀ n:Nat,am6 Γ prog w mg base (lC P n) (n+31)/\XOk Γ prog w Γ.K mg base (lC P n) (n+31)
 | 0=>⟨⟨λ f=>.inl λ l s=>rfl,λ id J f cap B _ _=>⟨λ A a1 s H us vs Q _ _ _ _ q=>by
   obtain⟨φ,s,cs,l,d,s',R,r,rc,b,bc,hc,k⟩:=q
   cases hc⟩⟩,λ f=>.inl λ l s=>rfl⟩
 | n+1=>by
  obtain⟨ih,XO⟩:=aF2 (prog:=prog) (w:=w) (base:=base) F hb n
  refine⟨⟨λ f=>?_,λ id J f cap B G Y=>bq2 F n ih id J f cap B G Y⟩,λ f=>?_⟩
  ·cases e:P.df f with
   | none =>
    cases e2:P.tf f with
    | none=>exact .inl λ l s=>by simp only[lC,e,e2]
    | some d =>
     obtain⟨st,N,ps,a,fd,lk,hD,hS,G,Y,hm,Z⟩:=F.tf f d e2
     exact .inr ⟨a,fd,ps,bD6 F hb n ih XO e e2 hD hS G Y hm Z,hD.mg,hD.fn.kp,hD.bi⟩
   | some d =>
    obtain⟨st,N,ps,a,fd,lk,hD,hS,G,Y,hm,Z⟩:=F.df f d e
    exact .inr ⟨a,fd,ps,bD8 F hb n ih e hD hS G Y hm Z,hD.mg,hD.fn.kp,hD.bi⟩
  ·cases e:P.xf f with
   | none=>exact .inl λ l s=>by simp only[lC,e]
   | some d =>
    obtain⟨st,N,ps,a,fd,lk,hD,hS,G,Y,hm,Z⟩:=F.xf f d e
    exact .inr ⟨a,fd,ps,bC9 F hb n ih XO e hD hS G Y hm Z,hD.mg,hD.fn.kp,hD.bi⟩
theorem bp5 {B:List (Addr×Addr)}{P:lI}{prog:az}{w:World}{F:Str->Option Value}{base:Heap}(G:PrOk Γ B P F w)(hb:∀ y∈B,bR base y.1 y.2/\BM F base)(n:Nat):am6 Γ prog w F base (lC P n) (n+31):=(aF2 G hb n).1
def spT (Γ:Gm):Sp:=λ vs H Q _=>∃(a:Addr) (ns:List Int),vs=[.ref a]/\SqF Γ.K H a (ns.map V.int)/\ns.length<=63/\TabsH Γ.T H/\∀ H',Q (.bl true) H'
theorem aE9 {φ:Nat->Addr}{H:Hp}:∀ ns:List Int,RVL Γ φ H (ns.map DV.D.int) (ns.map V.int)
 | []=>.nil
 | n::ns=>.cons RV.intI (aE9 ns)
theorem ay8 {m:Nat}:∀ ns:List Int,ly m (ns.map DV.D.int)=true
 | []=>rfl
 | n::ns=>by rw[aS];unfold ly;rw[ay8 ns];rfl
theorem bO2 {P:lI}{k:Nat}(h:∀ ns:List Int,ns.length<=63->∃ s',(lC P k).call "law" [.ref 0] [.ro (ns.map DV.D.int)]=.ok (.bl true) s')(vs:List V)(H:Hp)(Q:VK)(E:XK)(q:spT Γ vs H Q E):spV Γ ((lC P k).call "law") vs H Q E:=by
 obtain⟨a,ns,rfl,F,hl,hT,B⟩:=q
 obtain⟨s',hs⟩:=h ns hl
 refine⟨λ _=>a,[.ro (ns.map DV.D.int)],[.ref 0],.bl true,s',⟨λ i j o G e e' m m' _=>?_,λ i o e=>?_,λ i o e=>?_,hT⟩,.cons RV.refI .nil,?_,hs,λ v φ' H' g l b r R=>?_⟩
 ·cases i with
  | zero=>cases e;cases m
  | succ i=>cases e
 ·cases i with
  | zero=>cases e;exact⟨_,F,aE9 ns⟩
  | succ i=>cases e
 ·cases i with
  | zero=>cases e;unfold lD;exact ay8 ns
  | succ i=>cases e
 ·unfold ly lB ly;rfl
 ·rw[r.blE];exact B H'
theorem aH0 {B:List (Addr×Addr)}{F:Str->Option Value}:∀ {tbl:List (String×mP)},(∀ p∈tbl,Good Γ B F p.1 p.2)->∀ f d,tbl.lookup f=some d->Good Γ B F f d
 | [],_,f,d,h=>by cases h
 | (g,e)::tbl,H,f,d,h=>by
  rw[aY]at h
  cases q:f==g with
  | true =>
   rw[q]at h
   cases h
   rw[eq_of_beq q]
   exact H (g,_) (av ..)
  | false =>
   rw[q]at h
   exact aH0 (λ p hp=>H p (ai _ hp)) f d h
def ba6 (Γ:Gm)(mg:Str->Option Value)(x:String)(d:lw):Prop:=∃ v u,mg (x:Str)=some u/\RelV v u/\(∀ m,d.bnd m=true)/\∀ φ H,RV Γ φ H d v
theorem aV1 {B:Str->Option Value}:∀ {tbl:List (String×lw)},(∀ p∈tbl,ba6 Γ B p.1 p.2)->∀ f d,tbl.lookup f=some d->ba6 Γ B f d
 | [],_,f,d,h=>by cases h
 | (g,e)::tbl,H,f,d,h=>by
  rw[aY]at h
  cases q:f==g with
  | true =>
   rw[q]at h
   cases h
   rw[eq_of_beq q]
   exact H (g,_) (av ..)
  | false =>
   rw[q]at h
   exact aV1 (λ p hp=>H p (ai _ hp)) f d h
theorem bq3 {B:Str->Option Value}{x:String}{i:Int}{t:Tok}(h:B (x:Str)=some (.int i t)):ba6 Γ B x (.int i):=⟨.int i,_,h,⟨t,rfl⟩,λ _=>rfl,λ _ _=>RV.intI⟩
inductive ConV (Γ:Gm):lw->Value->Prop where
 | int (i:Int) (t:Tok):ConV Γ (.int i) (.int i t)
 | str (x:List Nat) (t:Tok) (h:x.length<=1000):ConV Γ (.str x) (.str ⟨x.toArray⟩ t)
inductive ConL (Γ:Gm):List lw->List Value->Prop where
 | nil:ConL Γ [] []
 | cons {d v l vs} (a:ConV Γ d v) (b:ConL Γ l vs):ConL Γ (d::l) (v::vs)
theorem by9 {Y:Str->Option Value}{x:String}{a:Addr}{o:Obj}{its:List Value}{n:Nat}{l:List lw}(h:Y (x:Str)=some (.ref a))(hk:Γ.K.lookup a=some o)(hc:o.cls=.type "tuple")(hd:o.data=.seq its.toArray n)(hz:its.length<=1000)
  (hl:ConL Γ l its) (J:lF l=false:=by rfl):ba6 Γ Y x (.tup l):=by
 have key:∃ B,Vals B its/\(∀ m,ly m l=true)/\∀ φ H,RVL Γ φ H l B:=by
  clear hd hz J
  induction hl with
  | nil=>exact⟨[],.nil,λ _=>rfl,λ _ _=>.nil⟩
  | cons a b ih =>
   obtain⟨B,G,F,h3⟩:=ih
   cases a with
   | int i t=>exact⟨.int i::B,.cons ⟨t,rfl⟩ G,λ m=>by unfold ly;rw[F];rfl,λ φ H=>.cons RV.intI (h3 φ H)⟩
   | str x t h=>exact⟨.str ⟨x.toArray⟩::B,.cons ⟨t,rfl⟩ G,λ m=>by unfold ly;rw[F];rfl,λ φ H=>.cons (RV.strI (by unfold lE;omega)) (h3 φ H)⟩
 obtain⟨B,G,F,h3⟩:=key
 refine⟨.ref a,_,h,rfl,λ m=>by unfold lB;exact F m,λ φ H=>RV.tupC (.inr ⟨o,its.toArray,n,hk,hc,hd,?_,G⟩) (λ z=>by rw[J]at z;cases z) (h3 φ H)⟩
 rw[ar];exact aG7 hz
end
theorem aN5 {P:az}{w:World}{K:ac}{Z mb:Str->Option Value}{k:Nat}{fa a:Addr}{fd:bI}{x:Str}{sp:Sp}{B:af}{vs:List Value}{ns:List Int}{tabs:List (Addr×Addr)}
  (KX:K.In B.heap) (b0:B.heap.Ns be Z) (hb:B.heap.Ns gI mb) (d1:∀ x:Str,x ≠ "__name__"->mb x=bv x) (c0:B.heap.NoLimit) (hg:B.gens=#[]) (c3:BM Z B.heap) (hT:kI tabs B.heap) (c2:kJ K=true)
  (ha:B.heap.get? a=some { cls:=.type "list",data:=.seq vs.toArray }) (hi:ko vs ns) (hl:ns.length<=aJ) (hr:Room k iY)
  (F:∀ base:Heap,K.In base->base.Ns be Z->BM Z base->(∀ q∈tabs,bR base q.1 q.2)->FnOk P w K Z base CX0 k fa fd [x] sp) (a3:∀(s:af) (u:Value),kn s fd ⟨[u],[]⟩ [(x,u)])
  (d2:∀ H:Hp,(∀ q∈tabs,H q.2=some (.tbl #[]))->SqL K H a (ns.map V.int)->(∀ u,H a=some u->(∃ o xs,u=.frz o (.lst xs))\/∃ ps,u=.tbl ps)->sp [.ref a] H (λ v _=>v=.bl true) E0) :
  fy (model P w) iY (.call (.ref fa) ⟨[.ref a],[]⟩) (λ r s'=>r=.ok (.ret (.bool true))/\OldK B.heap s'.heap/\s'.os=B.os/\fu s'.gens) B:=by
 have rv:=ay7 hi
 have a6:=hi.length
 have G:∀ b,b∈tabs.map (·.2)->B.heap.get? b=some (iT #[]):=λ b h=>by
  obtain⟨q,hq,rfl⟩:=aP.mp h
  exact(hT q hq).2
 have a1:∀ H:Hp,(∀ b u,H b=some u->(b=a/\∃ o xs,u=.frz o (.lst xs))\/(b∈tabs.map (·.2)/\u=.tbl #[]))->(∀ q∈tabs,H q.2=some (.tbl #[]))->SqL K H a (ns.map V.int)->HOk P w H B.heap->(H a≠none->K.lookup a=none) ->
   fy (model P w) iY (.call (.ref fa) ⟨[.ref a],[]⟩) (λ r s'=>r=.ok (.ret (.bool true))/\OldK B.heap s'.heap/\s'.os=B.os/\fu s'.gens) B:=by
  intro H hO f0 hS hok hK
  have un:∀ b o,B.heap.get? b=some o->o.cls≠.type "list"->(∀ vs,o.data≠.fields vs)->H b=none:=λ b o e n1 n2=>by
   cases q:H b with
   | none=>rfl
   | some u =>
    rcases hO b u q with⟨z,_⟩|⟨z,_⟩
    ·rw[z,ha]at e;cases e;exact absurd rfl n1
    ·rw[G b z]at e;cases e;exact absurd rfl (n2 #[])
  have J:∀ {b:Addr} {m:Str->Option Value},B.heap.Ns b m->(aZ5 B.heap H).Ns b m:=λ {b m} ⟨o,es,ep,e,d,r⟩=>by
   refine⟨o,es,ep,ai8 e ?_,d,r⟩
   cases q:H b with
   | none=>rfl
   | some u =>
    rcases hO b u q with⟨z,_⟩|⟨z,_⟩
    ·rw[z,ha]at e;cases e;cases d
    ·rw[G b z]at e;cases e;cases d
  have c1:K.In (aZ5 B.heap H):=λ b o e=>ai8 (KX b o e) (by
   cases q:H b with
   | none=>rfl
   | some u =>
    rcases hO b u q with⟨z,_⟩|⟨z,_⟩
    ·subst z
     rw[hK (by rw[q];simp)]at e;cases e
    ·have e2:=KX b o e
     rw[G b z]at e2
     have h2:=aM.mp c2 (b,o) (PySem.W.mem_of_lookupK e)
     have e3:o=iT #[]:=(ax e2).symm
     subst e3
     exact absurd (show false=true from h2) aR)
  have hM:Mod K Z (aZ5 B.heap H):=⟨c1,J b0,⟨mb,J hb,d1⟩,let⟨mc,h1,h2⟩:=c0;⟨mc,J h1,h2⟩⟩
  have c4:BM Z (aZ5 B.heap H):=by
   obtain⟨bm,ob,b1,b2,b3,b4,b5,b6⟩:=c3
   exact⟨bm,ob,b1,b2,ai8 b3 (un bm ob b3 (by rw[b4];nofun) (by rw[b6];nofun)),b4,b5,b6⟩
  have e5:∀ q∈tabs,bR (aZ5 B.heap H) q.1 q.2:=λ q hq=>by
   obtain⟨o,e4,a5,tf,a4,tg,d0,text,tt,e1,r1,r2⟩:=(hT q hq).1
   refine⟨o,e4,a5,tf,a4,tg,d0,text,tt,ai8 e1 ?_,r1,r2⟩
   cases q2:H q.1 with
   | none=>rfl
   | some u =>
    rcases hO _ u q2 with⟨z,_⟩|⟨z,_⟩
    ·rw[z,ha]at e1;cases e1;exact absurd r1 (by simp)
    ·rw[G _ z]at e1;cases e1;exact absurd r1 (by simp)
  have e0:Env0 P w K Z (aZ5 B.heap H) iY [] B H:=⟨rfl,hM,λ b o e=>bv9 e,Nat.le_of_eq (aQ3 _ _),trivial,λ b hb=>absurd (show b∈([]:List Addr)from hb) (by simp),hok,.of_eq hg⟩
  refine jH ((F _ c1 (J b0) c4 e5).run iY [] B H ⟨[.ref a],[]⟩ [.ref a] [.ref a] _ _ hr e0 (a3 B (.ref a)) (.cons rfl .nil) (d2 H f0 hS (λ u e=>(hO a u e).elim (λ z=>.inl z.2) (λ z=>.inr ⟨_,z.2⟩)))) λ r s' h=>?_
  cases r with
  | error e=>exact bj h
  | ok fl =>
   cases fl with
   | next=>exact bj h
   | brk=>exact bj h
   | cont=>exact bj h
   | ret u =>
    obtain⟨v,H',os,bare,a2,Y,r',q⟩:=h
    have q':v=.bl true:=q
    subst q'
    obtain rfl:u=Value.bool true:=r'
    have key:∀ b o,B.heap.get? b=some o->asItWas B.heap s'.heap b o/\∃ o',s'.heap.get? b=some o':=λ b o e=>by
     cases q:H b with
     | none =>
      have z:=a2.keep b o e q (by intro z;exact absurd (show b∈([]:List Addr)from z) (by simp)) (by simp)
      exact⟨.inl z,o,z⟩
     | some u =>
      rcases hO b u q with⟨_,ob,xs,z⟩|⟨z,z2⟩
      ·subst z
       have z2:=a2.frzs b ob _ q
       obtain⟨e1,_⟩:=hok b _ q
       obtain⟨e2,_⟩:=Y b _ z2
       rw[e]at e1;cases e1
       exact⟨.inl e2,_,e2⟩
      ·subst z2
       obtain⟨a0,z3⟩:=a2.tbls b _ q
       have g:s'.heap.get? b=some { cls:=.none,data:=.fields (#[]++a0) }:=Y b _ z3
       have e1:=G b z
       rw[e]at e1;cases e1
       obtain⟨p,hp,ep⟩:=aP.mp z
       refine⟨.inr (.inl ⟨?_,rfl,#[],a0,rfl,g⟩),_,g⟩
       have t:=((hT p hp).1.tab (hT p hp).2).isCodeTable
       rw[ep]at t
       exact t
    exact⟨rfl,⟨λ b o e=>(key b o e).1,λ b o e=>(key b o e).2⟩,os,bare⟩
 have tbl:∀ b,b∈tabs.map (·.2)->b≠a:=λ b h z=>by
  have e:=G b h
  rw[z,ha]at e;cases e
 cases hk:K.lookup a with
 | some o =>
  have e:=KX a o hk
  rw[ha]at e
  cases e
  refine a1 (λ b=>if b∈tabs.map (·.2)then some (.tbl #[])else none) (λ b u z=>?_) (λ q hq=>if_pos (bP hq)) (.inr ⟨_,vs.toArray,_,hk,rfl,rfl,rfl,by rw[ar,a6];exact hl,by simpa using rv⟩) (λ b u z=>?_) λ z=>?_
  ·by_cases hb:b∈tabs.map (·.2)
   ·have z':=(if_pos hb).symm.trans z
    cases z'
    exact .inr ⟨hb,rfl⟩
   ·have z':=(if_neg hb).symm.trans z
    cases z'
  ·by_cases hb:b∈tabs.map (·.2)
   ·have z':=(if_pos hb).symm.trans z
    cases z'
    exact G b hb
   ·have z':=(if_neg hb).symm.trans z
    cases z'
  ·exact absurd (if_neg λ y=>tbl a y rfl) z
 | none =>
  refine a1 (λ b=>if b=a then some (.frz { cls:=.type "list",data:=.seq vs.toArray } (.lst (ns.map V.int)))else if b∈tabs.map (·.2)then some (.tbl #[])else none) (λ b u z=>?_) (λ q hq=>?_) (.inl (.inr ⟨{ cls:=.type "list",data:=.seq vs.toArray },if_pos rfl⟩)) (λ b u z=>?_) λ _=>hk
  ·by_cases hb:b=a
   ·have z':=(if_pos hb).symm.trans z
    cases z'
    exact .inl ⟨hb,_,_,rfl⟩
   ·have z':=(if_neg hb).symm.trans z
    by_cases hc:b∈tabs.map (·.2)
    ·rw[if_pos hc]at z';cases z';exact .inr ⟨hc,rfl⟩
    ·rw[if_neg hc]at z';cases z'
  ·have hm:q.2∈tabs.map (·.2):=bP hq
   show(if _ then _ else if _ then _ else _)=_
   rw[if_neg (tbl _ hm),if_pos hm]
  ·by_cases hb:b=a
   ·have z':=(if_pos hb).symm.trans z
    cases z'
    subst hb
    exact⟨ha,by rw[aw];exact hl,vs,_,rv,ha⟩
   ·have z':=(if_neg hb).symm.trans z
    by_cases hc:b∈tabs.map (·.2)
    ·rw[if_pos hc]at z';cases z';exact G b hc
    ·rw[if_neg hc]at z';cases z'
theorem aS5 {ts:List Addr}{l:cW}{n k:Nat}{q:az}{loose:List Str}{XP:(Str->Option Value)->Heap->Prop}{YP:World->Heap->Prop}{d:DefRec}{K:Params->ac}{sp:ac->Sp}{x:Str}(names:List Str)
  (hn:l.most=some n) (b0:n<=aJ) (a3:d.params.defaults=[]) (hr:Room k iY)
  (hY:∀(w:World) (h:Heap),YP w h->(K w.params).In h/\∀ P∈ts,h.get? P=some (iT #[])) (a1:∀ w:World,bO8 (K w.params) names ts=true) (a2:∀ w:World,kJ (K w.params)=true)
  (F:∀(w:World) (Z:Str->Option Value) (fa:Addr) (h:Heap),(K w.params).In h->h.Ns be Z->Z d.name=some (.ref fa) ->
   ∃ fd:bI,(∀(s:af) (u:Value),kn s fd ⟨[u],[]⟩ [(x,u)]) /\
    ∀ base:Heap,(K w.params).In base->base.Ns be Z->BM Z base->bn2 (K w.params) names base->FnOk l.prog w (K w.params) Z base CX0 k fa fd [x] (sp (K w.params)))
  (a6:∀(K:ac) (H:Hp) (a:Addr) (ns:List Int),ns.length<=n->bp7 K names H->SqL K H a (ns.map V.int)->(∀ u,H a=some u->(∃ o xs,u=.frz o (.lst xs))\/∃ ps,u=.tbl ps)->sp K [.ref a] H (λ v _=>v=.bl true) E0) :
  kN q loose XP YP l.row.toRowW d [] (λ f vs=>kq f vs):=by
 refine Att.attach_call hn a3 λ w s₀ s₁ Z mb fa o pm cd b1 a vs ns G Y ho hd b2 a4 a0 J B hg=>?_
 obtain⟨KX,a5⟩:=hY w _ Y
 obtain⟨fd,hb,hF⟩:=F w Z fa _ KX G.T.g a4
 have hT:kI ((aw8 (K w.params) names).map (·.2)) s₁.heap:=λ p hp=>by
  obtain⟨y,hy,rfl⟩:=aP.mp hp
  obtain⟨h1,h2⟩:=ap3.mp hy
  have z:=aM.mp (a1 w) y.1 h1
  rw[h2]at z
  have z':(jZ (K w.params) y.2.1 y.2.2&&ts.contains y.2.2)=true:=z
  rw[ag]at z'
  exact⟨PySem.W.codeHd_of_K KX z'.1,a5 _ (by simpa using z'.2)⟩
 have hm:∀ x∈names,∀ c P,a9 (K w.params) x=some (c,P)->(c,P)∈(aw8 (K w.params) names).map (·.2):=λ x hx c P e=>aP.mpr ⟨(x,c,P),ap3.mpr ⟨hx,e⟩,rfl⟩
 refine aN5 (tabs:=(aw8 (K w.params) names).map (·.2)) KX G.T.g G.T.b G.T.builtins G.T.nolimit hg ?_ hT (a2 w) a0 J (am B b0) hr (λ base k1 k2 k3 k4=>hF base k1 k2 k3 λ x hx c P e=>k4 _ (hm x hx c P e)) hb λ H hO hS hF=>a6 (K w.params) H a ns B (λ x hx c P e=>hO _ (hm x hx c P e)) hS hF
 obtain⟨bm,ob,h1,h2,h3,h4,h5,h6⟩:=G.T.bmain
 exact⟨bm,ob,h1,h2,h3,h4,h5,h6⟩
def spB (names:List Str)(K:ac):Sp:=λ vs H Q _=>∃(a:Addr) (ns:List Int),vs=[.ref a]/\SqF K H a (ns.map V.int)/\ns.length<=63/\bp7 K names H/\∀ H',Q (.bl true) H'
theorem bL3 {names:List Str}{K:ac}{H:Hp}{a:Addr}{ns:List Int}(hl:ns.length<=63)(hB:bp7 K names H)(B:SqL K H a (ns.map V.int))(F:∀ u,H a=some u->(∃ o G,u=.frz o (.lst G))\/∃ ps,u=.tbl ps):spB names K [.ref a] H (λ v _=>v=.bl true) E0:=by
 refine⟨a,ns,rfl,⟨B,λ H' k=>?_⟩,hl,hB,λ _=>rfl⟩
 rcases B with(h|⟨o,h⟩)|h
 ·rcases F _ h with⟨_,_,z⟩|⟨_,z⟩<;>cases z
 ·exact .inl (.inr ⟨o,k _ _ h rfl⟩)
 ·exact .inr h
def cg3 (P:lI):String->LamI->Prop:=λ id J=>∃ L,P.lm id=some L/\LamGood J L
noncomputable def sfx (x:Str):Str:=if x = "letter_table" then "least_fee" else "<lambda>"
noncomputable def by3 (names:List Str)(K:ac):List (Addr×Str):=names.map λ x=>(((a9 K x).getD (0,0)).2,x ++ ".<locals>."++sfx x)
noncomputable def bx5 (names:List Str)(K:ac):List (Addr×Addr):=names.map λ x=>(a9 K x).getD (0,0)
noncomputable def bY8 (K:ac)(f:String):Option Addr:=match b9 K be (f:Str)with
 | some (some (.ref a))=>(match K.lookup a with
  | some ⟨_,_,.func _,_⟩=>some a
  | _=>none)
 | _=>none
theorem aH7 {K:ac}{f:String}{a:Addr}(h:bY8 K f=some a):b9 K be (f:Str)=some (some (.ref a))/\∃ oc od B sl,K.lookup a=some ⟨oc,od,.func B,sl⟩:=by
 unfold bY8 at h
 split at h
 ·rename_i F e
  split at h
  ·rename_i oc od B sl e2
   cases h
   exact⟨e,_,_,_,_,e2⟩
  ·cases h
 ·cases h
noncomputable abbrev aZ3 (names:List Str)(P:lI)(K:ac):Gm:=⟨K,bY8 K,cg3 P,by3 names K⟩
theorem bZ6 {names:List Str}{P:lI}{K:ac}{h:Heap}{B:Str->Option Value}(X:K.In h)(G:h.Ns be B):∀(f:String) (a:Addr),(aZ3 names P K).fa f=some a->B (f:Str)=some (.ref a)/\∃ oc od F sl,(aZ3 names P K).K.lookup a=some ⟨oc,od,.func F,sl⟩:=λ f a e=>⟨bT X G (aH7 e).1,(aH7 e).2⟩
theorem bg7 {names:List Str}{P:lI}{K:ac}(G:∀ x∈names,(a9 K x).isSome=true){vs:List V}{H:Hp}{Q:VK}{E:XK}(q:spB names K vs H Q E):spT (aZ3 names P K) vs H Q E:=by
 obtain⟨a,ns,e,F,hl,hB,B⟩:=q
 refine⟨a,ns,e,F,hl,TabsH.init λ p hp=>?_,B⟩
 simp only[by3,bM]at hp
 obtain⟨x,hx,rfl⟩:=aP.mp hp
 exact hB x hx _ _ (aq6 (G x hx))
theorem bi3 {names:List Str}{K:ac}{B:Str->Option Value}{base:Heap}(F:∀ x∈names,(a9 K x).isSome=true)(bm:BM B base)(hc:bn2 K names base):∀ y∈bx5 names K,bR base y.1 y.2/\BM B base:=λ y hy=>by
 obtain⟨x,hx,rfl⟩:=aP.mp hy
 exact⟨hc x hx _ _ (aq6 (F x hx)),bm⟩
theorem aC7 {p:bW}{ps:List Str}(h:lamArgs p=some ps):∃ args,p=⟨[],args,none,[],[],none,[]⟩/\args.map (·.arg)=ps:=by
 unfold lamArgs at h
 split at h
 ·exact⟨_,rfl,ax h⟩
 ·cases h
def bf2 (ps:List Str):Prop:=∀ params,lamArgs params=some ps->∀(qual:Str) (body:Expr) (scope:Scope) (clos:List (Str×Addr)) (doc pm:Value) (c':Addr) (ctv:Value) (us:List Value),us.length=ps.length->d9 (dw "<lambda>" qual params body scope clos pm (.ref c') ctv) ⟨us,[]⟩=pure (ps.zip us) /\
 ∀(nm:Str) (rp:Pos),d9 (fX nm qual params [.Return (some body) rp] scope clos .none .none doc pm none (.ref c') ctv) ⟨us,[]⟩=pure (ps.zip us)
noncomputable def aR3 (ps fr:List Str)(sc:Scope):Bool:=decide (sc.kind=.function)&&!sc.isCoroutine&&!sc.isGenerator&&decide ((ps++fr).Nodup)&&(ps.all λ x=>decide (sc.names.lookup x=some .local)||decide (sc.names.lookup x=some .cell))&&(fr.all λ x=>decide (sc.names.lookup x=some .free))&&(sc.names.all λ y=>!decide (y.2=.cell)||decide (sc.names.lookup y.1=some .cell))
theorem aV3 {ps fr:List Str}{sc:Scope}(h:aR3 ps fr sc=true):LamScope (ps++fr) ps fr sc:=by
 unfold aR3 at h
 simp only[ag,decide_eq_true_eq,eB,aM,bK]at h
 obtain⟨⟨⟨⟨⟨⟨J,F⟩,h3⟩,G⟩,B⟩,Y⟩,h7⟩:=h
 exact⟨J,F,h3,G,rfl,B,Y,λ y hy e=>by
  rcases h7 y hy with z|z
  ·rw[e]at z;simp at z
  ·exact z⟩
noncomputable def bI2 (scope sc:Scope):Bool:=scope.names.all λ y=>!decide (scope.names.lookup y.1=some .free)||decide (sc.names.lookup y.1=some .cell)
theorem bb9 {scope sc:Scope}(h:bI2 scope sc=true):∀ x,scope.names.lookup x=some .free->sc.names.lookup x=some .cell:=λ x hx=>by
 have:=aM.mp h (x,.free) (aG hx)
 simp only[bK,eB,decide_eq_false_iff_not,decide_eq_true_eq]at this
 rcases this with z|z
 ·exact absurd hx z
 ·exact z
noncomputable def lkB (sc:Scope)(N:List Str)(caps:List Nat)(params:bW)(body:Expr)(scope:Scope)(t:mO×List Str×List Str):Bool :=
 decide (lamArgs params=some t.2.1)&&decide (caps.map (λ j=>N[j]?)=t.2.2.map some)&&lamCheck scope sc&&bI2 scope sc&&aR3 t.2.1 t.2.2 scope&&decide (t.2.1.length=t.1.ps)&&decide (t.2.2.length=t.1.cs)&&mE (ck0 (t.2.1++t.2.2) scope) t.1.body body
noncomputable def lkG (f:Str)(sc:Scope)(N:List Str)(tab:List (String×mO×List Str×List Str))(id:String)(caps:List Nat)(E:Expr):Bool:=match tab.lookup id,E with
 | some t,.Lambda params body scope _=>decide (sfx f = "<lambda>")&&lkB sc N caps params body scope t
 | some t,.NamedExpr (.Name nm _) (.Lambda params body scope p1) p2=>decide (sfx f=nm)&&decide (p1=p2)&&lkB sc N caps params body scope t
 | _,_=>false
theorem br5 {names:List Str}{P:lI}{K:ac}{f:Str}{sc:Scope}{N:List Str}{fd:bI}{tab:List (String×mO×List Str×List Str)}(hf:f∈names)(G:fd.code=.ref ((a9 K f).getD (0,0)).1)(Y:∀ y∈sc.names,y.2=.cell->sc.names.lookup y.1=some .cell)
  (J:∀ id t,tab.lookup id=some t->P.lm id=some t.1/\bf2 t.2.1):br2 (aZ3 names P K) (bx5 names K) f sc N fd (lkG f sc N tab):=by
 intro id B E h
 have F:∀(t:mO×List Str×List Str) (params:bW) (body:Expr) (scope:Scope) (nm:Option (Str×Pos)),tab.lookup id=some t->lkB sc N B params body scope t=true->(match nm with|none => "<lambda>" | some p=>p.1)=sfx f ->
   LkAt (aZ3 names P K) (bx5 names K) f sc N fd id B params body scope ((a9 K f).getD (0,0)).1 ((a9 K f).getD (0,0)).2 ⟨f ++ ".<locals>."++sfx f,params,body,scope,t.2.1,t.2.2,nm⟩:=λ t params body scope nm e h hs=>by
  obtain⟨L,ps,fr⟩:=t
  unfold lkB at h
  simp only[ag,decide_eq_true_eq]at h
  obtain⟨⟨⟨⟨⟨⟨⟨h1,h2⟩,h3⟩,h4⟩,h5⟩,h6⟩,h7⟩,h8⟩:=h
  obtain⟨hL,hB⟩:=J id _ e
  obtain⟨args,rfl,a1⟩:=aC7 h1
  have Z:fr.length=B.length:=by have:=congrArg lf h2;simpa using this.symm
  have S:=aV3 h5
  refine⟨G,aP.mpr ⟨f,hf,rfl⟩,h3,bb9 h4,Y,λ env=>rfl,⟨L,hL,⟨S,h6,h7,h8,h1,λ a2 a3 pm c' a4 us a0=>hB _ h1 _ _ _ _ _ _ _ _ _ a0⟩⟩,?_,rfl,rfl,rfl,Z,λ i j x e1 e2=>?_,S.frs,aP.mpr ⟨f,hf,rfl⟩⟩
  ·show f ++ ".<locals>."++sfx f=f ++ ".<locals>."++LamI.own _
   unfold LamI.own
   rw[<-hs]<;>rfl
  ·have e3:(B.map (λ j=>N[j]?))[i]?=some (N[j]?):=by rw[aH,e1];rfl
   rw[h2,aH,e2]at e3
   exact(ax e3).symm
 unfold lkG at h
 split at h
 case h_3=>cases h
 ·rename_i t params body scope pos e
  rw[ag]at h
  exact⟨_,_,params,body,scope,pos,_,rfl,F t params body scope none e h.2 (of_decide_eq_true h.1).symm⟩
 ·rename_i t nm rp params body scope p1 p2 e
  rw[ag,ag]at h
  have ep:=of_decide_eq_true h.1.2
  subst ep
  exact⟨_,_,params,body,scope,p1,_,rfl,F t params body scope (some (nm,rp)) e h.2 (of_decide_eq_true h.1.1).symm⟩
theorem aT6 {names:List Str}{P:lI}{K:ac}{f:Str}{sc:Scope}{N:List Str}{B:bI}:br2 (aZ3 names P K) (bx5 names K) f sc N B (λ _ _ _=>false):=λ _ _ _ h=>by cases h
theorem cb0 {names:List Str}{P:lI}{K:ac}:∀ id J,(aZ3 names P K).lg id J->∃ L,P.lm id=some L/\LamGood J L:=λ _ _ h=>h
theorem bW0 {P:lI}{tab:List (String×mO×List Str×List Str)}(h:∀ p∈tab,P.lm p.1=some p.2.1/\bf2 p.2.2.1):∀ id t,tab.lookup id=some t->P.lm id=some t.1/\bf2 t.2.1:=by
 induction tab with
 | nil=>intro id t e;cases e
 | cons y l ih =>
  intro id t e
  rw[aY]at e
  cases q:id==y.1 with
  | true =>
   rw[q]at e
   cases e
   rw[eq_of_beq q]
   exact h y (av ..)
  | false =>
   rw[q]at e
   exact ih (λ p hp=>h p (ai _ hp)) id t e
def bS7 (K:ac)(n:Str)(st:Stmt):Prop:=∃(f:Addr) (od an:Option Addr) (sl:Array (Option Value)) (oc kV dc pm cd ct:Value),b9 K be n=some (some (.ref f)) /\
 K.lookup f=some ⟨oc,od,.func (cU n n (defArgs st) (zt st) (defScope st) .none kV dc pm an cd ct),sl⟩/\fJ K cd n=true/\cc K (.ref f)=true
def cc9 (n:Str)(st:Stmt)(ps:List Str):Prop:=∀(kV doc pm:Value) (an:Option Addr) (cdv ct:Value) (us:List Value),us.length=ps.length->d9 (cU n n (defArgs st) (zt st) (defScope st) .none kV doc pm an cdv ct) ⟨us,[]⟩=pure (ps.zip us)
theorem bd0 {Q:List Value->Prop}(h:Q [])(us:List Value)(hl:us.length=0):Q us:=by
 cases us with
 | nil=>exact h
 | cons _ _=>cases hl
theorem bdS {k:Nat}{Q:List Value->Prop}(h:∀ a us,us.length=k->Q (a::us))(us:List Value)(hl:us.length=k+1):Q us:=by
 cases us with
 | nil=>cases hl
 | cons a us=>exact h a us (Nat.succ.inj hl)
theorem bd1 {Q:List Value->Prop}(h:∀ a,Q [a]):∀ us:List Value,us.length=1->Q us:=bdS λ a=>bd0 (h a)
theorem bd2 {Q:List Value->Prop}(h:∀ a b,Q [a,b]):∀ us:List Value,us.length=2->Q us:=bdS λ a=>bd1 (h a)
theorem bd3 {Q:List Value->Prop}(h:∀ a b c,Q [a,b,c]):∀ us:List Value,us.length=3->Q us:=bdS λ a=>bd2 (h a)
theorem bd4 {Q:List Value->Prop}(h:∀ a b c d,Q [a,b,c,d]):∀ us:List Value,us.length=4->Q us:=bdS λ a=>bd3 (h a)
theorem bd5 {Q:List Value->Prop}(h:∀ a b c d e,Q [a,b,c,d,e]):∀ us:List Value,us.length=5->Q us:=bdS λ a=>bd4 (h a)
def DTB (names:List Str)(P:lI)(n:String)(pc vc:Nat)(m:Ck->List Stmt->Bool)(st:Stmt):Prop:=∃ N ps,FnScope N ps (defScope st)/\ps.length=pc/\N.length=pc+vc/\cc9 n st ps/\(m ⟨N,defScope st,λ _ _ _=>false⟩ (zt st)=true \/
 ((n:Str)∈names/\∃ tab,m ⟨N,defScope st,lkG n (defScope st) N tab⟩ (zt st)=true/\(∀ y∈(defScope st).names,y.2=.cell->(defScope st).names.lookup y.1=some .cell)/\∀ p∈tab,P.lm p.1=some p.2.1/\bf2 p.2.2.1))
def DT (names:List Str)(P:lI)(n:String)(d:mP)(st:Stmt):Prop:=DTB names P n d.ps d.vs (λ ck S=>mSs ck d.body S) st
theorem af8 {names:List Str}{P:lI}{K:ac}{h:Heap}{J:Str->Option Value}{n:String}{pc Z:Nat}{m:Ck->List Stmt->Bool}{st:Stmt}(X:K.In h)(G:h.Ns be J)(hT:∀ x∈names,(a9 K x).isSome=true)(hD:bS7 K n st)(hd:DTB names P n pc Z m st):GoodB (aZ3 names P K) (bx5 names K) J n pc Z m:=by
 obtain⟨f,od,an,sl,oc,kV,dc,pm,cd,ct,a,l,c,k⟩:=hD
 obtain⟨N,ps,Y,h2,h3,h4,B⟩:=hd
 have F:=bj3 (st:=st) l c k
 have D:DefAt K J n st ps f _:=⟨F,bT X G a,F.binds h4⟩
 rcases B with B|⟨hn,tab,B,h6,h7⟩
 ·exact⟨_,_,_,_,_,_,D,Y,h2,h3,B,aT6⟩
 ·exact⟨_,_,_,_,_,_,D,Y,h2,h3,B,br5 hn (PySem.W.law_code X G (aq6 (hT _ hn)) (bT X G a) (X _ _ l) rfl) h6 (bW0 h7)⟩
theorem good_of {names:List Str}{P:lI}{K:ac}{h:Heap}{B:Str->Option Value}{n:String}{d:mP}{st:Stmt}(X:K.In h)(G:h.Ns be B)(hT:∀ x∈names,(a9 K x).isSome=true)(hD:bS7 K n st)(hd:DT names P n d st):Good (aZ3 names P K) (bx5 names K) B n d:=af8 X G hT hD hd
theorem aC9 {α:Type}{Q:String->α->Prop}:∀ {tbl:List (String×α)},(∀ p∈tbl,Q p.1 p.2)->∀ f d,tbl.lookup f=some d->Q f d
 | [],_,f,d,h=>by cases h
 | (g,e)::tbl,H,f,d,h=>by
  rw[aY]at h
  cases q:f==g with
  | true =>
   rw[q]at h
   cases h
   rw[eq_of_beq q]
   exact H (g,_) (av ..)
  | false =>
   rw[q]at h
   exact aC9 (λ p hp=>H p (ai _ hp)) f d h
noncomputable def cb4 (K:ac)(c:String):Bool:=match b9 K be (c:Str)with|some (some (.ref C))=>bU3 K C&&(excI K C&&(bD K (.ref C) (.ref C)==some true&&(bF K (.ref C) (.type "ValueError")==some true&&b9 K be ("ValueError":Str)==some none)))|_=>false
noncomputable def ce5 (K:ac)(c:String):Bool:=match b9 K be (c:Str)with|some (some (.ref _))=>true|_=>false
noncomputable def cb8 (K:ac)(c d:String):Bool:=match b9 K be (c:Str),b9 K be (d:Str)with|some (some (.ref C)),some (some (.ref D))=>bF K (.ref C) (.ref D)==some (lK c d)&&bD K (.ref C) (.ref D)==some (lK c d)|_,_=>false
noncomputable def bs0 (K:ac)(cs ts:List String):Bool:=cs.all (cb4 K)&&(ts.all (ce5 K)&&cs.all λ c=>ts.all λ d=>cb8 K c d)
theorem al0 {K:ac}{h:Heap}{B:Str->Option Value}{cs ts:List String}(X:K.In h)(G:h.Ns be B)(hx:bs0 K cs ts=true) :
  (∀ c:String,cs.contains c=true->∃ C,B (c:Str)=some (.ref C)/\ExcCls K C/\excI K C=true)/\(∀ c:String,ts.contains c=true->∃ C,B (c:Str)=some (.ref C)) /\
  (∀(c d:String) (C D:Addr),cs.contains c=true->ts.contains d=true->B (c:Str)=some (.ref C)->B (d:Str)=some (.ref D)->bF K (.ref C) (.ref D)=some (lK c d)) /\
  (∀(c d:String) (C D:Addr),cs.contains c=true->ts.contains d=true->B (c:Str)=some (.ref C)->B (d:Str)=some (.ref D)->bD K (.ref C) (.ref D)=some (lK c d)) /\
  (∀(c:String) (C:Addr),cs.contains c=true->B (c:Str)=some (.ref C)->bD K (.ref C) (.ref C)=some true)/\(∀ c:String,cs.contains c=true->B ("ValueError":Str)=none) /\
  ∀(c:String) (C:Addr),cs.contains c=true->B (c:Str)=some (.ref C)->bF K (.ref C) (.type "ValueError")=some true:=by
 unfold bs0 at hx
 simp only[ag]at hx
 obtain⟨h1,h2,h3⟩:=hx
 have one:∀ c:String,cs.contains c=true->∃ C,B (c:Str)=some (.ref C)/\ExcCls K C/\excI K C=true/\bD K (.ref C) (.ref C)=some true/\bF K (.ref C) (.type "ValueError")=some true/\B ("ValueError":Str)=none:=λ c hc=>by
  have q:=aM.mp h1 c (di.mp hc)
  unfold cb4 at q
  split at q
  ·rename_i C e
   rw[ag,ag,ag,ag]at q
   exact⟨C,bT X G e,bv8 q.1,q.2.1,eq_of_beq q.2.2.1,eq_of_beq q.2.2.2.1,jz X G (eq_of_beq q.2.2.2.2)⟩
  ·cases q
 have two:∀(c d:String) (C D:Addr),cs.contains c=true->ts.contains d=true->B (c:Str)=some (.ref C)->B (d:Str)=some (.ref D)->bF K (.ref C) (.ref D)=some (lK c d)/\bD K (.ref C) (.ref D)=some (lK c d):=λ c d C D hc hd mc md=>by
  have q:=aM.mp (aM.mp h3 c (di.mp hc)) d (di.mp hd)
  unfold cb8 at q
  split at q
  ·rename_i J D' e1 e2
   have Y:=bT X G e1
   have Z:=bT X G e2
   rw[mc]at Y;cases Y
   rw[md]at Z;cases Z
   rw[ag]at q
   exact⟨eq_of_beq q.1,eq_of_beq q.2⟩
  ·cases q
 refine⟨λ c hc=>?_,λ c hc=>?_,λ c d C D a b e f=>(two c d C D a b e f).1,λ c d C D a b e f=>(two c d C D a b e f).2,λ c C hc F=>?_,λ c hc=>?_,λ c C hc F=>?_⟩
 ·obtain⟨C,a,b,e,_⟩:=one c hc;exact⟨C,a,b,e⟩
 ·have q:=aM.mp h2 c (di.mp hc)
  unfold ce5 at q
  split at q
  ·rename_i C e
   exact⟨C,bT X G e⟩
  ·cases q
 ·obtain⟨J,a,_,_,b,_⟩:=one c hc;rw[F]at a;cases a;exact b
 ·obtain⟨J,_,_,_,_,_,b⟩:=one c hc;exact b
 ·obtain⟨J,a,_,_,_,b,_⟩:=one c hc;rw[F]at a;cases a;exact b
end L2
end
noncomputable section
namespace DV
noncomputable def ax2:Df:=⟨"_law_bag",2,3,(.cons (.asg (.one 2) (.cst (.int 0))) (.cons (.ite (.cmp .lt (.var 1) (.bi .len (.cons (.var 0) .nil))) (.cons (.asg (.one 2) (.bi .abs (.cons (.ix (.var 0) (.var 1)) .nil))) .nil) .nil) (.cons (.asg (.one 3) (.bin .add (.bin .mul (.cst (.int 7919)) (.var 1)) (.cst (.int 17)))) (.cons (.for_ (.one 4) (.rng1 (.bi .min2 (.cons (.bi .len (.cons (.var 0) .nil)) (.cons (.cst (.int 60)) .nil)))) (.cons (.asg (.one 3) (.bin .mod (.bin .add (.bin .add (.bin .mul (.var 3) (.cst (.int 48271))) (.bin .mod (.ix (.var 0) (.var 4)) (.cst (.int 2147483647)))) (.var 4)) (.cst (.int 2147483629)))) .nil)) (.cons (.ite (.cmp .lt (.var 2) (.bin .pow (.cst (.int 10)) (.cst (.int 18)))) (.cons (.asg (.one 2) (.cst (.int 0))) .nil) .nil) (.cons (.ret (.lst (.cons (.var 2) (.cons (.var 3) .nil)))) .nil))))))⟩
noncomputable def ac6:Df:=⟨"_law_take",2,3,(.cons (.ite (.cmp .gt (.ix (.var 0) (.cst (.int 0))) (.cst (.int 0))) (.cons (.asg (.one 2) (.bin .mod (.ix (.var 0) (.cst (.int 0))) (.var 1))) (.cons (.setIx (.var 0) (.cst (.int 0)) (.bin .fdiv (.ix (.var 0) (.cst (.int 0))) (.var 1))) (.cons (.ret (.var 2)) .nil))) .nil) (.cons (.asg (.one 3) (.cst (.int 0))) (.cons (.asg (.one 4) (.cst (.int 1))) (.cons (.whl (.cmp .lt (.var 4) (.var 1)) (.cons (.setIx (.var 0) (.cst (.int 1)) (.bin .mod (.bin .add (.bin .mul (.ix (.var 0) (.cst (.int 1))) (.cst (.int 48271))) (.cst (.int 7919))) (.cst (.int 2147483647)))) (.cons (.asg (.one 3) (.bin .add (.bin .mul (.var 3) (.cst (.int 1073741789))) (.bin .mod (.bin .mul (.bin .fdiv (.ix (.var 0) (.cst (.int 1))) (.cst (.int 8))) (.cst (.int 69621))) (.cst (.int 1073741789))))) (.cons (.asg (.one 4) (.bin .mul (.var 4) (.cst (.int 1073741789)))) .nil)))) (.cons (.ret (.bin .mod (.var 3) (.var 1))) .nil)))))⟩
noncomputable def ad5:Df:=⟨"_law_rooms",2,1,(.cons (.asg (.one 2) (.call "_law_take" (.ex (.var 0) (.ex (.bin .shl (.cst (.int 1)) (.var 1)) .nil)))) (.cons (.ret (.mk .tuple (.compIf (.one 0) (.rng1 (.var 1)) (.cmp .eq (.bin .mod (.bin .fdiv (.var 1) (.bin .shl (.cst (.int 1)) (.var 0))) (.cst (.int 2))) (.cst (.int 1))) (.var 0) [none,some 2]))) .nil))⟩
noncomputable def aa7:Df:=⟨"letters_of",1,0,(.cons (.ret (.slU (.glob "LETTERS") (.ix (.var 0) (.cst (.int 0))))) .nil)⟩
noncomputable def aa9:Df:=⟨"rooms_of",1,0,(.cons (.ret (.ix (.var 0) (.cst (.int 1)))) .nil)⟩
noncomputable def ab3:Df:=⟨"begins_of",1,0,(.cons (.ret (.ix (.var 0) (.cst (.int 2)))) .nil)⟩
noncomputable def ab2:Df:=⟨"ends_of",1,0,(.cons (.ret (.ix (.var 0) (.cst (.int 3)))) .nil)⟩
noncomputable def ab0:Df:=⟨"doors_of",1,0,(.cons (.ret (.ix (.var 0) (.cst (.int 4)))) .nil)⟩
noncomputable def bn1:Df:=⟨"grid",2,2,(.cons (.asg (.one 2) (.lst .nil)) (.cons (.for_ (.one 3) (.rng1 (.var 0)) (.cons (.ex (.meth .append (.var 2) (.cons (.mk .tuple (.comp (.one 0) (.rng1 (.var 0)) (.callV 1 (.cons (.var 2) (.cons (.var 0) .nil))) [none,some 1,some 3])) .nil))) .nil)) (.cons (.ret (.mk .tuple (.seq (.var 2)))) .nil)))⟩
noncomputable def ab6:Df:=⟨"least",1,0,(.cons (.ret (.mkD .min (.compIf (.one 0) (.seq (.var 0)) (.notN (.var 0)) (.var 0) [none]) (.cst .non))) .nil)⟩
noncomputable def ac0:Df:=⟨"added",2,0,(.cons (.ite (.or (.isN (.var 0)) (.isN (.var 1))) (.cons (.ret (.cst .non)) .nil) .nil) (.cons (.ret (.bin .add (.var 0) (.var 1))) .nil))⟩
noncomputable def af0:Df:=⟨"cut",2,0,(.cons (.ite (.or (.isN (.var 0)) (.cmp .le (.var 0) (.var 1))) (.cons (.ret (.var 0)) .nil) .nil) (.cons (.ret (.bin .add (.var 1) (.cst (.int 1)))) .nil))⟩
noncomputable def ae7:Df:=⟨"_law_bound",1,0,(.cons (.ret (.ix (.lst (.cons (.call "_law_take" (.ex (.var 0) (.ex (.cst (.int 3)) .nil))) (.cons (.call "_law_take" (.ex (.var 0) (.ex (.cst (.int 13)) .nil))) (.cons (.call "_law_take" (.ex (.var 0) (.ex (.bin .pow (.cst (.int 10)) (.cst (.int 9))) .nil))) (.cons (.call "_law_take" (.ex (.var 0) (.ex (.bin .pow (.cst (.int 10)) (.cst (.int 30))) .nil))) .nil))))) (.call "_law_take" (.ex (.var 0) (.ex (.cst (.int 4)) .nil))))) .nil)⟩
noncomputable def ab4:Df:=⟨"first_row",1,1,(.cons (.asg (.one 1) (.call "begins_of" (.ex (.var 0) .nil))) (.cons (.ret (.mk .tuple (.comp (.one 0) (.rng1 (.call "rooms_of" (.ex (.var 0) .nil))) (.ite (.cmp .isin (.var 0) (.var 1)) (.cst (.int 0)) (.cst .non)) [none,some 1]))) .nil))⟩
noncomputable def aa3:Df:=⟨"least_into",4,0,(.cons (.ret (.call "least" (.ex (.mk .list (.compIf (.tup [0,1,2,3]) (.seq (.call "doors_of" (.ex (.var 0) .nil))) (.and (.cmp .eq (.var 1) (.var 4)) (.cmp .eq (.var 2) (.var 5))) (.call "added" (.ex (.ix (.var 6) (.var 0)) (.ex (.var 3) .nil))) [none,none,none,none,some 2,some 3,some 1])) .nil))) .nil)⟩
noncomputable def ah2:Df:=⟨"led",4,0,(.cons (.ret (.mk .tuple (.comp (.one 0) (.rng1 (.call "rooms_of" (.ex (.var 0) .nil))) (.call "cut" (.ex (.call "least_into" (.ex (.var 1) (.ex (.var 2) (.ex (.var 3) (.ex (.var 0) .nil))))) (.ex (.var 4) .nil))) [none,some 0,some 2,some 3,some 1]))) .nil)⟩
noncomputable def ab5:Df:=⟨"end_of",2,0,(.cons (.ret (.call "least" (.ex (.mk .list (.comp (.one 0) (.seq (.call "ends_of" (.ex (.var 0) .nil))) (.ix (.var 1) (.var 0)) [none,some 1])) .nil))) .nil)⟩
noncomputable def ac1:Df:=⟨"_law_machine",1,5,(.cons (.asg (.one 1) (.bin .add (.cst (.int 1)) (.call "_law_take" (.ex (.var 0) (.ex (.cst (.int 3)) .nil))))) (.cons (.asg (.one 2) (.bin .add (.cst (.int 1)) (.call "_law_take" (.ex (.var 0) (.ex (.cst (.int 5)) .nil))))) (.cons (.asg (.one 3) (.call "_law_take" (.ex (.var 0) (.ex (.cst (.int 13)) .nil)))) (.cons (.ite (.cmp .eq (.call "_law_take" (.ex (.var 0) (.ex (.cst (.int 8)) .nil))) (.cst (.int 7))) (.cons (.asg (.one 3) (.call "_law_take" (.ex (.var 0) (.ex (.cst (.int 31)) .nil)))) .nil) .nil) (.cons (.asg (.one 4) (.lst .nil)) (.cons (.for_ (.one 5) (.rng1 (.var 3)) (.cons (.ex (.meth .append (.var 4) (.cons (.tup (.cons (.call "_law_take" (.ex (.var 0) (.ex (.var 2) .nil))) (.cons (.ix (.cst (.str [97,98,99])) (.call "_law_take" (.ex (.var 0) (.ex (.var 1) .nil)))) (.cons (.call "_law_take" (.ex (.var 0) (.ex (.var 2) .nil))) (.cons (.call "_law_take" (.ex (.var 0) (.ex (.cst (.int 4)) .nil))) .nil))))) .nil))) .nil)) (.cons (.ret (.tup (.cons (.var 1) (.cons (.var 2) (.cons (.call "_law_rooms" (.ex (.var 0) (.ex (.var 2) .nil))) (.cons (.call "_law_rooms" (.ex (.var 0) (.ex (.var 2) .nil))) (.cons (.mk .tuple (.seq (.var 4))) .nil))))))) .nil)))))))⟩
noncomputable def ad1:Df:=⟨"_law_first",1,0,(.cons (.ret (.mk .tuple (.comp (.one 0) (.rng1 (.ix (.var 0) (.cst (.int 1)))) (.ix (.lst (.cons (.cst .non) (.cons (.cst (.int 0)) .nil))) (.bi .int (.cons (.cmp .isin (.var 0) (.ix (.var 1) (.cst (.int 2)))) .nil))) [none,some 0]))) .nil)⟩
noncomputable def am9:Df:=⟨"_law_end",2,0,(.cons (.ret (.mkD .min (.compIf (.one 0) (.seq (.ix (.var 0) (.cst (.int 3)))) (.notN (.ix (.var 1) (.var 0))) (.ix (.var 1) (.var 0)) [none,some 1]) (.cst .non))) .nil)⟩
noncomputable def ab8:Df:=⟨"rows_met",2,4,(.cons (.asg (.one 2) (.call "first_row" (.ex (.var 0) .nil))) (.cons (.asg (.one 3) (.lst (.cons (.tup (.cons (.cst (.str [])) (.cons (.var 2) .nil))) .nil))) (.cons (.asg (.one 4) (.dicU (.var 2) (.cst (.bl true)))) (.cons (.asg (.one 5) (.cst (.int 0))) (.cons (.whl (.and (.cmp .lt (.var 5) (.bi .len (.cons (.var 3) .nil))) (.not (.call "ends_above" (.ex (.var 0) (.ex (.var 1) (.ex (.ix (.ix (.var 3) (.neg (.cst (.int 1)))) (.cst (.int 1))) .nil)))))) (.cons (.ex (.call "meet_behind" (.ex (.var 0) (.ex (.var 1) (.ex (.ix (.var 3) (.var 5)) (.ex (.var 3) (.ex (.var 4) .nil))))))) (.cons (.aug 5 (.cst (.int 1))) .nil))) (.cons (.ret (.var 3)) .nil))))))⟩
noncomputable def aa5:Df:=⟨"ends_above",3,0,(.cons (.ret (.cmp .eq (.call "end_of" (.ex (.var 0) (.ex (.var 2) .nil))) (.bin .add (.var 1) (.cst (.int 1))))) .nil)⟩
noncomputable def aa4:Df:=⟨"meet_behind",5,2,(.cons (.for_ (.one 5) (.seq (.call "letters_of" (.ex (.var 0) .nil))) (.cons (.asg (.one 6) (.call "led" (.ex (.var 0) (.ex (.var 1) (.ex (.ix (.var 2) (.cst (.int 1))) (.ex (.var 5) .nil)))))) (.cons (.ite (.cmp .isin (.var 6) (.var 4)) (.cons .cont .nil) .nil) (.cons (.ite (.cmp .eq (.bi .len (.cons (.var 3) .nil)) (.glob "MOST_ROWS")) (.cons .raise .nil) .nil) (.cons (.setIx (.var 4) (.var 6) (.cst (.bl true))) (.cons (.ex (.meth .append (.var 3) (.cons (.tup (.cons (.bin .add (.ix (.var 2) (.cst (.int 0))) (.var 5)) (.cons (.var 6) .nil))) .nil))) (.cons (.ite (.call "ends_above" (.ex (.var 0) (.ex (.var 1) (.ex (.var 6) .nil)))) (.cons .retN .nil) .nil) .nil))))))) .nil)⟩
noncomputable def ad8:Df:=⟨"above",2,1,(.cons (.asg (.one 2) (.ix (.call "rows_met" (.ex (.var 0) (.ex (.var 1) .nil))) (.neg (.cst (.int 1))))) (.cons (.ite (.call "ends_above" (.ex (.var 0) (.ex (.var 1) (.ex (.ix (.var 2) (.cst (.int 1))) .nil)))) (.cons (.ret (.ix (.var 2) (.cst (.int 0)))) .nil) .nil) (.cons (.ret (.cst .non)) .nil)))⟩
noncomputable def ac9:Df:=⟨"_law_led",4,6,(.cons (.asg (.one 4) (.mk .list (.comp (.one 0) (.seq (.var 2)) (.cst .non) [none]))) (.cons (.for_ (.tup [5,6,7,8]) (.seq (.ix (.var 0) (.cst (.int 4)))) (.cons (.ite (.and (.cmp .eq (.var 6) (.var 3)) (.notN (.ix (.var 2) (.var 5)))) (.cons (.asg (.one 9) (.bi .min2 (.cons (.bin .add (.ix (.var 2) (.var 5)) (.var 8)) (.cons (.bin .add (.var 1) (.cst (.int 1))) .nil)))) (.cons (.ite (.or (.isN (.ix (.var 4) (.var 7))) (.cmp .lt (.var 9) (.ix (.var 4) (.var 7)))) (.cons (.setIx (.var 4) (.var 7) (.var 9)) .nil) .nil) .nil)) .nil) .nil)) (.cons (.ret (.mk .tuple (.seq (.var 4)))) .nil)))⟩
noncomputable def ad7:Df:=⟨"_law_found",2,6,(.cons (.asg (.one 2) (.lst (.cons (.call "_law_first" (.ex (.var 0) .nil)) .nil))) (.cons (.asg (.one 3) (.lst (.cons (.cst (.str [])) .nil))) (.cons (.asg (.one 4) (.dicU (.ix (.var 2) (.cst (.int 0))) (.cst (.bl true)))) (.cons (.for_ (.one 5) (.rng1 (.cst (.int 300))) (.cons (.ite (.cmp .eq (.var 5) (.bi .len (.cons (.var 2) .nil))) (.cons (.ret (.var 3)) .nil) .nil) (.cons (.for_ (.one 6) (.seq (.slU (.cst (.str [97,98,99])) (.ix (.var 0) (.cst (.int 0))))) (.cons (.asg (.one 7) (.call "_law_led" (.ex (.var 0) (.ex (.var 1) (.ex (.ix (.var 2) (.var 5)) (.ex (.var 6) .nil)))))) (.cons (.ite (.cmp .notin (.var 7) (.var 4)) (.cons (.ite (.cmp .eq (.bi .len (.cons (.var 2) .nil)) (.cst (.int 300))) (.cons (.ret (.cst .non)) .nil) .nil) (.cons (.setIx (.var 4) (.var 7) (.cst (.bl true))) (.cons (.ex (.meth .append (.var 2) (.cons (.var 7) .nil))) (.cons (.ex (.meth .append (.var 3) (.cons (.bin .add (.ix (.var 3) (.var 5)) (.var 6)) .nil))) (.cons (.ite (.cmp .eq (.call "_law_end" (.ex (.var 0) (.ex (.var 7) .nil))) (.bin .add (.var 1) (.cst (.int 1)))) (.cons (.ret (.var 3)) .nil) .nil) .nil))))) .nil) .nil))) .nil))) (.cons (.ret (.var 3)) .nil)))))⟩
noncomputable def ab9:Df:=⟨"law",1,10,(.cons (.asg (.one 1) (.call "_law_bag" (.ex (.var 0) (.ex (.cst (.int 0)) .nil)))) (.cons (.asg (.one 2) (.call "_law_machine" (.ex (.var 1) .nil))) (.cons (.asg (.one 3) (.call "_law_bound" (.ex (.var 1) .nil))) (.cons (.ite (.cmp .eq (.call "_law_take" (.ex (.var 1) (.ex (.cst (.int 2)) .nil))) (.cst (.int 1))) (.cons (.asg (.tup [4,5,6,7,8]) (.var 2)) (.cons (.asg (.one 9) (.mk .tuple (.compIf (.one 0) (.rng1 (.var 5)) (.or (.cmp .eq (.var 0) (.cst (.int 0))) (.cmp .isin (.var 0) (.var 1))) (.var 0) [none,some 6]))) (.cons (.asg (.one 2) (.tup (.cons (.var 4) (.cons (.var 5) (.cons (.var 9) (.cons (.var 7) (.cons (.bin .add (.var 8) (.tup (.cons (.tup (.cons (.cst (.int 0)) (.cons (.cst (.str [97])) (.cons (.cst (.int 0)) (.cons (.cst (.int 1)) .nil))))) .nil))) .nil))))))) .nil))) .nil) (.cons (.asg (.one 10) (.call "_law_found" (.ex (.var 2) (.ex (.var 3) .nil)))) (.cons (.ite (.or (.cmp .ne (.call "_law_refused" (.ex (.var 2) (.ex (.var 3) (.ex (.cst (.int 0)) .nil)))) (.isN (.var 10))) (.cmp .ne (.call "_law_refused" (.ex (.var 2) (.ex (.var 3) (.ex (.cst (.int 1)) .nil)))) (.isN (.var 10)))) (.cons (.ret (.cst (.bl false))) .nil) .nil) (.cons (.ite (.isN (.var 10)) (.cons (.ret (.cst (.bl true))) .nil) .nil) (.cons (.ret (.cmp .eq (.mk .list (.comp (.tup [0,1]) (.seq (.call "rows_met" (.ex (.var 2) (.ex (.var 3) .nil)))) (.var 0) [none,none])) (.var 10))) .nil))))))))⟩
noncomputable def an2:Df:=⟨"sign_product",2,1,(.cons (.asg (.one 2) (.bi .len (.cons (.var 0) .nil))) (.cons (.ret (.callC "grid" (.ex (.var 2) (.lam "sign_product.0" [2,0,1] .nil)))) .nil))⟩
noncomputable def ag9:Lm:=⟨"sign_product.0",2,3,(.mk .min (.comp (.one 0) (.rng1 (.var 2)) (.bi .max2 (.cons (.ix (.ix (.var 1) (.var 2)) (.var 0)) (.cons (.ix (.ix (.var 3) (.var 0)) (.var 4)) .nil))) [none,some 3,some 0,some 4,some 1]))⟩
noncomputable def ce8:Df:=⟨"_law_on",3,5,(.cons (.asg (.one 3) (.mk .list (.comp (.one 0) (.seq (.var 2)) (.cst .non) [none]))) (.cons (.for_ (.tup [4,5,6,7]) (.seq (.ix (.var 0) (.cst (.int 4)))) (.cons (.ite (.and (.cmp .eq (.var 5) (.var 1)) (.notN (.ix (.var 2) (.var 4)))) (.cons (.ite (.or (.isN (.ix (.var 3) (.var 6))) (.cmp .lt (.bin .add (.ix (.var 2) (.var 4)) (.var 7)) (.ix (.var 3) (.var 6)))) (.cons (.setIx (.var 3) (.var 6) (.bin .add (.ix (.var 2) (.var 4)) (.var 7))) .nil) .nil) .nil) .nil) .nil)) (.cons (.ret (.var 3)) .nil)))⟩
class Has (P:Pr)(d:Df):Prop where
 eq:P.df d.name=some d
class HasL (P:Pr)(d:Lm):Prop where
 eq:P.lm d.id=some d
class HasC (P:Pr)(x:String)(v:D):Prop where
 eq:P.con x=some v
noncomputable def fin (s:Sto)(c:Ct)(s':Sto):R D:=match c with
 | .ret v=>zq s v s'
 | .next _=>zq s .non s'
 | _=>.bad
@[simp] theorem fin_ret (s:Sto) (v:D) (s':Sto):fin s (.ret v) s'=zq s v s':=rfl
@[simp] theorem fin_next (s:Sto) (ρ:Env) (s':Sto):fin s (.next ρ) s'=zq s .non s':=rfl
theorem ze {P:Pr}(d:Df)[h:Has P d]{n:Nat}{l:List D}{s:Sto}(hl:l.length=d.ps) :
  (aa0 P (n+1)).call d.name l s=(exs (aa0 P n) d.body (l.map some++aq d.vs none) s).bind (fin s):=by
 simp only[aa0,h.eq,hl,if_true]
 rfl
theorem bB1 {P:Pr}{x:String}{v:D}[h:HasC P x v]{n:Nat}:(aa0 P n).con x=some v:=by
 cases n<;>exact h.eq
theorem az4 (s t:Sto):ak9 s (s++t)=true:=by
 unfold ak9
 rw[aM]
 intro i B
 rw[cA]at B
 rw[aL B]
 simp
theorem aP3 (s t:Sto)(r:Nat)(o:O)(h:o.bnd s.length=true):ak9 s (s.set r o++t)=true:=by
 unfold ak9
 rw[aM]
 intro i B
 rw[cA]at B
 rw[aL (by rw[bp];exact B)]
 by_cases e:r=i
 ·subst e;rw[aO B];simp[h]
 ·rw[aZ e];simp
theorem zG {s t:Sto}{d:D}(h:∀ n,d.bnd n=true)(hr:∀ r,d≠.ref r):zq s d (s++t)=.ok d s:=by
 unfold zq
 rw[az4,if_pos rfl]
 cases d with
 | ref r=>exact absurd rfl (hr r)
 | _=>simp[h]
theorem zy {s:Sto}{d:D}(h:∀ n,d.bnd n=true)(hr:∀ r,d≠.ref r):zq s d s=.ok d s:=by
 have:=zG (s:=s) (t:=[]) h hr
 rwa [bh]at this
theorem al4 {s t:Sto}{d:D}{r:Nat}{o:O}(h:∀ n,d.bnd n=true)(hr:∀ r,d≠.ref r)(ho:o.bnd s.length=true):zq s d (s.set r o++t)=.ok d (s.set r o):=by
 unfold zq
 rw[aP3 s t r o ho,if_pos rfl]
 have e:(s.set r o++t).take s.length=s.set r o:=by rw[List.take_append_of_le_length (by simp),eG (by simp)]
 cases d with
 | ref r=>exact absurd rfl (hr r)
 | _=>simp only[h,if_true,e]
theorem ah1 {s:Sto}{d:D}{r:Nat}{o:O}(h:∀ n,d.bnd n=true)(hr:∀ r,d≠.ref r)(ho:o.bnd s.length=true):zq s d (s.set r o)=.ok d (s.set r o):=by
 have:=al4 (s:=s) (t:=[]) (r:=r) h hr ho
 rwa [bh]at this
theorem ak4 {s t u:Sto}{o:O}(ho:o.bnd s.length=true):zq s (.ref (s.length+t.length)) (s++(t++o::u))=.ok (.ref s.length) (s++[o]):=by
 unfold zq
 rw[az4,if_pos rfl]
 simp[ho,aB]
@[simp] theorem aW4 {s:Sto} {i:Int}:zq s (.int i) s=.ok (.int i) s:=zy (λ _=>rfl) (by nofun)
@[simp] theorem bc0 {s:Sto} {i:Bool}:zq s (.bl i) s=.ok (.bl i) s:=zy (λ _=>rfl) (by nofun)
@[simp] theorem av2 {s:Sto}:zq s .non s=.ok .non s:=zy (λ _=>rfl) (by nofun)
@[simp] theorem bD2 {s:Sto} {x:List Nat}:zq s (.str x) s=.ok (.str x) s:=zy (λ _=>rfl) (by nofun)
theorem qI {c:Env->Sto->R D}{g:Env->Sto->R Ct}:∀ {n:Nat} {ρ:Env} {s:Sto},qW c g n ρ s≠.bad->qW c g (n+1) ρ s=qW c g n ρ s
 | 0,_,_,h=>absurd rfl h
 | n+1,ρ,s,h=>by
  rw[show qW c g (n+1+1) ρ s=tru (c ρ s) (λ b s=>if b then(g ρ s).bind λ B s=>match B with
   | .next ρ=>qW c g (n+1) ρ s|.cont ρ=>qW c g (n+1) ρ s|.brk ρ=>.ok (.next ρ) s|.ret d=>.ok (.ret d) s else .ok (.next ρ) s)from rfl]
  have e:qW c g (n+1) ρ s=tru (c ρ s) (λ b s=>if b then(g ρ s).bind λ B s=>match B with
   | .next ρ=>qW c g n ρ s|.cont ρ=>qW c g n ρ s|.brk ρ=>.ok (.next ρ) s|.ret d=>.ok (.ret d) s else .ok (.next ρ) s):=rfl
  rw[e]at h ⊢
  unfold tru at h ⊢
  cases hc:c ρ s with
  | exc _ _=>rfl
  | bad=>rfl
  | ok d s1 =>
   rw[hc]at h
   cases d with
   | bl b =>
    cases b with
    | false=>rfl
    | true =>
     simp only[R.bind_ok,if_true]at h ⊢
     cases hg:g ρ s1 with
     | exc _ _=>rfl
     | bad=>rfl
     | ok B s2 =>
      rw[hg]at h
      simp only[R.bind_ok]at h ⊢
      cases B with
      | next ρ'=>exact qI h
      | cont ρ'=>exact qI h
      | _=>rfl
   | _=>rfl
theorem z0 {c:Env->Sto->R D}{g:Env->Sto->R Ct}{n:Nat}{ρ:Env}{s:Sto}(h:qW c g n ρ s≠.bad):∀ k,qW c g (n+k) ρ s=qW c g n ρ s
 | 0=>rfl
 | k+1=>by
  have e:=z0 h k
  rw[<-c7,qI (by rw[e];exact h),e]
theorem bE0 {c:Env->Sto->R D}{g:Env->Sto->R Ct}{n:Nat}{ρ:Env}{s:Sto}{r:Ct}{t:Sto}(h:qW c g n ρ s=.ok r t):whl c g ρ s=.ok r t:=by
 have hb:qW c g n ρ s≠.bad:=by rw[h];nofun
 have hx:∃ n,qW c g n ρ s≠.bad:=⟨n,hb⟩
 unfold whl
 rw[dif_pos hx]
 have F:=z0 hx.choose_spec n
 have B:=z0 hb hx.choose
 rw[<-F,fz,B,h]
theorem aj0 {c:Env->Sto->R D}{g:Env->Sto->R Ct}{ρ ρ':Env}{s s1 s':Sto}(hc:c ρ s=.ok (.bl true) s1)(hg:g ρ s1=.ok (.next ρ') s'):whl c g ρ s=whl c g ρ' s':=by
 have key:∀ n,qW c g (n+1) ρ s=qW c g n ρ' s':=λ n=>by
  show tru (c ρ s) _=_
  rw[hc,tru_bl,if_pos rfl,hg];rfl
 unfold whl
 by_cases hx:∃ n,qW c g n ρ' s'≠.bad
 ·have hy:∃ n,qW c g n ρ s≠.bad:=⟨hx.choose+1,by rw[key];exact hx.choose_spec⟩
  rw[dif_pos hx,dif_pos hy]
  have F:=z0 hy.choose_spec (hx.choose+1)
  have B:=z0 (n:=hx.choose+1) (ρ:=ρ) (s:=s) (by rw[key];exact hx.choose_spec) hy.choose
  rw[<-F,fz,B,key]
 ·have hy:¬ ∃ n,qW c g n ρ s≠.bad:=λ⟨n,hn⟩=>by
   cases n with
   | zero=>exact hn rfl
   | succ n=>exact hx ⟨n,by rw[<-key];exact hn⟩
  rw[dif_neg hx,dif_neg hy]
theorem aA8 {c:Env->Sto->R D}{g:Env->Sto->R Ct}{ρ:Env}{s s1:Sto}(hc:c ρ s=.ok (.bl false) s1):whl c g ρ s=.ok (.next ρ) s1 :=
 bE0 (n:=1) (by show tru (c ρ s) _=_;rw[hc,tru_bl];rfl)
theorem aX0 {ok:Sto->Bool}{g:D->Env->Sto->R Ct}(P:Nat->Env->Sto->Prop):∀(l:List D) (k:Nat) (ρ:Env) (s:Sto),
  P k ρ s->(∀(j:Nat) (ρ:Env) (s:Sto),j<=l.length->P (k+j) ρ s->ok s=true)->(∀(j:Nat) (d:D) (ρ:Env) (s:Sto),l[j]?=some d->P (k+j) ρ s->∃ ρ' s',(g d ρ s=.ok (.next ρ') s'\/g d ρ s=.ok (.cont ρ') s')/\P (k+j+1) ρ' s') ->
  ∃ ρ' s',qz ok g l ρ s=.ok (.next ρ') s'/\P (k+l.length) ρ' s'
 | [],k,ρ,s,h,o,_=>⟨ρ,s,by show(if ok s then _ else _)=_;rw[if_pos (o 0 ρ s (ak _) h)],h⟩
 | d::l,k,ρ,s,h,o,t=>by
  have ho:=o 0 ρ s (cS _) h
  obtain⟨ρ1,s1,hg,B⟩:=t 0 d ρ s rfl h
  obtain⟨ρ2,s2,e,F⟩:=aX0 P l (k+1) ρ1 s1 B (λ j ρ' s' hj hp=>o (j+1) ρ' s' (by simpa using hj) (by rwa [show k+(j+1)=k+1+j by omega])) λ j d' ρ' s' hj hp=>by
   have:=t (j+1) d' ρ' s' (by simpa using hj) (by rwa [show k+(j+1)=k+1+j by omega])
   rwa [show k+(j+1)+1=k+1+j+1 by omega]at this
  refine⟨ρ2,s2,?_,by rwa [bf,show k+(l.length+1)=k+1+l.length by omega]⟩
  show(if ok s then _ else _)=_
  rw[if_pos ho]
  rcases hg with hg|hg<;>(rw[hg];exact e)
noncomputable def Nx (Q:Env->Sto->Prop):R Ct->Prop
 | .ok (.next ρ) s=>Q ρ s
 | .ok (.cont ρ) s=>Q ρ s
 | _=>False
@[simp] theorem bU1 (Q:Env->Sto->Prop) (ρ:Env) (s:Sto):Nx Q (.ok (.next ρ) s)=Q ρ s:=rfl
@[simp] theorem ca6 (Q:Env->Sto->Prop) (ρ:Env) (s:Sto):Nx Q (.ok (.cont ρ) s)=Q ρ s:=rfl
theorem aN2 {Q:Env->Sto->Prop}{r:R Ct}{ρ:Env}{s:Sto}(e:r=.ok (.next ρ) s)(h:Q ρ s):Nx Q r:=by rw[e];exact h
theorem Nx.out {Q:Env->Sto->Prop}:∀ {r:R Ct},Nx Q r->∃ ρ s,(r=.ok (.next ρ) s\/r=.ok (.cont ρ) s)/\Q ρ s
 | .ok (.next ρ) s,h=>⟨ρ,s,.inl rfl,h⟩
 | .ok (.cont ρ) s,h=>⟨ρ,s,.inr rfl,h⟩
 | .ok (.ret _) _,h=>h.elim
 | .ok (.brk _) _,h=>h.elim
 | .exc _ _,h=>h.elim
 | .bad,h=>h.elim
noncomputable def Tst (A B:Sto->Prop):R D->Prop
 | .ok (.bl false) s=>A s
 | .ok (.bl true) s=>B s
 | _=>False
@[simp] theorem bk1 (A B:Sto->Prop) (b:Bool) (s:Sto):Tst A B (.ok (.bl b) s)=if b then B s else A s:=by cases b<;>rfl
theorem Tst.out {A B:Sto->Prop}:∀ {r:R D},Tst A B r->(∃ s,r=.ok (.bl false) s/\A s)\/∃ s,r=.ok (.bl true) s/\B s
 | .ok (.bl false) s,h=>.inl ⟨s,rfl,h⟩
 | .ok (.bl true) s,h=>.inr ⟨s,rfl,h⟩
 | .ok .non _,h=>h.elim
 | .ok (.int _) _,h=>h.elim
 | .ok (.str _) _,h=>h.elim
 | .ok (.tup _) _,h=>h.elim
 | .ok (.ref _) _,h=>h.elim
 | .ok (.fn _) _,h=>h.elim
 | .ok (.clo _ _) _,h=>h.elim
 | .exc _ _,h=>h.elim
 | .bad,h=>h.elim
theorem bg6 {c:Env->Sto->R D}{g:Env->Sto->R Ct}{ρ ρ':Env}{s s1 s':Sto}(hc:c ρ s=.ok (.bl true) s1)(hg:g ρ s1=.ok (.cont ρ') s'):whl c g ρ s=whl c g ρ' s':=by
 have key:∀ n,qW c g (n+1) ρ s=qW c g n ρ' s':=λ n=>by
  show tru (c ρ s) _=_
  rw[hc,tru_bl,if_pos rfl,hg];rfl
 unfold whl
 by_cases hx:∃ n,qW c g n ρ' s'≠.bad
 ·have hy:∃ n,qW c g n ρ s≠.bad:=⟨hx.choose+1,by rw[key];exact hx.choose_spec⟩
  rw[dif_pos hx,dif_pos hy]
  have F:=z0 hy.choose_spec (hx.choose+1)
  have B:=z0 (n:=hx.choose+1) (ρ:=ρ) (s:=s) (by rw[key];exact hx.choose_spec) hy.choose
  rw[<-F,fz,B,key]
 ·have hy:¬ ∃ n,qW c g n ρ s≠.bad:=λ⟨n,hn⟩=>by
   cases n with
   | zero=>exact hn rfl
   | succ n=>exact hx ⟨n,by rw[<-key];exact hn⟩
  rw[dif_neg hx,dif_neg hy]
theorem bL8 {c:Env->Sto->R D}{g:Env->Sto->R Ct}(P:Nat->Env->Sto->Prop)(Q:Env->Sto->Prop)
  (step:∀ k ρ s,P k ρ s->Tst (λ s1=>Q ρ s1) (λ s1=>Nx (λ ρ' s'=>∃ B,B<k/\P B ρ' s') (g ρ s1)) (c ρ s)) :
  ∀(k:Nat) (ρ:Env) (s:Sto),P k ρ s->∃ ρ' s',whl c g ρ s=.ok (.next ρ') s'/\Q ρ' s':=by
 intro k
 induction k using Nat.strongRecOn with
 | _ k ih =>
  intro ρ s h
  rcases(step k ρ s h).out with⟨s1,hc,F⟩|⟨s1,hc,hn⟩
  ·exact⟨ρ,s1,aA8 hc,F⟩
  ·obtain⟨ρ',s',hg,B,hk,hp⟩:=hn.out
   rcases hg with hg|hg
   ·rw[aj0 hc hg];exact ih B hk ρ' s' hp
   ·rw[bg6 hc hg];exact ih B hk ρ' s' hp
theorem bb3 {c:Env->Sto->R D}{g:Env->Sto->R Ct}{ρ:Env}{s:Sto}{α:Type}{f:Ct->Sto->R α}{W:R α->Prop}(P:Nat->Env->Sto->Prop)(Q:Env->Sto->Prop)(k:Nat)(h:P k ρ s)
  (step:∀ k ρ s,P k ρ s->Tst (λ s1=>Q ρ s1) (λ s1=>Nx (λ ρ' s'=>∃ B,B<k/\P B ρ' s') (g ρ s1)) (c ρ s))
  (F:∀ ρ' s',Q ρ' s'->W (f (.next ρ') s')):W ((whl c g ρ s).bind f):=by
 obtain⟨ρ',s',e,q⟩:=bL8 P Q step k ρ s h
 rw[e]
 exact F ρ' s' q
theorem bh1 {c:Env->Sto->R D}{g:Env->Sto->R Ct}{ρ:Env}{s:Sto}{α:Type}{f:Ct->Sto->R α}{x:R α}(P:Nat->Env->Sto->Prop)(Q:Env->Sto->Prop)(k:Nat)(h:P k ρ s)
  (step:∀ k ρ s,P k ρ s->Tst (λ s1=>Q ρ s1) (λ s1=>Nx (λ ρ' s'=>∃ B,B<k/\P B ρ' s') (g ρ s1)) (c ρ s))
  (F:∀ ρ' s',Q ρ' s'->f (.next ρ') s'=x):(whl c g ρ s).bind f=x:=bb3 (W:=(·=x)) P Q k h step F
theorem at3 {ok:Sto->Bool}{g:D->Env->Sto->R Ct}{l:List D}{ρ:Env}{s:Sto}{α:Type}{f:Ct->Sto->R α}{W:R α->Prop}(P:Nat->Env->Sto->Prop)(h:P 0 ρ s)
  (o:∀(j:Nat) (ρ:Env) (s:Sto),j<=l.length->P j ρ s->ok s=true) (step:∀(j:Nat) (d:D) (ρ:Env) (s:Sto),l[j]?=some d->P j ρ s->Nx (P (j+1)) (g d ρ s))
  (B:∀ ρ' s',P l.length ρ' s'->W (f (.next ρ') s')):W ((qz ok g l ρ s).bind f):=by
 obtain⟨ρ',s',e,q⟩:=aX0 P l 0 ρ s h (λ j ρ s hj hp=>o j ρ s hj (by rwa [gX]at hp)) (λ j d ρ s hj hp=>by
  rw[gX]at hp ⊢
  exact(step j d ρ s hj hp).out)
 rw[e]
 rw[gX]at q
 exact B ρ' s' q
theorem bg4 {ok:Sto->Bool}{g:D->Env->Sto->R Ct}{l:List D}{ρ:Env}{s:Sto}{α:Type}{f:Ct->Sto->R α}{x:R α}(P:Nat->Env->Sto->Prop)(h:P 0 ρ s)
  (o:∀(j:Nat) (ρ:Env) (s:Sto),j<=l.length->P j ρ s->ok s=true) (step:∀(j:Nat) (d:D) (ρ:Env) (s:Sto),l[j]?=some d->P j ρ s->Nx (P (j+1)) (g d ρ s))
  (B:∀ ρ' s',P l.length ρ' s'->f (.next ρ') s'=x):(qz ok g l ρ s).bind f=x:=at3 (W:=(·=x)) P h o step B
section
variable {F:Fns} {ρ:Env} {s:Sto}
@[simp] theorem ev_var (i:Nat):ev F (.var i) ρ s=aA3 ρ i s:=rfl
@[simp] theorem ev_cst (c:Cn):ev F (.cst c) ρ s=.ok c.d s:=rfl
@[simp] theorem ev_bin (op:BOp) (a b:E):ev F (.bin op a b) ρ s=(ev F a ρ s).bind λ x s=>(ev F b ρ s).bind λ y s=>ae8 op x y s:=rfl
@[simp] theorem ev_not (a:E):ev F (.not a) ρ s=tru (ev F a ρ s) λ b s=>.ok (.bl (!b)) s:=rfl
@[simp] theorem ev_cmp (op:COp) (a b:E):ev F (.cmp op a b) ρ s=(ev F a ρ s).bind λ x s=>(ev F b ρ s).bind λ y s=>qp op x y s:=rfl
@[simp] theorem bS9 (o p:COp) (a b c:E):ev F (.chain o p a b c) ρ s=(ev F a ρ s).bind λ x s=>(ev F b ρ s).bind λ y s=>tru (qp o x y s) λ k s=>if k then(ev F c ρ s).bind λ z s=>qp p y z s else .ok (.bl false) s:=rfl
@[simp] theorem ev_isN (a:E):ev F (.isN a) ρ s=(ev F a ρ s).bind λ x s=>.ok (.bl (decide (x=.non))) s:=rfl
@[simp] theorem ev_notN (a:E):ev F (.notN a) ρ s=(ev F a ρ s).bind λ x s=>.ok (.bl (!decide (x=.non))) s:=rfl
@[simp] theorem ev_and (a b:E):ev F (.and a b) ρ s=tru (ev F a ρ s) λ c s=>if c then tru (ev F b ρ s) λ c s=>.ok (.bl c) s else .ok (.bl false) s:=rfl
@[simp] theorem ev_or (a b:E):ev F (.or a b) ρ s=tru (ev F a ρ s) λ c s=>if c then .ok (.bl true) s else tru (ev F b ρ s) λ c s=>.ok (.bl c) s:=rfl
@[simp] theorem ev_ite (c a b:E):ev F (.ite c a b) ρ s=tru (ev F c ρ s) λ k s=>if k then ev F a ρ s else ev F b ρ s:=rfl
@[simp] theorem ev_tup (es:Es):ev F (.tup es) ρ s=(evs F es ρ s).bind λ l s=>.ok (.tup l) s:=rfl
@[simp] theorem ev_lst (es:Es):ev F (.lst es) ρ s=(evs F es ρ s).bind λ l s=>ac7 (.lst l) s:=rfl
@[simp] theorem ev_ix (a b:E):ev F (.ix a b) ρ s=(ev F a ρ s).bind λ x s=>(ev F b ρ s).bind λ y s=>ixM x y s:=rfl
@[simp] theorem ev_call (f:String) (B:As):ev F (.call f B) ρ s=(ag6 F B ρ s).bind λ l s=>F.call f l s:=rfl
@[simp] theorem bR9 (f:String) (B:As):ev F (.callC f B) ρ s=(ag6 F B ρ s).bind λ l s=>(F.call f l s).bind λ d s'=>if(d.ncl&&s'.all O.ncl)=true then .ok d s' else .bad:=rfl
@[simp] theorem ev_bi (b:Bi) (es:Es):ev F (.bi b es) ρ s=(evs F es ρ s).bind λ l s=>bi b l s:=rfl
@[simp] theorem ev_mk (k:Mk) (it:L):ev F (.mk k it) ρ s=(evL F it ρ s).bind λ q s=>mk k q s:=rfl
@[simp] theorem ev_mkD (k:Mk) (it:L) (d:E):ev F (.mkD k it d) ρ s=(evL F it ρ s).bind λ q s=>(ev F d ρ s).bind λ d s=>mkD k q d s:=rfl
@[simp] theorem ev_mks (k:Mk) (e:E):ev F (.mks k e) ρ s=(ev F e ρ s).bind λ x s=>(bi2 x s).bind λ q s=>mk k q s:=rfl
@[simp] theorem ce2 (o:E) (c:Nat):ev F (.spl o c) ρ s=(ev F o ρ s).bind λ x s=>ca1 c x s:=rfl
@[simp] theorem bX3 (id:String) (e:E) (j:Int):ev F (.minK id e j) ρ s=(ev F e ρ s).bind λ x s=>(bi2 x s).bind λ q s=>bx7 j q s:=rfl
@[simp] theorem ev_mkDs (k:Mk) (e d:E):ev F (.mkDs k e d) ρ s=(ev F e ρ s).bind λ x s=>(ev F d ρ s).bind λ z s=>(bi2 x s).bind λ q s=>mkD k q z s:=rfl
@[simp] theorem ev_meth (m:Mt) (o:E) (es:Es):ev F (.meth m o es) ρ s=(ev F o ρ s).bind λ x s=>(evs F es ρ s).bind λ l s=>meth m x l s:=rfl
@[simp] theorem bU2 (o e:E):ev F (.extS o e) ρ s=(ev F o ρ s).bind λ x s=>(ev F e ρ s).bind λ y s=>extS x y s:=rfl
@[simp] theorem ce6 (a:E):ev F (.rev a) ρ s=(ev F a ρ s).bind λ x s=>bZ3 x s:=rfl
@[simp] theorem cc6 (o:E) (it:L):ev F (.ext o it) ρ s=(ev F o ρ s).bind λ x s=>(evL F it ρ s).bind λ q s=>bJ0 x q s:=rfl
@[simp] theorem evs_nil:evs F .nil ρ s=.ok [] s:=rfl
@[simp] theorem evs_cons (e:E) (es:Es):evs F (.cons e es) ρ s=(ev F e ρ s).bind λ d s=>(evs F es ρ s).bind λ l s=>.ok (d::l) s:=rfl
@[simp] theorem evas_nil:ag6 F .nil ρ s=.ok [] s:=rfl
@[simp] theorem evas_ex (e:E) (B:As):ag6 F (.ex e B) ρ s=(ev F e ρ s).bind λ d s=>(ag6 F B ρ s).bind λ l s=>.ok (d::l) s:=rfl
@[simp] theorem bZ7 (f:String) (B:As):ag6 F (.fn f B) ρ s=(ag6 F B ρ s).bind λ l s=>.ok (.fn f::l) s:=rfl
@[simp] theorem evI_seq (e:E):evI F (.seq e) ρ s=(ev F e ρ s).bind λ d s=>aO2 d s:=rfl
@[simp] theorem bT0 (es:Es):evL F (.disp es) ρ s=evs F es ρ s:=rfl
@[simp] theorem evL_seq (e:E):evL F (.seq e) ρ s=(ev F e ρ s).bind λ d s=>bj7 d s:=rfl
noncomputable def be9 (x:D):M Sq:=λ s=>match x with|.int i=>if -W62<=i/\i<W62 then .ok ⟨zW 0 i,[]⟩ s else .bad|_=>.bad
@[simp] theorem evI_rng1 (a:E):evI F (.rng1 a) ρ s=(ev F a ρ s).bind λ x s=>be9 x s:=rfl
theorem qC {i:Int}(h0:-W62<=i)(h:i<W62):be9 (.int i) s=.ok ⟨zW 0 i,[]⟩ s:=by unfold be9;simp only[h0,h,and_self,if_true]
noncomputable def nxt (F:Fns)(ss:Ss)(c:Ct)(s:Sto):R Ct:=match c with|.next ρ=>exs F ss ρ s|c=>.ok c s
@[simp] theorem qN (B:Ss) (ρ:Env) (s:Sto):nxt F B (.next ρ) s=exs F B ρ s:=rfl
@[simp] theorem nxt_ret (B:Ss) (d:D) (s:Sto):nxt F B (.ret d) s=.ok (.ret d) s:=rfl
@[simp] theorem nxt_cont (B:Ss) (ρ:Env) (s:Sto):nxt F B (.cont ρ) s=.ok (.cont ρ) s:=rfl
@[simp] theorem exs_nil:exs F .nil ρ s=.ok (.next ρ) s:=rfl
@[simp] theorem qf (st:S) (B:Ss):exs F (.cons st B) ρ s=(ex F st ρ s).bind (nxt F B):=rfl
noncomputable def cb1 (ρ:Option Env)(s:Sto):R Ct:=match ρ with|some ρ=>.ok (.next ρ) s|none=>.bad
@[simp] theorem setC_some (ρ:Env) (s:Sto):cb1 (some ρ) s=.ok (.next ρ) s:=rfl
@[simp] theorem ex_asg (tg:Tg) (e:E):ex F (.asg tg e) ρ s=(ev F e ρ s).bind λ d s=>cb1 (zN ρ tg d) s:=rfl
@[simp] theorem ex_setIx (o i e:E):ex F (.setIx o i e) ρ s=(ev F e ρ s).bind λ d s=>(ev F o ρ s).bind λ x s=>(ev F i ρ s).bind λ y s=>(setIx x y d s).bind λ _ s=>.ok (.next ρ) s:=rfl
@[simp] theorem ex_ex (e:E):ex F (.ex e) ρ s=(ev F e ρ s).bind λ _ s=>.ok (.next ρ) s:=rfl
@[simp] theorem ex_ret (e:E):ex F (.ret e) ρ s=(ev F e ρ s).bind λ d s=>.ok (.ret d) s:=rfl
@[simp] theorem bv7:ex F .retN ρ s=.ok (.ret .non) s:=rfl
@[simp] theorem ex_ite (c:E) (a b:Ss):ex F (.ite c a b) ρ s=tru (ev F c ρ s) λ k s=>if k then exs F a ρ s else exs F b ρ s:=rfl
@[simp] theorem ex_whl (c:E) (b:Ss):ex F (.whl c b) ρ s=whl (ev F c) (exs F b) ρ s:=rfl
noncomputable def turn (F:Fns)(tg:Tg)(b:Ss)(d:D)(ρ:Env)(s:Sto):R Ct:=match zN ρ tg d with
 | some ρ=>exs F b ρ s
 | none=>.bad
@[simp] theorem ex_for (tg:Tg) (it:I) (b:Ss):ex F (.for_ tg it b) ρ s=(evI F it ρ s).bind λ q s0=>qz (λ s=>chk s0 s q.src) (turn F tg b) q.its ρ s0:=rfl
@[simp] theorem ex_cont:ex F .cont ρ s=.ok (.cont ρ) s:=rfl
@[simp] theorem ex_und (i:Nat):ex F (.und i) ρ s=cb1 (ak1 ρ i) s:=rfl
@[simp] theorem ex_pass:ex F .pass ρ s=.ok (.next ρ) s:=rfl
@[simp] theorem bindT_one (i:Nat) (d:D):zN ρ (.one i) d=an3 ρ i d:=rfl
@[simp] theorem bindT_tup (is:List Nat) (l:List D):zN ρ (.tup is) (.tup l)=ai4 ρ is l:=rfl
@[simp] theorem setVs_nil:ai4 ρ [] []=some ρ:=rfl
@[simp] theorem setVs_cons (i:Nat) (is:List Nat) (d:D) (l:List D):ai4 ρ (i::is) (d::l)=(an3 ρ i d).bind λ ρ=>ai4 ρ is l:=rfl
@[simp] theorem getV_0 (d:D) (ρ:Env):aA3 (some d::ρ) 0 s=.ok d s:=rfl
@[simp] theorem getV_s (x:Option D) (ρ:Env) (i:Nat):aA3 (x::ρ) (i+1) s=aA3 ρ i s:=by unfold aA3;rw[List.getElem?_cons_succ]
@[simp] theorem setV_0 (d:D) (x:Option D) (ρ:Env):an3 (x::ρ) 0 d=some (some d::ρ):=rfl
@[simp] theorem setV_s (d:D) (x:Option D) (ρ:Env) (i:Nat):an3 (x::ρ) (i+1) d=(an3 ρ i d).map (x::·):=by
 unfold an3
 by_cases h:i < ρ.length
 ·rw[if_pos (by simpa using h),if_pos h];rfl
 ·rw[if_neg (by simpa using h),if_neg h];rfl
@[simp] theorem unsetV_0 (x:Option D) (ρ:Env):ak1 (x::ρ) 0=some (none::ρ):=rfl
@[simp] theorem unsetV_s (x:Option D) (ρ:Env) (i:Nat):ak1 (x::ρ) (i+1)=(ak1 ρ i).map (x::·):=by
 unfold ak1
 by_cases h:i < ρ.length
 ·rw[if_pos (by simpa using h),if_pos h];rfl
 ·rw[if_neg (by simpa using h),if_neg h];rfl
@[simp] theorem Cn_int (i:Int):(Cn.int i).d=.int i:=rfl
@[simp] theorem Cn_bl (i:Bool):(Cn.bl i).d=.bl i:=rfl
@[simp] theorem Cn_str (i:List Nat):(Cn.str i).d=.str i:=rfl
@[simp] theorem Cn_non:Cn.non.d=.non:=rfl
@[simp] theorem add_int (a b:Int):ae8 .add (.int a) (.int b) s=.ok (.int (a+b)) s:=rfl
@[simp] theorem sub_int (a b:Int):ae8 .sub (.int a) (.int b) s=.bad:=rfl
theorem ah3 {a b:Int}(h:mulOk a b=true):ae8 .mul (.int a) (.int b) s=.ok (.int (a*b)) s:=by show(if mulOk a b then _ else _:M D) s=_;rw[if_pos h];rfl
theorem bz5 {a b:Int}(h:a.natAbs<2^64):mulOk a b=true:=by unfold mulOk;simp[h]
theorem as6 {a b:Int}(h:b.natAbs<2^64):mulOk a b=true:=by unfold mulOk;simp[h]
theorem al2 {a b:Int}(h:0<b):ae8 .mod (.int a) (.int b) s=.ok (.int (a % b)) s:=by show(if 0<b then _ else _:M D) s=_;rw[if_pos h];rfl
theorem bw0:(10:Int)^200<=(DIVL:Int):=by unfold DIVL;decide +kernel
theorem ar8 {a b:Int}(h:0<b)(B:b<10^200):ae8 .fdiv (.int a) (.int b) s=.ok (.int (a / b)) s:=by show(if 0<b/\b<(DIVL:Int)then _ else _:M D) s=_;rw[if_pos ⟨h,Int.lt_of_lt_of_le B bw0⟩];rfl
theorem aD4 {a b:Int}(h:0<=b/\b<=1000000/\a.natAbs<2^64):ae8 .pow (.int a) (.int b) s=.ok (.int (a^b.toNat)) s:=by show(if _ then _ else _:M D) s=_;rw[if_pos h];rfl
@[simp] theorem lt_int (a b:Int):qp .lt (.int a) (.int b) s=.ok (.bl (decide (a<b))) s:=rfl
@[simp] theorem le_int (a b:Int):qp .le (.int a) (.int b) s=.ok (.bl (decide (a<=b))) s:=rfl
@[simp] theorem gt_int (a b:Int):qp .gt (.int a) (.int b) s=.ok (.bl (decide (b<a))) s:=rfl
@[simp] theorem ge_int (a b:Int):qp .ge (.int a) (.int b) s=.bad:=rfl
@[simp] theorem eq_int (a b:Int):qp .eq (.int a) (.int b) s=.ok (.bl (decide (a=b))) s:=rfl
@[simp] theorem ne_int (a b:Int):qp .ne (.int a) (.int b) s=.ok (.bl (!decide (a=b))) s:=rfl
@[simp] theorem alloc_eq (o:O):ac7 o s=.ok (.ref s.length) (s++[o]):=rfl
@[simp] theorem bW9 (l:List D):bi .len [.tup l] s=.ok (.int l.length) s:=rfl
@[simp] theorem by1 (l:List Nat):bi .len [.str l] s=.ok (.int l.length) s:=rfl
theorem as8 {r:Nat}{l:List D}(h:s[r]?=some (.lst l)):bi .len [.ref r] s=.ok (.int l.length) s:=by simp only[bi,bi1,bv1,h]
theorem bH2 {r:Nat}{l:List D}(h:s[r]?=some (.ro l)):bi .len [.ref r] s=.ok (.int l.length) s:=by simp only[bi,bi1,bv1,h]
@[simp] theorem bV4 (i:Int):bi .abs [.int i] s=.ok (.int (if i<0 then -i else i)) s:=rfl
@[simp] theorem as1 (a b:Int):bi .min2 [.int a,.int b] s=.ok (.int (if b<a then b else a)) s:=rfl
@[simp] theorem bS1 (a b:Int):bi .max2 [.int a,.int b] s=.ok (.int (if b > a then b else a)) s:=rfl
@[simp] theorem bC4 (a:Int):bi .isInt [.int a] s=.ok (.bl true) s:=rfl
@[simp] theorem bC0 (a:Int):bi .isBool [.int a] s=.ok (.bl false) s:=rfl
@[simp] theorem bF0 (l:List D):bi .isTup [.tup l] s=.ok (.bl true) s:=rfl
theorem bK9 {r:Nat}{l:List D}{j:Nat}{d:D}(h:s[r]?=some (.ro l))(hj:l[j]?=some d):ixM (.ref r) (.int (j:Int)) s=.ok d s:=by
 have hl:j<l.length:=(ah.mp hj).1
 have e:l[j]=d:=(ah.mp hj).2
 simp[ixM,h,ixn,hl,e]
theorem ai1 {r:Nat}{l:List D}{j:Nat}{d:D}(h:s[r]?=some (.lst l))(hj:l[j]?=some d):ixM (.ref r) (.int (j:Int)) s=.ok d s:=by
 have hl:j<l.length:=(ah.mp hj).1
 have e:l[j]=d:=(ah.mp hj).2
 simp[ixM,h,ixn,hl,e]
theorem ix_tup {l:List D}{j:Nat}{d:D}(hj:l[j]?=some d):ixM (.tup l) (.int (j:Int)) s=.ok d s:=by
 have hl:j<l.length:=(ah.mp hj).1
 have e:l[j]=d:=(ah.mp hj).2
 simp[ixM,ixn,hl,e]
theorem bx0 {r:Nat}{l:List D}{j:Nat}{v:D}(h:s[r]?=some (.lst l))(hl:j<l.length):setIx (.ref r) (.int (j:Int)) v s=.ok () (s.set r (.lst (l.set j v))):=by
 simp[setIx,h,ixn,hl]
theorem qL {r:Nat}{l:List D}{v:D}(h:s[r]?=some (.lst l))(hl:l.length<LIM):meth .append (.ref r) [v] s=.ok .non (s.set r (.lst (l++[v]))):=by
 show(match s[r]? with|some (.lst l)=>(if l.length<LIM then R.ok D.non (s.set r (.lst (l++[v])))else .bad)|_=>.bad:R D)=_
 rw[h]
 exact if_pos hl
end
theorem aA6 (s t:Sto)(b:Bool):∃ s',zq s (.bl b) t=.ok (.bl b) s':=by
 unfold zq
 by_cases h:ak9 s t=true
 ·rw[if_pos h];exact⟨_,rfl⟩
 ·rw[if_neg h];exact⟨_,rfl⟩
def Yes (r:R D):Prop:=∃ s',r=.ok (.bl true) s'
theorem av0 (s t:Sto):Yes (zq s (.bl true) t):=aA6 s t true
theorem ai7 {a b:Int}{j:Nat}{d:D}(h:(zW a b)[j]?=some d):(j:Int)<b - a/\d=.int (a+j):=by
 have hj:=(ah.mp h).1
 simp only[zW,aw,List.length_range]at hj
 unfold zW at h
 rw[aH,dH hj]at h
 exact⟨by omega,(ax h).symm⟩
def bW3 (P:Pr)(k:Nat):Prop:=∀ ns:List Int,ns.length<=63->Yes ((aa0 P k).call "law" [.ref 0] [.ro (ns.map D.int)])
noncomputable def qg:Option Int->D
 | none=>.non
 | some i=>.int i
@[simp] theorem qa:qg none=.non:=rfl
@[simp] theorem zC (i:Int):qg (some i)=.int i:=rfl
@[simp] theorem aj4 (p:Option Int) (n:Nat):(qg p).bnd n=true:=by cases p<;>rfl
theorem at1 (p:Option Int)(r:Nat):qg p≠.ref r:=by cases p<;>nofun
@[simp] theorem an6 {s:Sto} {p:Option Int}:zq s (qg p) s=.ok (qg p) s:=zy (aj4 p) (at1 p)
noncomputable def cutO (k:Int):Option Int->Option Int
 | none=>none
 | some p=>if p<=k then some p else some (k+1)
theorem bP2 {P:Pr}[Has P af0](n:Nat)(p:Option Int)(k:Int)(s:Sto):(aa0 P (n+1)).call "cut" [qg p,.int k] s=.ok (qg (cutO k p)) s:=by
 refine(ze af0 rfl).trans ?_
 cases p with
 | none=>simp[af0,cutO]
 | some p =>
  by_cases h:p<=k<;>simp[af0,cutO,h]
noncomputable def zD (b:Nat×Nat):O:=.lst [.int b.1,.int b.2]
@[simp] theorem bT2 (b:Nat×Nat) (n:Nat):(zD b).bnd n=true:=rfl
noncomputable def tkW (many:Nat):Nat->Nat->Nat->Nat->Nat×Nat
 | 0,mix,num,_=>(num,mix)
 | n+1,mix,num,room=>if room<many then tkW many n ((mix*48271+7919) % 2147483647) (num*1073741789+(mix*48271+7919) % 2147483647 / 8*69621 % 1073741789) (room*1073741789)else(num,mix)
noncomputable def tk (b:Nat×Nat)(many:Nat):Nat×(Nat×Nat) :=
 if 0<b.1 then(b.1 % many,(b.1 / many,b.2))else let r:=tkW many 12 b.2 0 1;(r.1 % many,(b.1,r.2))
theorem bE2 (b:Nat×Nat){many:Nat}(h:0<many):(tk b many).1<many:=by
 unfold tk
 split
 ·exact Nat.mod_lt _ h
 ·exact Nat.mod_lt _ h
theorem aV9 {many:Nat}{k B F room:Nat}(h:many<=room):tkW many k B F room=(F,B):=by
 cases k with
 | zero=>rfl
 | succ k=>unfold tkW;rw[if_neg (by omega)]
theorem be2 {many:Nat}{k B F room:Nat}(h:room<many):tkW many (k+1) B F room=tkW many k ((B*48271+7919) % 2147483647) (F*1073741789+(B*48271+7919) % 2147483647 / 8*69621 % 1073741789) (room*1073741789):=by
 conv=>lhs;unfold tkW
 rw[if_pos h]
theorem bo3 {P:Pr}[Has P ac6](n:Nat)(b:Nat×Nat)(many:Nat)(h0:0<many)(h:many<=10^90)(s:Sto)(r:Nat)(hs:s[r]?=some (zD b)) :
  (aa0 P (n+1)).call "_law_take" [.ref r,.int many] s=.ok (.int (tk b many).1) (s.set r (zD (tk b many).2)):=by
 refine(ze ac6 rfl).trans ?_
 obtain⟨c,m⟩:=b
 have hr:r<s.length:=(ah.mp hs).1
 have G:(0:Int)<(many:Int):=by omega
 have a0:(many:Int)<10^200:=by
  have:(10:Int)^90<10^200:=by decide +kernel
  have:((many:Nat):Int)<=((10^90:Nat):Int):=by exact_mod_cast h
  omega
 by_cases hc:0<c
 ·have Y:s[r]?=some (.lst [.int c,.int m]):=hs
  simp[ac6,ixM,Y,ixn,hc,al2 G,ar8 G a0,setIx,tk]
  exact ah1 (λ _=>rfl) (by nofun) rfl
 ·have Z:c=0:=by omega
  subst Z
  have Y:s[r]?=some (.lst [.int 0,.int m]):=hs
  simp[ac6,ixM,Y,ixn]
  refine bh1 (λ k ρ t=>∃ B F room:Nat,ρ=[some (.ref r),some (.int many),none,some (.int F),some (.int room)]/\t=s.set r (zD (0,B))/\many<=room*1073741789^k/\tkW many k B F room=tkW many 12 m 0 1)
   (λ ρ t=>∃ room:Nat,ρ=[some (.ref r),some (.int many),none,some (.int (tkW many 12 m 0 1).1),some (.int room)]/\t=s.set r (zD (0,(tkW many 12 m 0 1).2))) 12 ⟨m,0,1,by simp,?_,?_,rfl⟩ ?_ ?_
  ·have e:s[r]=zD (0,m):=(ah.mp hs).2
   rw[<-e,iu]
  ·refine am h ?_
   decide +kernel
  ·rintro k ρ t ⟨B,F,room,rfl,rfl,J,he⟩
   by_cases hlt:room<many
   ·simp only[ev_cmp,ev_var,getV_0,getV_s,R.bind_ok,lt_int,bk1,jM,hlt,decide_true,if_true]
    cases k with
    | zero=>simp at J;omega
    | succ k =>
     have h1:(s.set r (zD (0,B)))[r]?=some (.lst [.int 0,.int B]):=by rw[aO hr];rfl
     have m1:∀ a:Int,mulOk a 48271=true:=λ a=>as6 (by decide)
     have m2:∀ a:Int,mulOk a 1073741789=true:=λ a=>as6 (by decide)
     have m3:∀ a:Int,mulOk a 69621=true:=λ a=>as6 (by decide)
     refine aN2 ?_ ⟨k,dC k,(B*48271+7919) % 2147483647,F*1073741789+(B*48271+7919) % 2147483647 / 8*69621 % 1073741789,room*1073741789,rfl,rfl,?_,?_⟩
     ·simp[ixM,h1,ixn,ah3 (m1 _),al2,setIx,hr,ah3 (m2 _),ah3 (m3 _),ar8,zD]
     ·rw[Nat.pow_succ]at J
      rw[Nat.mul_assoc,kX 1073741789];exact J
     ·rw[<-he,be2 hlt]
   ·simp only[ev_cmp,ev_var,getV_0,getV_s,R.bind_ok,lt_int,bk1,jM,hlt,decide_false,if_false,bC]
    refine⟨room,?_,?_⟩
    ·rw[<-he,aV9 (by omega)]
    ·rw[<-he,aV9 (by omega)]
  ·rintro ρ t ⟨room,rfl,rfl⟩
   simp[al2 G,tk]
   exact ah1 (λ _=>rfl) (by nofun) rfl
noncomputable def bi6 (at_:Int)(ns:List Int):Nat->Int
 | 0=>7919*at_+17
 | k+1=>(bi6 at_ ns k*48271+(ns.getD k 0) % 2147483647+k) % 2147483629
theorem bu4 (at_:Int)(h:0<=at_)(ns:List Int):∀ k,0<=bi6 at_ ns k
 | 0=>by unfold bi6;omega
 | k+1=>by unfold bi6;exact Int.emod_nonneg _ (by decide)
noncomputable def cellF (ns:List Int)(at_:Nat):Nat:=if 10^18<=(ns.getD at_ 0).natAbs then(ns.getD at_ 0).natAbs else 0
noncomputable def bB8 (ns:List Int)(at_:Nat):Nat×Nat:=(cellF ns at_,(bi6 at_ ns (min ns.length 60)).toNat)
theorem bL1 {P:Pr}[Has P ax2](n:Nat)(ns:List Int)(at_:Nat)(s:Sto)(r:Nat)(hs:s[r]?=some (.ro (ns.map D.int)))(hl:ns.length<=63) :
  (aa0 P (n+1)).call "_law_bag" [.ref r,.int at_] s=.ok (.ref s.length) (s++[zD (bB8 ns at_)]):=by
 refine(ze ax2 rfl).trans ?_
 have m1:∀ a:Int,mulOk 7919 a=true:=λ a=>bz5 (by decide)
 have m2:∀ a:Int,mulOk a 48271=true:=λ a=>as6 (by decide)
 have B:bi .len [.ref r] s=.ok (.int ns.length) s:=by rw[bH2 hs,aw]
 have F:∀(c:Int),(c<10^18->cellF ns at_=0)->(10^18<=c->(cellF ns at_:Int)=c) ->
   (exs (aa0 P n) (.cons (.asg (.one 3) (.bin .add (.bin .mul (.cst (.int 7919)) (.var 1)) (.cst (.int 17)))) (.cons (.for_ (.one 4) (.rng1 (.bi .min2 (.cons (.bi .len (.cons (.var 0) .nil)) (.cons (.cst (.int 60)) .nil)))) (.cons (.asg (.one 3) (.bin .mod (.bin .add (.bin .add (.bin .mul (.var 3) (.cst (.int 48271))) (.bin .mod (.ix (.var 0) (.var 4)) (.cst (.int 2147483647)))) (.var 4)) (.cst (.int 2147483629)))) .nil)) (.cons (.ite (.cmp .lt (.var 2) (.bin .pow (.cst (.int 10)) (.cst (.int 18)))) (.cons (.asg (.one 2) (.cst (.int 0))) .nil) .nil) (.cons (.ret (.lst (.cons (.var 2) (.cons (.var 3) .nil)))) .nil)))) [some (.ref r),some (.int at_),some (.int c),none,none] s).bind (fin s)=.ok (.ref s.length) (s++[zD (bB8 ns at_)]):=by
  intro c h1 h2
  simp[ah3 (m1 _),B]
  have hk:(if(60:Int)<(ns.length:Int)then 60 else(ns.length:Int))=((min ns.length 60:Nat):Int):=by omega
  rw[hk,qC (by unfold W62;omega) (by unfold W62;omega)]
  simp only[R.bind_ok]
  refine bg4 (λ j ρ t=>t=s/\∃ x,ρ=[some (.ref r),some (.int at_),some (.int c),some (.int (bi6 at_ ns j)),x]) ⟨rfl,none,rfl⟩ (λ _ _ _ _ _=>rfl) ?_ ?_
  ·rintro j d ρ t hj ⟨rfl,x,rfl⟩
   have Z:j<min ns.length 60:=by have:=(ah.mp hj).1;simpa [zW]using this
   have hd:d=.int (j:Int):=by simpa [zW,Z]using hj.symm
   subst hd
   refine aN2 ?_ ⟨rfl,some (.int (j:Int)),rfl⟩
   have hx:ixM (.ref r) (.int (j:Int)) t=.ok (.int (ns.getD j 0)) t:=bK9 hs (by simp[show j<ns.length by omega])
   simp[turn,ah3 (m2 _),hx,al2,bi6]
  ·rintro ρ t ⟨rfl,x,rfl⟩
   have a1:(zW 0 ((min ns.length 60:Nat):Int)).length=min ns.length 60:=by simp[zW]
   rw[a1]
   have a0:=bu4 at_ (by omega) ns (min ns.length 60)
   have G:∀ Y,(Y:Int)=cellF ns at_->zq t (.ref t.length) (t++[.lst [.int Y,.int (bi6 at_ ns (min ns.length 60))]])=.ok (.ref t.length) (t++[zD (bB8 ns at_)]):=by
    intro Y J
    have:=ak4 (s:=t) (t:=[]) (u:=[]) (o:=zD (bB8 ns at_)) rfl
    simp only[hW,k7,g9]at this
    rw[<-this]
    simp[zD,bB8,J,fm a0]
   by_cases h:c<10^18
   ·have h':c<1000000000000000000:=h
    simp[aD4,h']
    exact G 0 (by rw[h1 h];rfl)
   ·have h':¬ c<1000000000000000000:=h
    simp[aD4,h']
    exact G c (h2 (by omega)).symm
 by_cases hat:at_<ns.length
 ·have hx:ixM (.ref r) (.int at_) s=.ok (.int (ns.getD at_ 0)) s:=bK9 hs (by simp[hat])
  have e:=F (if ns.getD at_ 0<0 then -ns.getD at_ 0 else ns.getD at_ 0) (by unfold cellF;intro h;rw[if_neg (by omega)]) (by unfold cellF;intro h;rw[if_pos (by omega)];omega)
  rw[<-e]
  simp[ax2,B,hat,hx]
 ·have e:=F 0 (by unfold cellF;intro h;rw[if_neg];rw[bw,bH (by omega)];decide) (by intro h;exact absurd h (by decide))
  rw[<-e]
  simp[ax2,B,hat]
theorem ar4 {s t:Sto}{r:Nat}{o:O}(h:r<s.length):(s++t).set r o=s.set r o++t:=by rw[bS,if_pos h]
theorem qD {s t:Sto}{r:Nat}{o:O}(h:s[r]?=some o):(s++t)[r]?=some o:=by
 rw[aL (ah.mp h).1];exact h
theorem qi {s:Sto}{r:Nat}{o:O}(h:r<s.length):(s.set r o)[r]?=some o:=aO h
theorem aJ7 {P:Pr}[Has P ac6](n:Nat)(b:Nat×Nat)(many:Int)(h0:0<many)(h:many<=10^90)(s:Sto)(r:Nat)(hs:s[r]?=some (zD b)) :
  (aa0 P (n+1)).call "_law_take" [.ref r,.int many] s=.ok (.int (tk b many.toNat).1) (s.set r (zD (tk b many.toNat).2)):=by
 have:=bo3 n b many.toNat (P:=P) (by omega) (by have:many<=((10^90:Nat):Int):=(by simpa using h);omega) s r hs
 rwa [show((many.toNat:Nat):Int)=many by omega]at this
noncomputable def bd (b:Nat×Nat):Nat×(Nat×Nat) :=
 let x0:=tk b 3
 let x1:=tk x0.2 13
 let x2:=tk x1.2 1000000000
 let x3:=tk x2.2 1000000000000000000000000000000
 let i:=tk x3.2 4
 ([x0.1,x1.1,x2.1,x3.1].getD i.1 0,i.2)
theorem bg8 {P:Pr}[Has P ac6][Has P ae7](n:Nat)(b:Nat×Nat)(s:Sto)(r:Nat)(hs:s[r]?=some (zD b)) :
  (aa0 P (n+2)).call "_law_bound" [.ref r] s=.ok (.int (bd b).1) (s.set r (zD (bd b).2)):=by
 refine(ze ae7 rfl).trans ?_
 have hr:r<s.length:=(ah.mp hs).1
 have T:=λ b many h0 h s r hs=>aJ7 (P:=P) n b many h0 h s r hs
 simp[ae7,aD4,T _ 3 (by decide) (by decide) _ _ hs]
 rw[T _ 13 (by decide) (by decide) _ _ (qi hr)]
 simp[hr]
 rw[T _ 1000000000 (by decide) (by decide) _ _ (qi hr)]
 simp[hr]
 rw[T _ 1000000000000000000000000000000 (by decide) (by decide) _ _ (qi hr)]
 simp[hr]
 rw[T _ 4 (by decide) (by decide) _ _ (qD (qi hr))]
 have G:=bE2 (tk (tk (tk (tk b 3).2 13).2 1000000000).2 1000000000000000000000000000000).2 (many:=4) (by decide)
 rw[ar4 (by simpa using hr),bV]
 simp only[R.bind_ok,Int.reduceToNat]
 generalize B:tk (tk (tk (tk (tk b 3).2 13).2 1000000000).2 1000000000000000000000000000000).2 4=i at G
 have F:∀(l:List D) (t:Sto) (q:Nat) (d:D),t[q]?=some (.lst l)->l[i.1]?=some d->ixM (.ref q) (.int (i.1:Int)) t=.ok d t:=λ l t q d J Y=>ai1 J Y
 rw[F [.int (tk b 3).1,.int (tk (tk b 3).2 13).1,.int (tk (tk (tk b 3).2 13).2 1000000000).1,.int (tk (tk (tk (tk b 3).2 13).2 1000000000).2 1000000000000000000000000000000).1] _ _ (.int (bd b).1) (by simp) ?_]
 ·simp only[R.bind_ok,fin_ret,bd,B]
  exact al4 (λ _=>rfl) (by nofun) rfl
 ·unfold bd
  simp only[B]
  obtain⟨i,Z⟩:=i
  match i,G with
  | 0,_=>rfl
  | 1,_=>rfl
  | 2,_=>rfl
  | 3,_=>rfl
section
variable {F:Fns} {ρ:Env} {s:Sto}
noncomputable def af1 (F:Fns)(tg:Tg)(e:E)(d:D)(ρ:Env)(s:Sto):R (Option D×Env):=match zN ρ tg d with
 | some ρ=>(ev F e ρ s).bind λ v s=>.ok (some v,ρ) s
 | none=>.bad
noncomputable def am2 (F:Fns)(tg:Tg)(c e:E)(d:D)(ρ:Env)(s:Sto):R (Option D×Env):=match zN ρ tg d with
 | some ρ=>tru (ev F c ρ s) λ k s=>if k then(ev F e ρ s).bind λ v s=>.ok (some v,ρ) s else .ok (none,ρ) s
 | none=>.bad
@[simp] theorem qJ (tg:Tg) (it:I) (e:E) (B:List (Option Nat)):evL F (.comp tg it e B) ρ s=(evI F it ρ s).bind λ q s0=>if q.its.length<=LIM then ae1 (λ s=>chk s0 s q.src) (af1 F tg e) q.its (zZ ρ B) s0 else .bad:=rfl
@[simp] theorem ql (tg:Tg) (it:I) (c e:E) (B:List (Option Nat)):evL F (.compIf tg it c e B) ρ s=(evI F it ρ s).bind λ q s0=>if q.its.length<=LIM then ae1 (λ s=>chk s0 s q.src) (am2 F tg c e) q.its (zZ ρ B) s0 else .bad:=rfl
@[simp] theorem aR9 (a B:E):ev F (.slU a B) ρ s=(ev F a ρ s).bind λ x s=>(ev F B ρ s).bind λ y s=>match y with|.int i=>slM x none (some i) s|_=>.bad:=rfl
@[simp] theorem cb7 (a B:E):ev F (.slL a B) ρ s=(ev F a ρ s).bind λ x s=>(ev F B ρ s).bind λ y s=>match y with|.int i=>slM x (some i) none s|_=>.bad:=rfl
end
theorem qd {ok:Sto->Bool}{g:D->Env->Sto->R (Option D×Env)}(P:Env->Sto->Prop)(f:D->Option D):∀(l:List D) (ρ:Env) (s:Sto),P ρ s ->
  (∀ ρ s,P ρ s->ok s=true)->(∀ d∈l,∀ ρ s,P ρ s->∃ ρ' s',g d ρ s=.ok (f d,ρ') s'/\P ρ' s')->∃ ρ' s',ae1 ok g l ρ s=.ok (l.filterMap f) s'/\P ρ' s'
 | [],ρ,s,h,o,_=>⟨ρ,s,by unfold ae1;rw[if_pos (o ρ s h)];rfl,h⟩
 | d::l,ρ,s,h,o,st=>by
  obtain⟨ρ1,s1,e1,F⟩:=st d (av ..) ρ s h
  obtain⟨ρ2,s2,e2,B⟩:=qd P f l ρ1 s1 F o λ x hx=>st x (ai _ hx)
  refine⟨ρ2,s2,?_,B⟩
  unfold ae1
  rw[if_pos (o ρ s h),e1]
  simp only[R.bind_ok]
  rw[e2,aQ]
  cases f d<;>rfl
theorem qB {P:Pr}[Has P ac6](n:Nat){s:Sto}{r:Nat}(hs:∃ b,s[r]?=some (zD b))(many:Int)(h0:0<many)(h:many<=10^90) :
  ∃(k:Nat) (b:Nat×Nat),(k:Int)<many/\(aa0 P (n+1)).call "_law_take" [.ref r,.int many] s=.ok (.int k) (s.set r (zD b)):=by
 obtain⟨b,hb⟩:=hs
 have:=bE2 b (many:=many.toNat) (by omega)
 exact⟨(tk b many.toNat).1,(tk b many.toNat).2,by omega,aJ7 n b many h0 h s r hb⟩
theorem as0 {k:Int}(h:k<=1000):k<=10^90:=Int.le_trans h (by decide)
theorem aq9 {s:Sto}{r:Nat}{b:Nat×Nat}(h:r<s.length):∃ B,(s.set r (zD b))[r]?=some (zD B):=⟨b,qi h⟩
theorem bk8 {s:Sto}{r:Nat}(h:∃ b,s[r]?=some (zD b)):r<s.length:=by obtain⟨b,hb⟩:=h;exact(ah.mp hb).1
theorem aW9 {k:Int}{s:Sto}(h:0<=k/\k<=1000000):ae8 .shl (.int 1) (.int k) s=.ok (.int (1*2^k.toNat)) s:=by
 show(if 0<=k/\k<=1000000/\(1:Int).natAbs<2^64 then _ else _:M D) s=_
 rw[if_pos ⟨h.1,h.2,by decide⟩];rfl
theorem zr {l:List D}(h:∀ d∈l,∀ n,d.bnd n=true)(n:Nat):D.bndL n l=true:=by
 induction l with
 | nil=>rfl
 | cons d l ih=>unfold D.bndL;rw[h d (av ..),ih λ x hx=>h x (ai _ hx)];rfl
noncomputable def au1 (bits:Nat):D->Option D
 | .int i=>if(bits:Int) / (1*2^i.toNat) % 2=1 then some (.int i)else none
 | _=>none
theorem aS4 {B:Nat}{l:List D}:∀ d∈l.filterMap (au1 B),∀ n,d.bnd n=true:=λ d hd n=>by
 obtain⟨x,hx,e⟩:=cC.mp hd
 cases x with
 | int i =>
  simp only[au1]at e
  split at e
  ·cases e;rfl
  ·cases e
 | _=>cases e
theorem aM1 {P:Pr}[Has P ac6][Has P ad5](n:Nat){s:Sto}{r:Nat}(hs:∃ b,s[r]?=some (zD b))(k:Int)(h0:0<=k)(h:k<=5) :
  ∃(B:Nat) (b:Nat×Nat),(aa0 P (n+2)).call "_law_rooms" [.ref r,.int k] s=.ok (.tup ((zW 0 k).filterMap (au1 B))) (s.set r (zD b)):=by
 have e0:(aa0 P (n+2)).call "_law_rooms" [.ref r,.int k] s=_:=ze ad5 (n:=n+1) rfl
 have hr:=bk8 hs
 have hp:(1:Int)*2^k.toNat<=32:=by
  have:k.toNat<=5:=by omega
  have G:(2:Nat)^k.toNat<=2^5:=iU (by decide) this
  have h3:((2^k.toNat:Nat):Int)<=32:=by exact_mod_cast G
  rw[f8];simpa using h3
 have Y:(0:Int)<1*2^k.toNat:=by rw[f8];exact Int.pow_pos (by decide)
 obtain⟨B,b,hb,eb⟩:=qB (P:=P) n hs (1*2^k.toNat) Y (as0 (by omega))
 rw[e0]
 simp only[ad5,qf,ex_asg,ev_call,evas_ex,evas_nil,ev_var,ev_bin,ev_cst,Cn_int,aS,gS,gv,g9,getV_0,getV_s,R.bind_ok,aW9 ⟨h0,by omega⟩,eb,bindT_one]
 simp only[aq,setV_s,setV_0,dR,setC_some,R.bind_ok,qN,qf,exs_nil,ex_ret,ev_mk,ql,evI_rng1,ev_var,getV_0,getV_s]
 rw[qC (by unfold W62;omega) (by unfold W62;omega)]
 simp only[R.bind_ok]
 rw[if_pos (by simp[zW];unfold LIM;omega)]
 have key:∃(ρ':Env) (s':Sto),ae1 (λ J=>chk (s.set r (zD b)) J []) (am2 (aa0 P (n+1)) (.one 0) (.cmp .eq (.bin .mod (.bin .fdiv (.var 1) (.bin .shl (.cst (.int 1)) (.var 0))) (.cst (.int 2))) (.cst (.int 1))) (.var 0)) (zW 0 k) (zZ [some (.ref r),some (.int k),some (.int B)] [none,some 2]) (s.set r (zD b))=.ok ((zW 0 k).filterMap (au1 B)) s'/\(s'=s.set r (zD b)/\∃ x,ρ'=[x,some (D.int B)]):=by
  refine qd (λ ρ u=>u=s.set r (zD b)/\∃ x,ρ=[x,some (.int B)]) (au1 B) (zW 0 k) _ _ ⟨rfl,none,rfl⟩ (λ _ _ _=>rfl) ?_
  rintro d hd ρ u ⟨rfl,x,rfl⟩
  obtain⟨j,hj⟩:=e7 hd
  obtain⟨G,rfl⟩:=ai7 hj
  refine⟨[some (.int (0+j)),some (.int B)],_,?_,rfl,_,rfl⟩
  have a1:j<5:=by omega
  have a0:(1:Int)*2^((0:Int)+j).toNat<=32:=by
   have:((0:Int)+j).toNat<=5:=by omega
   have G:(2:Nat)^((0:Int)+j).toNat<=2^5:=iU (by decide) this
   have h3:((2^((0:Int)+j).toNat:Nat):Int)<=32:=by exact_mod_cast G
   rw[f8];simpa using h3
  have F:(0:Int)<1*2^((0:Int)+j).toNat:=by rw[f8];exact Int.pow_pos (by decide)
  unfold am2
  simp only[bindT_one,setV_0,ev_cmp,ev_bin,ev_var,ev_cst,Cn_int,getV_0,getV_s,R.bind_ok]
  rw[aW9 ⟨by omega,by omega⟩]
  simp only[R.bind_ok]
  rw[ar8 F (by omega)]
  simp only[R.bind_ok]
  rw[al2 (by decide)]
  simp only[R.bind_ok,eq_int,tru_bl]
  simp[au1]
  split<;>rfl
 obtain⟨ρ',s',e,Z⟩:=key
 rw[e]
 obtain⟨rfl,_⟩:=Z
 refine⟨B,b,?_⟩
 simp only[R.bind_ok,mk,nxt_ret,fin_ret]
 exact ah1 (λ m=>by unfold D.bnd;exact zr aS4 m) (by nofun) rfl
theorem bO1 {k:Nat}(h:k<3)(s:Sto):ixM (.str [97,98,99]) (.int (k:Int)) s=.ok (.str [97+k]) s:=by
 match k,h with
 | 0,_=>rfl
 | 1,_=>rfl
 | 2,_=>rfl
theorem as2 {P:Pr}[Has P ac6](n:Nat){s t:Sto}{r:Nat}(hr:r<s.length)(b:Nat×Nat)(many:Int)(h0:0<many)(h:many<=10^90) :
  ∃(k:Nat) (B:Nat×Nat),(k:Int)<many/\(aa0 P (n+1)).call "_law_take" [.ref r,.int many] (s.set r (zD b)++t)=.ok (.int k) (s.set r (zD B)++t):=by
 obtain⟨k,B,G,F⟩:=qB (P:=P) n (s:=s.set r (zD b)++t) (r:=r) ⟨b,qD (qi hr)⟩ many h0 h
 refine⟨k,B,G,?_⟩
 rw[F,ar4 (by rw[bp];exact hr),bV]
theorem bH4 {s t:Sto}{r:Nat}{b:Nat×Nat}{l:List D}{v:D}(h:l.length<LIM):meth .append (.ref s.length) [v] (s.set r (zD b)++(.lst l::t))=.ok .non (s.set r (zD b)++(.lst (l++[v])::t)):=by
 rw[qL (l:=l) (by rw[aB (by simp)];simp) h]
 congr 1
 rw[bS,if_neg (by simp)]
 simp
theorem aE6 {a b:List Nat}{s:Sto}(h:a.length+b.length<=LIM):ae8 .add (.str a) (.str b) s=.ok (.str (a++b)) s:=by
 show(if a.length+b.length<=LIM then _ else _:M D) s=_;rw[if_pos h];rfl
def Lts (L:Nat)(w:List Nat):Prop:=∀ c∈w,97<=c/\c<97+L
theorem rep_len (l:List Nat):∀ n,(rep n l).length=l.length*n
 | 0=>by simp[rep]
 | n+1=>by simp[rep,rep_len l n,j9];omega
noncomputable def bG6 (L:Nat)(d:D):Bool:=match d with
 | .str w=>decide (w.length<=200)&&w.all λ c=>decide (97<=c/\c<97+L)
 | _=>false
theorem aQ4 {P:Pr}{x:String}{v:D}[HasC P x v]{n:Nat}{ρ:Env}{s:Sto}:ev (aa0 P n) (.glob x) ρ s=.ok v s:=by
 show(match(aa0 P n).con x with|some d=>R.ok d s|none=>.bad)=_
 rw[bB1 (v:=v)]
noncomputable abbrev aO3:List D:=[.str [97],.str [98],.str [99]]
theorem bB4 {L:Nat}(h:L<=3)(s:Sto):slM (.tup aO3) none (some (L:Int)) s=.ok (.tup (aO3.take L)) s:=by
 match L,h with
 | 0,_=>rfl
 | 1,_=>rfl
 | 2,_=>rfl
 | 3,_=>rfl
theorem aM2 {P:Pr}[Has P aa7][HasC P "LETTERS" (.tup aO3)](n:Nat){L:Nat}(h:L<=3)(l:List D)(s:Sto):(aa0 P (n+1)).call "letters_of" [.tup (.int L::l)] s=.ok (.tup (aO3.take L)) s:=by
 refine(ze aa7 rfl).trans ?_
 have B:ixM (.tup (.int L::l)) (.int ((0:Nat):Int)) s=.ok (.int L) s:=ix_tup rfl
 simp -implicitDefEqProofs [aa7,aQ4 (v:=.tup aO3)]
 rw[show(0:Int)=((0:Nat):Int)from rfl,B]
 simp only[R.bind_ok]
 rw[bB4 h]
 simp -implicitDefEqProofs
 match L,h with
 | 0,_=>exact zy (λ _=>rfl) (by nofun)
 | 1,_=>exact zy (λ _=>rfl) (by nofun)
 | 2,_=>exact zy (λ _=>rfl) (by nofun)
 | 3,_=>exact zy (λ _=>rfl) (by nofun)
theorem zY {a b:D}{s:Sto}:qp .isin a b s=(inM a b s).bind λ r s=>.ok (.bl r) s:=rfl
theorem ai5 {a b:D}{s:Sto}:qp .notin a b s=(inM a b s).bind λ r s=>.ok (.bl (!r)) s:=rfl
@[simp] theorem cc2 {F:Fns} {ρ:Env} {s:Sto} (a:E):ev F (.neg a) ρ s=(ev F a ρ s).bind λ x s=>match x with|.int i=>.ok (.int (-i)) s|_=>.bad:=rfl
structure Dr where
 a:Nat
 l:Nat
 b:Nat
 t:Nat
noncomputable def Dr.d (x:Dr):D:=.tup [.int x.a,.str [x.l],.int x.b,.int x.t]
structure Mc where
 L:Nat
 R:Nat
 bg:List Nat
 en:List Nat
 ds:List Dr
noncomputable def z8 (l:List Nat):List D:=l.map λ(k:Nat)=>D.int (k:Int)
noncomputable def sg (w:List Nat):List D:=w.map λ c=>.str [c]
noncomputable def Mc.ps (m:Mc):List D:=[.int m.L,.int m.R,.tup (z8 m.bg),.tup (z8 m.en),.tup (m.ds.map Dr.d)]
noncomputable def Mc.d (m:Mc):D:=.tup m.ps
structure Dr.Ok (m:Mc)(x:Dr):Prop where
 a:x.a<m.R
 l:97<=x.l/\x.l<97+m.L
 b:x.b<m.R
 t:x.t<4
structure Mc.Ok (m:Mc):Prop where
 L1:1<=m.L
 L3:m.L<=3
 R1:1<=m.R
 R5:m.R<=5
 bg:(∀ k∈m.bg,k<m.R)/\m.bg.Pairwise (· < ·)
 en:(∀ k∈m.en,k<m.R)/\m.en.Pairwise (· < ·)
 ds:(∀ x∈m.ds,x.Ok m)/\m.ds.length<=75
theorem aj5 {l:List Nat}:∀ d∈z8 l,∀ n,d.bnd n=true:=λ d hd n=>by
 obtain⟨c,_,rfl⟩:=aP.mp hd;rfl
theorem aW6 {l:List Dr}:∀ d∈l.map Dr.d,∀ n,d.bnd n=true:=λ d hd n=>by
 obtain⟨c,_,rfl⟩:=aP.mp hd;rfl
theorem bw1 {m:Mc}:∀ d∈m.ps,∀ n,d.bnd n=true:=λ d hd n=>by
 simp only[Mc.ps,aA,bN,or_false]at hd
 rcases hd with rfl|rfl|rfl|rfl|rfl
 ·rfl
 ·rfl
 ·unfold D.bnd;exact zr aj5 n
 ·unfold D.bnd;exact zr aj5 n
 ·unfold D.bnd;exact zr aW6 n
theorem bJ6 (m:Mc)(n:Nat):m.d.bnd n=true:=by unfold Mc.d D.bnd;exact zr bw1 n
noncomputable def aJ3 (bits k:Nat):List Nat:=(aU k).filter λ i=>decide (bits / 2^i % 2=1)
theorem aX7 (B k:Nat):(∀ i∈aJ3 B k,i<k)/\(aJ3 B k).Pairwise (· < ·) :=
 ⟨λ i F=>cA.mp (dP.mp F).1,ln _ g6⟩
theorem bb6 (B:Nat)(k:Nat):(zW 0 (k:Int)).filterMap (au1 B)=z8 (aJ3 B k):=by
 unfold zW aJ3 z8
 simp only[kZ,bJ]
 rw[cD]
 induction (aU k)with
 | nil=>rfl
 | cons i l ih =>
  rw[aQ,eP]
  have e:((B:Int) / (1*2^((0:Int)+(i:Int)).toNat) % 2=1)↔(B / 2^i % 2=1):=by
   rw[f8,show((0:Int)+(i:Int)).toNat=i by omega]
   have:((B:Int) / 2^i % 2)=((B / 2^i % 2:Nat):Int):=by simp
   rw[this];omega
  simp only[jl,au1]
  by_cases h:B / 2^i % 2=1
  ·rw[if_pos (e.mpr h)]
   simp only[h,decide_true,if_true,aS]
   rw[<-ih,g7]
  ·rw[if_neg λ z=>h (e.mp z)]
   simp only[h,decide_false]
   exact ih
theorem aI5 {P:Pr}[Has P ac6][Has P ad5](n:Nat){s:Sto}{r:Nat}(hs:∃ b,s[r]?=some (zD b))(k:Nat)(h:k<=5) :
  ∃(l:List Nat) (b:Nat×Nat),((∀ i∈l,i<k)/\l.Pairwise (· < ·))/\(aa0 P (n+2)).call "_law_rooms" [.ref r,.int k] s=.ok (.tup (z8 l)) (s.set r (zD b)):=by
 obtain⟨B,b,e⟩:=aM1 (P:=P) n hs k (by omega) (by omega)
 rw[bb6]at e
 exact⟨_,b,aX7 B k,e⟩
section
variable {P:Pr}
theorem aC6 {l:List D}{s:Sto}(j:Nat){d:D}(h:l[j]?=some d):ixM (.tup l) (.int (j:Int)) s=.ok d s:=ix_tup h
theorem ixL (m:Mc)(s:Sto):ixM m.d (.int 0) s=.ok (.int m.L) s:=aC6 0 rfl
theorem ixR (m:Mc)(s:Sto):ixM m.d (.int 1) s=.ok (.int m.R) s:=aC6 1 rfl
theorem ixB (m:Mc)(s:Sto):ixM m.d (.int 2) s=.ok (.tup (z8 m.bg)) s:=aC6 2 rfl
theorem ixE (m:Mc)(s:Sto):ixM m.d (.int 3) s=.ok (.tup (z8 m.en)) s:=aC6 3 rfl
theorem ixD (m:Mc)(s:Sto):ixM m.d (.int 4) s=.ok (.tup (m.ds.map Dr.d)) s:=aC6 4 rfl
theorem ak2 [Has P aa9](n:Nat)(m:Mc)(s:Sto):(aa0 P (n+1)).call "rooms_of" [m.d] s=.ok (.int m.R) s:=by
 refine(ze aa9 rfl).trans ?_
 simp -implicitDefEqProofs [aa9,ixR]
theorem qE {s:Sto}{l:List D}(h:∀ d∈l,∀ n,d.bnd n=true):zq s (.tup l) s=.ok (.tup l) s:=zy (λ n=>by unfold D.bnd;exact zr h n) (by nofun)
theorem az3 [Has P ab3](n:Nat)(m:Mc)(s:Sto):(aa0 P (n+1)).call "begins_of" [m.d] s=.ok (.tup (z8 m.bg)) s:=by
 refine(ze ab3 rfl).trans ?_
 simp -implicitDefEqProofs [ab3,ixB,qE aj5]
theorem aL4 [Has P ab2](n:Nat)(m:Mc)(s:Sto):(aa0 P (n+1)).call "ends_of" [m.d] s=.ok (.tup (z8 m.en)) s:=by
 refine(ze ab2 rfl).trans ?_
 simp -implicitDefEqProofs [ab2,ixE,qE aj5]
theorem aE0 [Has P ab0](n:Nat)(m:Mc)(s:Sto):(aa0 P (n+1)).call "doors_of" [m.d] s=.ok (.tup (m.ds.map Dr.d)) s:=by
 refine(ze ab0 rfl).trans ?_
 simp -implicitDefEqProofs [ab0,ixD,qE aW6]
theorem aR2 {a b:Int}(h:a<b):zW a b=.int a::zW (a+1) b:=by
 unfold zW
 obtain⟨n,hn⟩:∃ n:Nat,(b - a).toNat=n+1:=⟨(b - a).toNat - 1,by omega⟩
 rw[hn,show(b - (a+1)).toNat=n by omega,d5,aS,bM]
 congr 1
 ·simp
 ·apply fo
  intro k _
  simp only[jl]
  congr 1;omega
theorem bf6 {a b:Int}(h:b<=a):zW a b=[]:=by
 unfold zW
 rw[show(b - a).toNat=0 by omega];rfl
@[simp] theorem bV8 (a b:Nat) (s:Sto):qp .ne (.str [a]) (.str [b]) s=.ok (.bl (!decide (a=b))) s:=by
 show(match eqv s DEEP (.str [a]) (.str [b])with|some r=>R.ok (D.bl (!r)) s|none=>.bad)=_
 have:eqv s DEEP (.str [a]) (.str [b])=some ([a]==[b]):=rfl
 rw[this]
 have e:([a]==[b])=decide (a=b):=by rw[ic];simp
 rw[e]
@[simp] theorem qH (a b:Nat) (s:Sto):qp .eq (.str [a]) (.str [b]) s=.ok (.bl (decide (a=b))) s:=by
 show(match eqv s DEEP (.str [a]) (.str [b])with|some r=>R.ok (D.bl r) s|none=>.bad)=_
 have:eqv s DEEP (.str [a]) (.str [b])=some ([a]==[b]):=rfl
 rw[this]
 have e:([a]==[b])=decide (a=b):=by rw[ic];simp
 rw[e]
end
theorem good_of {L:Nat}{w:List Nat}(h:w.length<=200)(hw:Lts L w):bG6 L (.str w)=true:=by
 unfold bG6
 simp only[h,decide_true,gr,aM,decide_eq_true_eq]
 exact hw
theorem bo7 {a b:List D}{s:Sto}(h:a.length+b.length<=LIM):ae8 .add (.tup a) (.tup b) s=.ok (.tup (a++b)) s:=by
 show(if a.length+b.length<=LIM then _ else _:M D) s=_;rw[if_pos h];rfl
@[simp] theorem bX0 {F:Fns} {ρ:Env} {s:Sto} (a G B:E):ev F (.slLU a G B) ρ s=(ev F a ρ s).bind λ x s=>(ev F G ρ s).bind λ y s=>match y with|.int i=>(ev F B ρ s).bind (λ z s=>match z with|.int j=>slM x (some i) (some j) s|_=>.bad)|_=>.bad:=rfl
theorem two {l:List D}(h:l.length=2):∃ a b,l=[a,b]:=by
 match l,h with
 | [a,b],_=>exact⟨a,b,rfl⟩
@[simp] theorem bS4 {F:Fns} {ρ:Env} {s:Sto} (e:E):evI F (.enum (.seq e)) ρ s=(ev F e ρ s).bind λ d s=>(ba2 d s).bind λ q s=>.ok ⟨bu9 0 q.its,q.src⟩ s:=rfl
noncomputable def row (m:Nat)(f:Nat->Int):List D:=(aU m).map λ j=>.int (f j)
@[simp] theorem bX7 {m:Nat} {f:Nat->Int}:(row m f).length=m:=by unfold row;simp
theorem qA {l:List D}(s:Sto):aO2 (.tup l) s=.ok ⟨l,[]⟩ s:=rfl
theorem at7 {ok:Sto->Bool}{g:D->Env->Sto->R (Option D×Env)}(P:Env->Sto->Prop)(f:D->D)(l:List D)(ρ:Env)(s:Sto)(h:P ρ s)
  (o:∀ ρ s,P ρ s->ok s=true) (st:∀ d∈l,∀ ρ s,P ρ s->∃ ρ' s',g d ρ s=.ok (some (f d),ρ') s'/\P ρ' s'):∃ ρ' s',ae1 ok g l ρ s=.ok (l.map f) s'/\P ρ' s':=by
 obtain⟨ρ',s',e,p⟩:=qd P (λ d=>some (f d)) l ρ s h o st
 refine⟨ρ',s',?_,p⟩
 rw[e];congr 1;induction l<;>simp_all
theorem ar1 {ok:Sto->Bool}{g:D->Env->Sto->R (Option D×Env)}(P:Env->Sto->Prop)(f:Nat->D)(n:Nat)(ρ:Env)(s:Sto)(h:P ρ s)
  (o:∀ ρ s,P ρ s->ok s=true) (st:∀ j,j<n->∀ ρ s,P ρ s->∃ ρ' s',g (.int (j:Int)) ρ s=.ok (some (f j),ρ') s'/\P ρ' s'):∃ ρ' s',ae1 ok g (zW 0 (n:Int)) ρ s=.ok ((aU n).map f) s'/\P ρ' s':=by
 obtain⟨ρ',s',e,p⟩:=at7 (g:=g) P (λ d=>match d with|.int i=>f i.toNat|d=>d) (zW 0 (n:Int)) ρ s h o λ d hd ρ s hp=>by
  obtain⟨j,hj⟩:=e7 hd
  obtain⟨B,rfl⟩:=ai7 hj
  obtain⟨ρ',s',e,p⟩:=st j (by omega) ρ s hp
  refine⟨ρ',s',?_,p⟩
  rw[g7,e];rfl
 refine⟨ρ',s',?_,p⟩
 rw[e]
 congr 1
 unfold zW
 rw[bM,show((n:Int) - 0).toNat=n by omega]
 exact fo λ j _=>by
  show f ((0:Int)+(j:Int)).toNat=f j
  congr 1;omega
theorem aj1 (n:Nat):(zW 0 (n:Int)).length=n:=by simp[zW]
noncomputable def prN (f g:Nat->Nat->Int)(i j:Nat):Nat->Int
 | 0=>3
 | k+1=>if f i k<3 then(let b:=(if g k j > f i k then g k j else f i k);if b<prN f g i j k then b else prN f g i j k)else prN f g i j k
noncomputable def pr (m:Nat)(f g:Nat->Nat->Int)(i j:Nat):Int:=prN f g i j m
noncomputable def bN3 (m:Nat)(f:Nat->Nat->Int):Sto:=(aU m).map λ i=>.lst (row m (f i))
@[simp] theorem bR4 {m:Nat} {f:Nat->Nat->Int}:(bN3 m f).length=m:=by unfold bN3;simp
noncomputable def ch1 (p m:Nat):List D:=(aU m).map λ i=>.ref (p+i)
@[simp] theorem bV3 {F:Fns} {ρ:Env} {s:Sto} (a b:E):evI F (.zip (.seq a) (.seq b)) ρ s=(ev F a ρ s).bind λ x s=>(ev F b ρ s).bind λ y s=>(aL1 x s).bind λ p s=>(aL1 y s).bind λ q s=>.ok ⟨bT5 p.its q.its,p.src++q.src⟩ s:=rfl
theorem ix_str {l:List Nat}{j c:Nat}{s:Sto}(hj:l[j]?=some c):ixM (.str l) (.int (j:Int)) s=.ok (.str [c]) s:=by
 have hl:j<l.length:=(ah.mp hj).1
 have e:l[j]=c:=(ah.mp hj).2
 simp[ixM,ixn,hl,e]
noncomputable def shN (f:Nat->Nat->Int)(i j:Nat):Nat->Int
 | 0=>3
 | k+1=>let b:=max (max (f i k) (if f k k=1 then 2 else f k k)) (f k j);if b<shN f i j k then b else shN f i j k
noncomputable def sh (m:Nat)(f:Nat->Nat->Int)(i j:Nat):Int:=shN f i j m
inductive Stp where
 | let_ (c:Nat)|pair (i j:Nat)|sharp (i:Nat)
noncomputable def Stp.d:Stp->D
 | .let_ c=>.tup [.str [108,101,116,116,101,114],.str [c]]
 | .pair i j=>.tup [.str [112,97,105,114],.int i,.int j]
 | .sharp i=>.tup [.str [115,104,97,114,112],.int i]
section
variable {s:Sto} {r:Nat} {b:Int} {A B C:List D} {T:Sto}
end
noncomputable def pw (m:Nat)(f:Nat->Nat->Int):Nat->Nat->Nat->Int
 | 0=>f
 | n+1=>pr m (pw m f n) f
section
variable {m:Nat} {f:Nat->Nat->Int} {x:Int}
end
noncomputable def bX4 (a c:Int)(vs:List Int):Stp->Int
 | .let_ _=>a
 | .pair i j=>vs.getD i 0+vs.getD j 0
 | .sharp i=>vs.getD i 0*c
noncomputable def vl (a c:Int)(l:List Stp):List Int:=l.foldl (λ vs x=>vs++[bX4 a c vs x]) []
section
variable {F:Fns} {ρ:Env} {s:Sto}
end
noncomputable def Stp.t (c:Int):Stp->D
 | .sharp i=>.tup [.str [116,105,109,101,115],.int i,.int c]
 | x=>x.d
section
variable {P:Pr} [Has P bn1] [Has P an2] [HasL P ag9]
end
noncomputable def ae2 (S:Int->Prop):Option Int->Prop
 | none=>∀ c,¬ S c
 | some c=>S c/\∀ c',S c'->c<=c'
theorem ae2.eq {S F:Int->Prop}{o B:Option Int}(h:ae2 S o)(h':ae2 F B)(e:∀ c,S c↔F c):o=B:=by
 cases o with
 | none =>
  cases B with
  | none=>rfl
  | some c=>exact absurd ((e c).mpr h'.1) (h c)
 | some c =>
  cases B with
  | none=>exact absurd ((e c).mp h.1) (h' c)
  | some c' =>
   have J:=h.2 c' ((e c').mpr h'.1)
   have G:=h'.2 c ((e c).mp h.1)
   rw[show c=c' by omega]
theorem ae2.congr {S B:Int->Prop}{o:Option Int}(h:ae2 S o)(e:∀ c,S c↔B c):ae2 B o:=by
 cases o with
 | none=>exact λ c hc=>h c ((e c).mpr hc)
 | some c=>exact⟨(e c).mp h.1,λ F hc=>h.2 F ((e F).mpr hc)⟩
noncomputable def minO:Option Int->Option Int->Option Int
 | none,x=>x
 | some a,none=>some a
 | some a,some b=>if b<a then some b else some a
theorem ae2.or {S F:Int->Prop}{o B:Option Int}(h:ae2 S o)(h':ae2 F B):ae2 (λ c=>S c\/F c) (minO o B):=by
 cases o with
 | none =>
  cases B with
  | none=>exact λ c hc=>hc.elim (h c) (h' c)
  | some b=>exact⟨.inr h'.1,λ c hc=>hc.elim (λ z=>absurd z (h c)) (h'.2 c)⟩
 | some a =>
  cases B with
  | none=>exact⟨.inl h.1,λ c hc=>hc.elim (h.2 c) (λ z=>absurd z (h' c))⟩
  | some b =>
   show ae2 _ (if b<a then some b else some a)
   by_cases hlt:b<a
   ·rw[if_pos hlt]
    exact⟨.inr h'.1,λ c hc=>hc.elim (λ z=>by have:=h.2 c z;omega) (h'.2 c)⟩
   ·rw[if_neg hlt]
    exact⟨.inl h.1,λ c hc=>hc.elim (h.2 c) (λ z=>by have:=h'.2 c z;omega)⟩
theorem ae2.add {S:Int->Prop}{o:Option Int}(h:ae2 S o)(k:Int):ae2 (λ c=>∃ B,S B/\c=B+k) (o.map (·+k)):=by
 cases o with
 | none=>rintro c ⟨B,h',_⟩;exact h B h'
 | some a=>exact⟨⟨a,h.1,rfl⟩,by rintro c ⟨B,h',rfl⟩;have:=h.2 B h';show a+k<=B+k;omega⟩
noncomputable def Dr.turn (x:Dr):Dr:=⟨x.b,x.l,x.a,x.t⟩
noncomputable def Mc.turn (m:Mc):Mc:=⟨m.L,m.R,m.en,m.bg,m.ds.map Dr.turn⟩
noncomputable def za (row:List (Option Int)):List D:=row.map qg
theorem aj3 (row:List (Option Int)):(za row).length=row.length:=aw ..
theorem at5 {row:List (Option Int)}{k:Nat}{o:Option Int}(h:row[k]?=some o):(za row)[k]?=some (qg o):=by unfold za;rw[aH,h];rfl
def aD9 (S:Nat->Int->Prop)(row:List (Option Int)):Prop:=∀ k o,row[k]?=some o->ae2 (S k) o
theorem ay0 {s:Sto}{k:Nat}:∀ {l:List Nat},inL s (.int k) (z8 l)=some (decide (k∈l))
 | []=>rfl
 | a::l=>by
  have B:=ay0 (s:=s) (k:=k) (l:=l)
  have e:eqv s DEEP (.int (a:Int)) (.int (k:Int))=some ((a:Int)==(k:Int)):=rfl
  show(match eqv s DEEP (.int (a:Int)) (.int (k:Int)),inL s (.int k) (z8 l)with|some a,some b=>some (a||b)|_,_=>none)=_
  rw[e,B]
  show some (((a:Int)==(k:Int))||decide (k∈l))=some _
  congr 1
  rw[ic]
  simp
  constructor
  ·rintro(h|h)
   ·exact .inl (by omega)
   ·exact .inr h
  ·rintro(h|h)
   ·exact .inl (by omega)
   ·exact .inr h
theorem af2 {s:Sto}{k:Nat}{l:List Nat}:inM (.int k) (.tup (z8 l)) s=.ok (decide (k∈l)) s:=by unfold inM;simp only[ay0]
theorem aS0 (b:Bool)(s:Sto):bi .int [.bl b] s=.ok (.int (if b then 1 else 0)) s:=by cases b<;>rfl
theorem ap6:∀ l:List Int,qq (l.map D.int)=some l
 | []=>rfl
 | a::l=>by rw[aS];unfold qq;rw[ap6 l];rfl
theorem aw3:∀(l:List Int) (a:Int),(l.foldl min a=a\/l.foldl min a∈l)/\l.foldl min a<=a/\∀ y∈l,l.foldl min a<=y
 | [],a=>⟨.inl rfl,fW _,λ y hy=>by cases hy⟩
 | b::l,a=>by
  obtain⟨B,F,h3⟩:=aw3 l (min a b)
  rw[cZ]
  refine⟨?_,by omega,λ y hy=>?_⟩
  ·rcases B with h|h
   ·rw[h]
    rcases k6 a b with z|z
    ·left;omega
    ·right;rw[show min a b=b by omega];exact av ..
   ·exact .inr (ai _ h)
  ·rcases aA.mp hy with z|z
   ·rw[z];omega
   ·exact h3 y z
theorem ap4 (l:List Int):ae2 (λ c=>c∈l) (minI l):=by
 cases l with
 | nil=>exact λ c hc=>by cases hc
 | cons a l =>
  obtain⟨F,B,h3⟩:=aw3 l a
  refine⟨?_,λ y hy=>?_⟩
  ·rcases F with h|h
   ·rw[h];exact av ..
   ·exact ai _ h
  ·rcases aA.mp hy with z|z
   ·rw[z];exact B
   ·exact h3 y z
theorem aX4 (l:List Int)(s:Sto):mkD .min (l.map D.int) .non s=.ok (qg (minI l)) s:=by
 unfold mkD
 simp only[ap6]
 cases minI l<;>rfl
def aC1 (S:Nat->Int->Prop)(x:Nat)(ds:List Dr)(k:Nat)(c:Int):Prop:=∃ d∈ds,d.l=x/\d.b=k/\∃ c':Int,S d.a c'/\c=c'+(d.t:Int)
theorem ax0 {S:Nat->Int->Prop}{x:Nat}{G:List Dr}{d:Dr}{F:List (Option Int)}(h:aD9 (aC1 S x G) F)(hn:∀ B,¬(d.l=x/\S d.a B)):aD9 (aC1 S x (G++[d])) F:=λ k o hk=>by
 refine(h k o hk).congr λ c=>?_
 constructor
 ·rintro⟨e,he,r⟩;exact⟨e,aW.mpr (.inl he),r⟩
 ·rintro⟨e,he,hl,hb,B,hs,r⟩
  rcases aW.mp he with z|z
  ·exact⟨e,z,hl,hb,B,hs,r⟩
  ·rw[aI.mp z]at hl hs;exact absurd ⟨hl,hs⟩ (hn B)
theorem aR4 {S:Nat->Int->Prop}{x:Nat}{F:List Dr}{d:Dr}{B:List (Option Int)}{i:Int}(h:aD9 (aC1 S x F) B)(hx:d.l=x)(G:ae2 (S d.a) (some i)){o:Option Int}(ho:B[d.b]?=some o) :
  aD9 (aC1 S x (F++[d])) (B.set d.b (minO o (some (i+d.t)))):=λ k J hk=>by
 have hlt:d.b<B.length:=(ah.mp ho).1
 by_cases e:d.b=k
 ·subst e
  rw[aO hlt]at hk
  cases hk
  refine((h _ o ho).or (G.add d.t)).congr λ c=>?_
  constructor
  ·rintro(⟨e,he,r⟩|r)
   ·exact⟨e,aW.mpr (.inl he),r⟩
   ·exact⟨d,aW.mpr (.inr (aI.mpr rfl)),hx,rfl,r⟩
  ·rintro⟨e,he,hl,hb,r⟩
   rcases aW.mp he with z|z
   ·exact .inl ⟨e,z,hl,hb,r⟩
   ·rw[aI.mp z]at r;exact .inr r
 ·rw[aZ e]at hk
  refine(h k J hk).congr λ c=>?_
  constructor
  ·rintro⟨e,he,r⟩;exact⟨e,aW.mpr (.inl he),r⟩
  ·rintro⟨e',he,hl,hb,r⟩
   rcases aW.mp he with z|z
   ·exact⟨e',z,hl,hb,r⟩
   ·rw[aI.mp z]at hb;exact absurd hb e
theorem qe {α β:Type}{f g:α->Option β}:∀ {l:List α},(∀ x∈l,f x=g x)->l.filterMap f=l.filterMap g
 | [],_=>rfl
 | a::l,h=>by rw[aQ,aQ,h a (av ..),qe λ x hx=>h x (ai _ hx)]
end DV
end
local macro_rules | `(tactic| tbr_iter [$xs,*]) => `(tactic| simp -implicitDefEqProofs only [DV.qf, DV.exs_nil, DV.ex_asg, DV.ex_ite, DV.ex_ret, DV.ex_ex, DV.ex_for, DV.ex_whl, DV.ex_setIx, DV.ex_cont, DV.ex_pass, DV.ex_und, DV.ev_var, DV.ev_cst, DV.ev_bin, DV.ev_not, DV.ev_cmp, DV.ev_and, DV.ev_or, DV.ev_ite, DV.ev_tup, DV.ev_lst, DV.ev_ix, DV.ev_call, DV.ev_bi, DV.ev_mk, DV.ev_mkD, DV.ev_mks, DV.ev_mkDs, DV.ev_meth, DV.ev_isN, DV.ev_notN, DV.evs_nil, DV.evs_cons, DV.evas_nil, DV.evas_ex, DV.evI_seq, DV.evI_rng1, DV.evL_seq, DV.Cn_bl, DV.Cn_int, DV.Cn_non, DV.Cn_str, DV.R.bind_ok, DV.bindT_one, DV.bindT_tup, DV.setVs_nil, DV.setVs_cons, DV.setV_s, DV.setV_0, DV.unsetV_s, DV.unsetV_0, DV.getV_0, DV.getV_s, Option.map_some, Option.bind_some, DV.setC_some, DV.qN, DV.nxt_ret, DV.nxt_cont, DV.fin_ret, DV.fin_next, DV.add_int, DV.sub_int, DV.lt_int, DV.le_int, DV.gt_int, DV.ge_int, DV.eq_int, DV.ne_int, DV.alloc_eq, DV.tru_bl, if_true, if_false, Bool.false_eq_true, decide_true, decide_false, Bool.not_true, Bool.not_false, $[$xs:term],*])
noncomputable section
namespace DV
noncomputable def addO:Option Int->Option Int->Option Int
 | some a,some b=>some (a+b)
 | _,_=>none
theorem am1:∀ l:List (Option Int),(za l).filterMap (λ d=>if d=D.non then none else some d)=(l.filterMap id).map D.int
 | []=>rfl
 | o::l=>by
  have B:=am1 l
  unfold za at B ⊢
  cases o with
  | none=>rw[aS,aQ,aQ];simpa using B
  | some i=>rw[aS,aQ,aQ];simpa using B
theorem aI0 {P:Pr}[Has P ab6](n:Nat){s:Sto}{q:Nat}{l:List (Option Int)}(F:s[q]?=some (.lst (za l)))(hl:l.length<=1000):(aa0 P (n+1)).call "least" [.ref q] s=.ok (qg (minI (l.filterMap id))) s:=by
 have G:(aa0 P (n+1)).call "least" [.ref q] s=_:=ze ab6 (n:=n) rfl
 rw[G,show(cK some [D.ref q]++aq ab6.vs none)=[some (D.ref q)]from rfl]
 have B:aO2 (.ref q) s=.ok ⟨za l,[q]⟩ s:=by simp only[aO2,F]
 obtain⟨ρ1,s1,e1,rfl,_⟩:=qd (ok:=λ s1=>chk s s1 [q]) (g:=am2 (aa0 P n) (.one 0) (.notN (.var 0)) (.var 0)) (λ ρ u=>u=s/\∃ x,ρ=[x]) (λ d=>if d=D.non then none else some d) (za l) [none] s ⟨rfl,none,rfl⟩ (λ _ u h=>by obtain⟨rfl,_⟩:=h;simp[chk]) (by
  rintro d hd ρ u ⟨rfl,x,rfl⟩
  refine⟨[some d],u,?_,rfl,_,rfl⟩
  unfold am2
  by_cases hn:d=.non
  ·tbr_iter [hn]
  ·tbr_iter [hn])
 rw[am1]at e1
 simp -implicitDefEqProofs only[ab6]
 tbr_iter [ql,B,if_pos (show(za l).length<=LIM by rw[aj3];unfold LIM;omega),show zZ [some (D.ref q)] [none]=[none]from rfl,e1,aX4]
 exact an6
theorem bc4 {P:Pr}[Has P ac0](n:Nat)(a b:Option Int)(s:Sto):(aa0 P (n+1)).call "added" [qg a,qg b] s=.ok (qg (addO a b)) s:=by
 have B:(aa0 P (n+1)).call "added" [qg a,qg b] s=_:=ze ac0 (n:=n) rfl
 rw[B,show(cK some [qg a,qg b]++aq ac0.vs none)=[some (qg a),some (qg b)]from rfl]
 simp -implicitDefEqProofs only[ac0]
 cases a with
 | none=>tbr_iter [qa,show(D.non=D.non)=True from eq_self _];exact av2
 | some a=>cases b with
  | none=>tbr_iter [qa,zC,show(D.non=D.non)=True from eq_self _,show(D.int a=D.non)=False from eq_false (by nofun)];exact av2
  | some b=>tbr_iter [zC,show(D.int a=D.non)=False from eq_false (by nofun),show(D.int b=D.non)=False from eq_false (by nofun)];exact aW4
section
variable {P:Pr} [Has P bn1]
end
noncomputable def zB (m:Mc):List (Option Int):=(aU m.R).map λ k=>if k∈m.bg then some 0 else none
noncomputable def bC1 (m:Mc)(row:List (Option Int))(x b:Nat):Option Int:=minI (((m.ds.filter λ d=>decide (d.l=x)&&decide (d.b=b)).map λ d=>addO (row.getD d.a none) (some (d.t:Int))).filterMap id)
noncomputable def aZ4 (m:Mc)(row:List (Option Int))(x:Nat):List (Option Int):=(aU m.R).map (bC1 m row x)
noncomputable def bk7 (m:Mc)(row:List (Option Int)):Option Int:=minI (m.en.filterMap λ q=>row.getD q none)
theorem qM {row:List (Option Int)}:∀ d∈za row,∀ n,d.bnd n=true:=λ d hd n=>by
 obtain⟨o,_,rfl⟩:=aP.mp hd;exact aj4 _ n
theorem aY9 {row:List (Option Int)}{k:Nat}(h:k<row.length)(s:Sto):ixM (.tup (za row)) (.int (k:Int)) s=.ok (qg (row.getD k none)) s:=by
 refine ix_tup (at5 ?_)
 rw[aj h];simp[j4,h]
theorem av3 (q:List D)(s:Sto):mk .tuple q s=.ok (.tup q) s:=rfl
theorem aH8 (q:List D)(s:Sto):mk .list q s=.ok (.ref s.length) (s++[.lst q]):=rfl
theorem aw6 {P:Pr}[Has P ab3][Has P aa9][Has P ab4](n:Nat){m:Mc}(B:m.Ok)(s:Sto):(aa0 P (n+2)).call "first_row" [m.d] s=.ok (.tup (za (zB m))) s:=by
 have G:(aa0 P (n+2)).call "first_row" [m.d] s=_:=ze ab4 (n:=n+1) rfl
 have J:=B.R5
 rw[G,show(cK some [m.d]++aq ab4.vs none)=[some m.d,none]from rfl]
 obtain⟨ρ1,s1,e1,rfl,_⟩:=ar1 (ok:=λ s1=>chk s s1 []) (g:=af1 (aa0 P (n+1)) (.one 0) (.ite (.cmp .isin (.var 0) (.var 1)) (.cst (.int 0)) (.cst .non))) (λ ρ u=>u=s/\∃ x,ρ=[x,some (.tup (z8 m.bg))]) (λ k=>qg (if k∈m.bg then some 0 else none)) m.R [none,some (.tup (z8 m.bg))] s ⟨rfl,none,rfl⟩ (λ _ _ _=>rfl) (by
  rintro k hk ρ u ⟨rfl,x,rfl⟩
  refine⟨[some (.int k),some (.tup (z8 m.bg))],u,?_,rfl,_,rfl⟩
  unfold af1
  by_cases hb:k∈m.bg
  ·tbr_iter [zY,af2,hb,zC]
  ·tbr_iter [zY,af2,hb,qa])
 have F:((aU m.R).map λ k=>qg (if k∈m.bg then some 0 else none))=za (zB m):=by unfold za zB;rw[bM];rfl
 rw[F]at e1
 simp -implicitDefEqProofs only[ab4]
 tbr_iter [az3 n,ak2 n,qJ,qC (s:=s1) (i:=(m.R:Int)) (by unfold W62;omega) (by unfold W62;omega),if_pos (show(zW 0 (m.R:Int)).length<=LIM by rw[aj1];unfold LIM;omega),show zZ [some m.d,some (.tup (z8 m.bg))] [none,some 1]=[none,some (.tup (z8 m.bg))]from rfl,e1,av3]
 exact qE qM
noncomputable def bg1 (row:List (Option Int))(x b:Nat):D->Option D
 | .tup [.int a,.str [l],.int c,.int t]=>if l=x/\c=(b:Int)then some (qg (addO (row.getD a.toNat none) (some t)))else none
 | _=>none
theorem aY2 (row:List (Option Int))(x b:Nat):∀ B:List Dr,(B.map Dr.d).filterMap (bg1 row x b)=za ((B.filter λ d=>decide (d.l=x)&&decide (d.b=b)).map λ d=>addO (row.getD d.a none) (some (d.t:Int)))
 | []=>rfl
 | d::B=>by
  have F:=aY2 row x b B
  rw[aS,aQ]
  have e:bg1 row x b d.d=if d.l=x/\(d.b:Int)=(b:Int)then some (qg (addO (row.getD (d.a:Int).toNat none) (some (d.t:Int))))else none:=rfl
  rw[e,bJ]
  by_cases h:d.l=x/\d.b=b
  ·rw[if_pos ⟨h.1,by omega⟩,eP,if_pos (by simp[h]),aS]
   show _::_=za (_::_)
   rw[F];rfl
  ·rw[if_neg (λ z=>h ⟨z.1,by omega⟩),eP,if_neg (by simpa using h)]
   exact F
theorem aq8 {P:Pr}[Has P ab6][Has P ac0][Has P ab0][Has P aa3](n:Nat){m:Mc}(Y:m.Ok){row:List (Option Int)}(hr:row.length=m.R)(x b:Nat)(s:Sto) :
  (aa0 P (n+2)).call "least_into" [m.d,.tup (za row),.str [x],.int (b:Int)] s=.ok (qg (bC1 m row x b)) s:=by
 have e0:(aa0 P (n+2)).call "least_into" [m.d,.tup (za row),.str [x],.int (b:Int)] s=_:=ze aa3 (n:=n+1) rfl
 have hd:=Y.ds.2
 rw[e0,show(cK some [m.d,D.tup (za row),.str [x],.int (b:Int)]++aq aa3.vs none)=[some m.d,some (D.tup (za row)),some (.str [x]),some (.int (b:Int))]from rfl]
 obtain⟨ρ1,s1,e1,rfl,_⟩:=qd (ok:=λ s1=>chk s s1 []) (g:=am2 (aa0 P (n+1)) (.tup [0,1,2,3]) (.and (.cmp .eq (.var 1) (.var 4)) (.cmp .eq (.var 2) (.var 5))) (.call "added" (.ex (.ix (.var 6) (.var 0)) (.ex (.var 3) .nil)))) (λ ρ u=>u=s/\∃ y0 y1 G J,ρ=[y0,y1,G,J,some (.str [x]),some (.int (b:Int)),some (D.tup (za row))]) (bg1 row x b) (m.ds.map Dr.d) [none,none,none,none,some (.str [x]),some (.int (b:Int)),some (D.tup (za row))] s ⟨rfl,none,none,none,none,rfl⟩ (λ _ _ _=>rfl) (by
  rintro d hd ρ u ⟨rfl,y0,y1,G,J,rfl⟩
  obtain⟨z,hz,rfl⟩:=aP.mp hd
  have ok:=Y.ds.1 z hz
  have ei:bg1 row x b z.d=if z.l=x/\(z.b:Int)=(b:Int)then some (qg (addO (row.getD (z.a:Int).toNat none) (some (z.t:Int))))else none:=rfl
  have F:=bc4 (P:=P) n (row.getD z.a none) (some (z.t:Int)) u
  rw[zC]at F
  refine⟨[some (.int z.a),some (.str [z.l]),some (.int z.b),some (.int z.t),some (.str [x]),some (.int (b:Int)),some (D.tup (za row))],u,?_,rfl,_,_,_,_,rfl⟩
  rw[ei,bJ]
  unfold am2
  rw[show z.d=.tup [.int z.a,.str [z.l],.int z.b,.int z.t]from rfl]
  by_cases h1:z.l=x
  ·by_cases h2:(z.b:Int)=(b:Int)
   ·rw[if_pos ⟨h1,h2⟩]
    tbr_iter [qH,h1,h2,aY9 (row:=row) (k:=z.a) (by rw[hr];exact ok.a),F]
   ·rw[if_neg (λ q=>h2 q.2)]
    tbr_iter [qH,h1,h2]
  ·rw[if_neg (λ q=>h1 q.1)]
   tbr_iter [qH,h1])
 rw[aY2]at e1
 have B:((m.ds.filter λ d=>decide (d.l=x)&&decide (d.b=b)).map λ d=>addO (row.getD d.a none) (some (d.t:Int))).length<=1000:=by
  rw[aw]
  exact am (List.length_filter_le _ _) (by omega)
 have Z:=aI0 (P:=P) n (s:=s1++[O.lst (za ((m.ds.filter λ d=>decide (d.l=x)&&decide (d.b=b)).map λ d=>addO (row.getD d.a none) (some (d.t:Int))))]) (q:=s1.length) (l:=(m.ds.filter λ d=>decide (d.l=x)&&decide (d.b=b)).map λ d=>addO (row.getD d.a none) (some (d.t:Int))) (by rw[aB (ak _)];simp) B
 simp -implicitDefEqProofs only[aa3]
 tbr_iter [aE0 n,qA,ql,if_pos (show(m.ds.map Dr.d).length<=LIM by rw[aw];unfold LIM;omega),show zZ [some m.d,some (D.tup (za row)),some (.str [x]),some (.int (b:Int))] [none,none,none,none,some 2,some 3,some 1]=[none,none,none,none,some (.str [x]),some (.int (b:Int)),some (D.tup (za row))]from rfl,e1,aH8,Z]
 exact zG (aj4 _) (at1 _)
theorem bN7 {P:Pr}[Has P ab6][Has P ac0][Has P ab0][Has P aa9][Has P af0][Has P aa3][Has P ah2](n:Nat){m:Mc}(B:m.Ok){row:List (Option Int)}(hr:row.length=m.R)(k:Int)(x:Nat)(s:Sto) :
  (aa0 P (n+3)).call "led" [m.d,.int k,.tup (za row),.str [x]] s=.ok (.tup (za ((aZ4 m row x).map (cutO k)))) s:=by
 have G:(aa0 P (n+3)).call "led" [m.d,.int k,.tup (za row),.str [x]] s=_:=ze ah2 (n:=n+2) rfl
 have J:=B.R5
 rw[G,show(cK some [m.d,.int k,D.tup (za row),.str [x]]++aq ah2.vs none)=[some m.d,some (.int k),some (D.tup (za row)),some (.str [x])]from rfl]
 obtain⟨ρ1,s1,e1,rfl,_⟩:=ar1 (ok:=λ s1=>chk s s1 []) (g:=af1 (aa0 P (n+2)) (.one 0) (.call "cut" (.ex (.call "least_into" (.ex (.var 1) (.ex (.var 2) (.ex (.var 3) (.ex (.var 0) .nil))))) (.ex (.var 4) .nil)))) (λ ρ u=>u=s/\∃ y,ρ=[y,some m.d,some (D.tup (za row)),some (.str [x]),some (.int k)]) (λ b=>qg (cutO k (bC1 m row x b))) m.R [none,some m.d,some (D.tup (za row)),some (.str [x]),some (.int k)] s ⟨rfl,none,rfl⟩ (λ _ _ _=>rfl) (by
  rintro b hb ρ u ⟨rfl,y,rfl⟩
  refine⟨[some (.int b),some m.d,some (D.tup (za row)),some (.str [x]),some (.int k)],u,?_,rfl,_,rfl⟩
  unfold af1
  tbr_iter [aq8 (P:=P) n B hr x b u,bP2 (P:=P) (n+1) (bC1 m row x b) k u])
 have F:((aU m.R).map λ b=>qg (cutO k (bC1 m row x b)))=za ((aZ4 m row x).map (cutO k)):=by unfold za aZ4;rw[bM,bM];rfl
 rw[F]at e1
 simp -implicitDefEqProofs only[ah2]
 tbr_iter [ak2 (n+1),qJ,qC (s:=s1) (i:=(m.R:Int)) (by unfold W62;omega) (by unfold W62;omega),if_pos (show(zW 0 (m.R:Int)).length<=LIM by rw[aj1];unfold LIM;omega),show zZ [some m.d,some (.int k),some (D.tup (za row)),some (.str [x])] [none,some 0,some 2,some 3,some 1]=[none,some m.d,some (D.tup (za row)),some (.str [x]),some (.int k)]from rfl,e1,av3]
 exact qE qM
theorem bl8 {m:Mc}(B:m.Ok):m.en.length<=5:=by
 have F:=B.R5
 have nd:m.en.Nodup:=B.en.2.imp (λ h=>aC h)
 have:=List.Nodup.length_le_of_subset (l₂:=aU m.R) nd (λ x hx=>cA.mpr (B.en.1 x hx))
 simp at this;omega
theorem aU3 {P:Pr}[Has P ab6][Has P ab2][Has P ab5](n:Nat){m:Mc}(F:m.Ok){row:List (Option Int)}(hr:row.length=m.R)(s:Sto) :
  (aa0 P (n+2)).call "end_of" [m.d,.tup (za row)] s=.ok (qg (bk7 m row)) s:=by
 have Z:(aa0 P (n+2)).call "end_of" [m.d,.tup (za row)] s=_:=ze ab5 (n:=n+1) rfl
 have h5:=bl8 F
 rw[Z,show(cK some [m.d,D.tup (za row)]++aq ab5.vs none)=[some m.d,some (D.tup (za row))]from rfl]
 obtain⟨ρ1,s1,e1,rfl,_⟩:=at7 (ok:=λ s1=>chk s s1 []) (g:=af1 (aa0 P (n+1)) (.one 0) (.ix (.var 1) (.var 0))) (λ ρ u=>u=s/\∃ y,ρ=[y,some (D.tup (za row))]) (λ d=>match d with|.int i=>qg (row.getD i.toNat none)|d=>d) (z8 m.en) [none,some (D.tup (za row))] s ⟨rfl,none,rfl⟩ (λ _ _ _=>rfl) (by
  rintro d hd ρ u ⟨rfl,y,rfl⟩
  obtain⟨q,Y,rfl⟩:=aP.mp hd
  refine⟨[some (.int q),some (D.tup (za row))],u,?_,rfl,_,rfl⟩
  unfold af1
  tbr_iter [aY9 (row:=row) (k:=q) (by rw[hr];exact F.en.1 q Y),bJ])
 have J:(z8 m.en).map (λ d=>match d with|.int i=>qg (row.getD i.toNat none)|d=>d)=za (m.en.map λ q=>row.getD q none):=by unfold z8 za;rw[bM,bM];rfl
 rw[J]at e1
 have B:=aI0 (P:=P) n (s:=s1++[O.lst (za (m.en.map λ q=>row.getD q none))]) (q:=s1.length) (l:=m.en.map λ q=>row.getD q none) (by rw[aB (ak _)];simp) (by rw[aw];omega)
 have G:minI ((m.en.map λ q=>row.getD q none).filterMap id)=bk7 m row:=by unfold bk7;rw[cD];rfl
 rw[G]at B
 simp -implicitDefEqProofs only[ab5]
 tbr_iter [aL4 n,qA,qJ,if_pos (show(z8 m.en).length<=LIM by unfold z8;rw[aw];unfold LIM;omega),show zZ [some m.d,some (D.tup (za row))] [none,some 1]=[none,some (D.tup (za row))]from rfl,e1,aH8,B]
 exact zG (aj4 _) (at1 _)
section
variable {ρ:Type}
variable (f:ρ->Nat->ρ) (ls:List Nat)
end
def Sr (row:List (Option Int))(k:Nat)(c:Int):Prop:=row.getD k none=some c
theorem bK2 (row:List (Option Int)):aD9 (Sr row) row:=λ k o hk=>by
 have e:row.getD k none=o:=by rw[j4,hk];rfl
 cases o with
 | none=>intro c hc;unfold Sr at hc;rw[e]at hc;cases hc
 | some i=>exact⟨e,λ c hc=>by unfold Sr at hc;rw[e]at hc;cases hc;exact fW _⟩
theorem aL6 (m:Mc)(row:List (Option Int))(x b:Nat):ae2 (aC1 (Sr row) x m.ds b) (bC1 m row x b):=by
 refine(ap4 _).congr λ c=>?_
 simp only[cC,id_eq,exists_eq_right,aP,dP,ag,decide_eq_true_eq]
 constructor
 ·rintro⟨d,⟨hd,hl,hb⟩,e⟩
  cases hr:row.getD d.a none with
  | none=>rw[hr]at e;cases e
  | some i =>
   rw[hr]at e
   cases e
   exact⟨d,hd,hl,hb,i,hr,rfl⟩
 ·rintro⟨d,hd,hl,hb,i,hr,rfl⟩
  exact⟨d,⟨hd,hl,hb⟩,by rw[show row.getD d.a none=some i from hr];rfl⟩
theorem bQ0 {m:Mc}{row B:List (Option Int)}{x:Nat}(hl:B.length=m.R)(h:aD9 (aC1 (Sr row) x m.ds) B):B=aZ4 m row x:=by
 refine List.ext_getElem? λ k=>?_
 by_cases hk:k<m.R
 ·obtain⟨o,ho⟩:∃ o,B[k]?=some o:=⟨B[k]'(by rw[hl];exact hk),aj _⟩
  rw[ho]
  unfold aZ4
  rw[aH,dH hk]
  exact congrArg some ((h k o ho).eq (aL6 m row x k) λ _=>Iff.rfl)
 ·rw[bH (by omega),bH (by unfold aZ4;simp;omega)]
theorem bC2 {s:Sto}{o:O}:(s++[o])[s.length]?=some o:=by rw[aB (ak _)];simp
noncomputable def qy (L:Nat):List Nat:=(aU L).map (97+·)
theorem bH5:∀ {L:Nat},L<=3->aO3.take L=sg (qy L)
 | 0,_=>rfl
 | 1,_=>rfl
 | 2,_=>rfl
 | 3,_=>rfl
 | n+4,h=>by omega
theorem bd7:∀ {a b:Option Int},qg a=qg b->a=b
 | none,none,_=>rfl
 | none,some _,h=>by cases h
 | some _,none,h=>by cases h
 | some a,some b,h=>by cases h;rfl
theorem aI8:∀ {a b:List (Option Int)},za a=za b->a=b
 | [],[],_=>rfl
 | [],_::_,h=>by cases h
 | _::_,[],h=>by cases h
 | x::a,y::b,h=>by
  have h:qg x::za a=qg y::za b:=h
  injection h with h1 h2
  rw[bd7 h1,aI8 h2]
theorem be5 {row:List (Option Int)}(F:1<=row.length)(B:row.length<=1000):(D.tup (za row)).keyS=true:=by
 show(D.hdI (za row)&&((za row).all D.keyF&&decide ((za row).length<=1000)))=true
 rw[ag,ag]
 refine⟨?_,?_,by rw[aj3];exact decide_eq_true B⟩
 ·cases row with
  | nil=>cases F
  | cons o r=>cases o<;>rfl
 ·rw[aM]
  intro d hd
  obtain⟨o,_,rfl⟩:=aP.mp hd
  cases o<;>rfl
theorem bg9 (m:Mc)(row:List (Option Int))(x:Nat):(aZ4 m row x).length=m.R:=by unfold aZ4;simp
class HasX (P:Pr)(f:String)(d:Xf):Prop where
 at_:P.xf f=some d
class HasT (P:Pr)(f:String)(d:Tf):Prop where
 no:P.df f=none
 at_:P.tf f=some d
class HasE (P:Pr)(c:String)(ts:List String):Prop where
 at_:P.xc c=true
 ts:∀ t∈ts,P.xt t=true
theorem al1 {P:Pr}{f:String}(d:Xf)[h:HasX P f d]{n:Nat}{l:List D}{s:Sto}(hl:l.length=d.ps):(aa0 P (n+1)).xcall f l s=xB (aa0 P n) d.body (l.map some++aq d.vs none) s:=by
 show(match P.xf f with|some d=>if l.length=d.ps then xB (aa0 P n) d.body (l.map some++aq d.vs none) s else none|none=>none)=_
 rw[h.at_]
 exact if_pos hl
theorem bv2 {P:Pr}{f:String}(d:Tf)[h:HasT P f d]{n:Nat}{l:List D}{s:Sto}(hl:l.length=d.ps):(aa0 P (n+1)).call f l s=bf9 (aa0 P n) d l s:=by
 have e:(aa0 P (n+1)).call f l s=match P.df f with
   | some d=>if l.length=d.ps then(exs (aa0 P n) d.body (l.map some++aq d.vs none) s).bind λ c s'=>match c with
     | .ret v=>zq s v s'
     | .next _=>zq s .non s'
     | _=>.bad else .bad
   | none=>match P.tf f with
    | some d=>if l.length=d.ps then bf9 (aa0 P n) d l s else .bad
    | none=>.bad:=rfl
 rw[e,h.no]
 show(match P.tf f with|some d=>if l.length=d.ps then bf9 (aa0 P n) d l s else .bad|none=>.bad)=_
 rw[h.at_]
 exact if_pos hl
theorem bB2 {P:Pr}{n:Nat}:(aa0 P n).xc=P.xc/\(aa0 P n).xt=P.xt:=by cases n<;>exact⟨rfl,rfl⟩
noncomputable abbrev Rw:=List (Option Int)
inductive Bres where
 | more (M:List (List Nat×Rw))|stop (M:List (List Nat×Rw))|over
section
variable (f:Rw->Nat->Rw) (ab:Rw->Bool)
open Classical in
noncomputable def inn (e:List Nat×Rw):List Nat->List (List Nat×Rw)->Bres
 | [],M=>.more M
 | x::ls,M=>if f e.2 x∈M.map (·.2)then inn e ls M else if M.length=300 then .over else if ab (f e.2 x)=true then .stop (M++[(e.1++[x],f e.2 x)])else inn e ls (M++[(e.1++[x],f e.2 x)])
noncomputable def bfs (ls:List Nat):Nat->Nat->List (List Nat×Rw)->Bres
 | 0,_,M=>.more M
 | n+1,at_,M=>match M[at_]? with
  | none=>.more M
  | some e=>match inn f ab e ls M with
   | .more M'=>bfs ls n (at_+1) M'
   | .stop M'=>.stop M'
   | .over=>.over
end
structure MOk (f:Rw->Nat->Rw)(ab:Rw->Bool)(R:Nat)(r0:Rw)(at_:Nat)(M:List (List Nat×Rw)):Prop where
 len:M.length<=300
 pos:1<=M.length
 hat:at_<=M.length
 sh:∀ e∈M,e.2.length=R
 fold:∀ e∈M,e.2=e.1.foldl f r0
 wl:∀ e∈M,e.1.length<=at_
section
variable {f:Rw->Nat->Rw} {ab:Rw->Bool} {R:Nat} {r0:Rw}
theorem MOk.snoc {k:Nat}{M:List (List Nat×Rw)}{e:List Nat×Rw}{x:Nat}(B:∀ r x,(f r x).length=R)(h:MOk f ab R r0 k M)(he:e∈M)(hk:e.1.length+1<=k)(hl:M.length≠300):MOk f ab R r0 k (M++[(e.1++[x],f e.2 x)]):=by
 refine⟨by rw[aE];have:=h.len;show M.length+1<=300;omega,by rw[aE];show 1<=M.length+1;omega,by rw[aE];have:=h.hat;omega,λ d hd=>?_,λ d hd=>?_,λ d hd=>?_⟩
 ·rcases aW.mp hd with z|z
  ·exact h.sh d z
  ·rw[aI.mp z];exact B _ _
 ·rcases aW.mp hd with z|z
  ·exact h.fold d z
  ·rw[aI.mp z]
   show f e.2 x=(e.1++[x]).foldl f r0
   rw[List.foldl_append,<-h.fold e he];rfl
 ·rcases aW.mp hd with z|z
  ·exact h.wl d z
  ·rw[aI.mp z]
   show(e.1++[x]).length<=k
   rw[aE];exact hk
end
theorem bt2 (k:Int)(o:Option Int):cutO k o=o.map (min · (k+1)):=by
 cases o with
 | none=>rfl
 | some c =>
  show(if c<=k then some c else some (k+1))=some (min c (k+1))
  split<;>congr 1<;>omega
noncomputable def zm (m:Mc)(k:Int)(r:Rw)(x:Nat):Rw:=(aZ4 m r x).map (cutO k)
theorem zR (m:Mc)(k:Int)(r:Rw)(x:Nat):(zm m k r x).length=m.R:=by unfold zm;rw[aw];exact bg9 ..
noncomputable def zc (m:Mc)(k:Int)(r:Rw):Bool:=decide (bk7 m r=some (k+1))
noncomputable def MtD (l:List (List Nat×Rw)):List D:=l.map λ e=>.tup [.str e.1,.tup (za e.2)]
noncomputable def Sn (K:List Rw):List (D×D):=K.map λ r=>(.tup (za r),.bl true)
theorem aG5 {r:Rw}{R:Nat}(F:1<=R)(B:R<=5)(h:r.length=R):(D.tup (za r)).keyT=true:=by
 have k1:=be5 (row:=r) (by omega) (by omega)
 have:∀ l:List D,(D.tup l).keyS=true->(∀ d∈l,∀ m,d≠.tup m)->(D.tup l).keyT=true:=λ l h hn=>by
  have h:(D.hdI l&&(l.all D.keyF&&decide (l.length<=1000)))=true:=h
  show(D.hdI l&&(l.all D.keyS&&decide (l.length<=1000)))=true
  rw[ag,ag]at h ⊢
  refine⟨h.1,?_,h.2.2⟩
  rw[aM]at h ⊢
  intro d hd
  have:=h.2.1 d hd
  cases d with
  | tup m=>exact absurd rfl (hn _ hd m)
  | _=>exact this
 refine this _ k1 λ d hd m e=>?_
 obtain⟨o,_,rfl⟩:=aP.mp hd
 cases o<;>cases e
theorem ba8 {a b:Rw}(h:D.tup (za a)=D.tup (za b)):a=b:=by injection h with h;exact aI8 h
theorem aB0 (r:Rw):∀ K:List Rw,(look (.tup (za r)) (Sn K)).isSome=decide (r∈K)
 | []=>by simp[Sn,look]
 | a::K=>by
  have B:=aB0 r K
  show(if D.tup (za a)=.tup (za r)then some (D.bl true)else look (.tup (za r)) (Sn K)).isSome=_
  by_cases h:a=r
  ·subst h;rw[if_pos rfl];simp
  ·rw[if_neg (λ z=>h (ba8 z)),B]
   simp[cw h,h,eq_comm]
theorem bL4 {r:Rw}{K:List Rw}(h:r ∉ K):as5 (.tup (za r)) (.bl true) (Sn K)=Sn (K++[r]):=by
 unfold as5
 rw[aB0,decide_eq_false h,if_neg (by nofun)]
 unfold Sn
 rw[bE];rfl
theorem bP4 {r:Rw}{R:Nat}(F:1<=R)(B:R<=5)(h:r.length=R){s:Sto}{q:Nat}{K:List Rw}(g:s[q]?=some (.dit (Sn K))):inM (.tup (za r)) (.ref q) s=.ok (decide (r∈K)) s:=by
 unfold inM
 simp only[g,aG5 F B h,if_true,aB0]
theorem bi8 {r:Rw}{R:Nat}(F:1<=R)(B:R<=5)(h:r.length=R){s:Sto}{q:Nat}{K:List Rw}(g:s[q]?=some (.dit (Sn K)))(hn:r ∉ K)(hl:K.length<LIM):setIx (.ref q) (.tup (za r)) (.bl true) s=.ok () (s.set q (.dit (Sn (K++[r])))):=by
 unfold setIx
 simp only[g,aG5 F B h,show(Sn K).length<LIM by unfold Sn;rw[aw];exact hl,decide_true,Bool.and_self,if_true,bL4 hn]
theorem bN4 {L:List (List Nat×Rw)}{j:Nat}{e:List Nat×Rw}(h:L[j]?=some e):(MtD L)[j]?=some (.tup [.str e.1,.tup (za e.2)]):=by unfold MtD;rw[aH,h];rfl
theorem bk4 {l:List (List Nat×Rw)}{n:Nat}:(O.lst (MtD l)).bnd n=true:=by
 unfold O.bnd
 refine zr (λ d hd n=>?_) n
 obtain⟨e,_,rfl⟩:=aP.mp hd
 unfold D.bnd
 refine zr (λ d hd n=>?_) n
 rcases aA.mp hd with rfl|hd
 ·rfl
 ·rcases aA.mp hd with rfl|hd
  ·unfold D.bnd;exact zr qM n
  ·cases hd
theorem bG7 {K:List Rw}{n:Nat}:(O.dit (Sn K)).bnd n=true:=by
 unfold O.bnd
 rw[ag]
 constructor
 ·refine zr (λ d hd n=>?_) n
  unfold Sn at hd
  rw[bM]at hd
  obtain⟨e,_,rfl⟩:=aP.mp hd
  show D.bnd n (.tup (za e))=true
  unfold D.bnd;exact zr qM n
 ·refine zr (λ d hd n=>?_) n
  unfold Sn at hd
  rw[bM]at hd
  obtain⟨e,_,rfl⟩:=aP.mp hd
  rfl
theorem aM7 (s:Sto){p q:Nat}{a b:O}(ha:a.bnd s.length=true)(hb:b.bnd s.length=true):ak9 s ((s.set p a).set q b)=true:=by
 unfold ak9
 rw[aM]
 intro i B
 have B:=cA.mp B
 rw[bK]
 by_cases h1:q=i
 ·subst h1
  right
  rw[aO (by simpa using B)]
  exact hb
 ·rw[aZ h1]
  by_cases h2:p=i
  ·subst h2
   right
   rw[aO B]
   exact ha
  ·left
   rw[aZ h2]
   simp
theorem aN8 {s:Sto}{p q:Nat}{a b:O}(ha:a.bnd s.length=true)(hb:b.bnd s.length=true):zq s .non ((s.set p a).set q b)=.ok .non ((s.set p a).set q b):=by
 unfold zq
 rw[aM7 s ha hb,if_pos rfl]
 have:((s.set p a).set q b).take s.length=(s.set p a).set q b:=eG (by simp)
 simp only[this]
 rfl
theorem zw {ok:Sto->Bool}{g:D->Env->Sto->R Ct}{d:D}{l:List D}{ρ:Env}{s:Sto}(h:ok s=true):qz ok g (d::l) ρ s=(g d ρ s).bind λ c s=>match c with
  | .next ρ=>qz ok g l ρ s
  | .cont ρ=>qz ok g l ρ s
  | .brk ρ=>.ok (.next ρ) s
  | .ret d=>.ok (.ret d) s:=by
 show(if ok s then _ else _)=_
 rw[if_pos h]<;>rfl
theorem aT0 (o:Option Int)(i:Int)(s:Sto):qp .eq (qg o) (.int i) s=.ok (.bl (decide (o=some i))) s:=by
 cases o with
 | none=>rfl
 | some j =>
  rw[zC,eq_int]
  simp
theorem qu {P:Pr}[Has P ab6][Has P ab2][Has P ab5][Has P aa5](n:Nat){m:Mc}(B:m.Ok){r:Rw}(hr:r.length=m.R)(k:Int)(s:Sto) :
  (aa0 P (n+3)).call "ends_above" [m.d,.int k,.tup (za r)] s=.ok (.bl (zc m k r)) s:=by
 have F:(aa0 P (n+3)).call "ends_above" [m.d,.int k,.tup (za r)] s=_:=ze aa5 (n:=n+2) rfl
 rw[F,show(cK some [m.d,.int k,D.tup (za r)]++aq aa5.vs none)=[some m.d,some (.int k),some (D.tup (za r))]from rfl]
 simp -implicitDefEqProofs only[aa5]
 tbr_iter [aU3 (P:=P) n B hr s,aT0]
 exact bc0
theorem az6 {F:Fns}{st:S}{b:XB}{ρ ρ1:Env}{s s1:Sto}(h:ex F st ρ s=.ok (.next ρ1) s1):xB F (.seq st b) ρ s=xB F b ρ1 s1:=by
 show(match ex F st ρ s with|.ok (.next ρ1) s1=>xB F b ρ1 s1|_=>none)=_
 rw[h]
theorem bl1 {F:Fns}{c:E}{a r:XB}{ρ:Env}{s s1:Sto}{b:Bool}(h:ev F c ρ s=.ok (.bl b) s1):xB F (.iteT c a r) ρ s=if b=true then xB F a ρ s1 else xB F r ρ s1:=by
 show(match ev F c ρ s with|.ok (.bl b) s1=>if b then xB F a ρ s1 else xB F r ρ s1|_=>none)=_
 rw[h]
theorem bw8 {F:Fns}{c:String}{ρ:Env}{s:Sto}(h:F.xc c=true):xB F (.rais c) ρ s=some (c,s):=by
 show(if F.xc c=true then some (c,s)else none)=_
 rw[if_pos h]
theorem at8 {F:Fns}{f:String}{B:As}{ρ:Env}{s s1:Sto}{l:List D}(h:ag6 F B ρ s=.ok l s1):xB F (.call f B) ρ s=F.xcall f l s1:=by
 show(match ag6 F B ρ s with|.ok l s1=>F.xcall f l s1|_=>none)=_
 rw[h]
noncomputable def enD (e:List Nat×Rw):D:=.tup [.str e.1,.tup (za e.2)]
theorem bS3 (e:List Nat×Rw)(s:Sto):ixM (enD e) (.int 0) s=.ok (.str e.1) s:=aC6 0 rfl
theorem bl5 (e:List Nat×Rw)(s:Sto):ixM (enD e) (.int 1) s=.ok (.tup (za e.2)) s:=aC6 1 rfl
noncomputable def StM (s:Sto)(p q:Nat)(M:List (List Nat×Rw)):Sto:=(s.set p (.lst (MtD M))).set q (.dit (Sn (M.map (·.2))))
theorem bB6 {s:Sto}{p q:Nat}{M:List (List Nat×Rw)}(hp:p<s.length)(B:p≠q):(StM s p q M)[p]?=some (.lst (MtD M)):=by
 unfold StM;rw[aZ (cw B)];exact qi hp
theorem bW1 {s:Sto}{p q:Nat}{M:List (List Nat×Rw)}(B:q<s.length):(StM s p q M)[q]?=some (.dit (Sn (M.map (·.2)))):=by
 unfold StM;exact qi (by simpa using B)
noncomputable def zA:Ss:=(.cons (.asg (.one 6) (.call "led" (.ex (.var 0) (.ex (.var 1) (.ex (.ix (.var 2) (.cst (.int 1))) (.ex (.var 5) .nil)))))) (.cons (.ite (.cmp .isin (.var 6) (.var 4)) (.cons .cont .nil) .nil) (.cons (.ite (.cmp .eq (.bi .len (.cons (.var 3) .nil)) (.glob "MOST_ROWS")) (.cons .raise .nil) .nil) (.cons (.setIx (.var 4) (.var 6) (.cst (.bl true))) (.cons (.ex (.meth .append (.var 3) (.cons (.tup (.cons (.bin .add (.ix (.var 2) (.cst (.int 0))) (.var 5)) (.cons (.var 6) .nil))) .nil))) (.cons (.ite (.call "ends_above" (.ex (.var 0) (.ex (.var 1) (.ex (.var 6) .nil)))) (.cons .retN .nil) .nil) .nil))))))
noncomputable def mbX:XB:=(.seq (.asg (.one 6) (.call "led" (.ex (.var 0) (.ex (.var 1) (.ex (.ix (.var 2) (.cst (.int 1))) (.ex (.var 5) .nil)))))) (.iteT (.cmp .isin (.var 6) (.var 4)) .no (.iteT (.cmp .eq (.bi .len (.cons (.var 3) .nil)) (.glob "MOST_ROWS")) (.rais "TooMuch") .no)))
noncomputable def aa6:Xf:=⟨5,2,.forX (.one 5) (.seq (.call "letters_of" (.ex (.var 0) .nil))) zA mbX⟩
section
variable {P:Pr} [Has P ab6] [Has P ac0] [Has P ab0] [Has P aa9] [Has P ab2] [Has P af0] [Has P aa3] [Has P ah2] [Has P ab5] [Has P aa7] [HasC P "LETTERS" (.tup aO3)] [HasC P "MOST_ROWS" (.int 300)] [Has P aa5] [Has P aa4]
theorem bn6 [HasE P "TooMuch" []](n:Nat){m:Mc}(hm:m.Ok){k:Int}{e:List Nat×Rw}(he:e.2.length=m.R)(hw:e.1.length<=1000){s:Sto}{p q:Nat}(hp:p<s.length)(hq:q<s.length)(J:p≠q):∀(F:List Nat) (M:List (List Nat×Rw)) (y5 y6:Option D),M.length<=300->(∀ d∈M,d.2.length=m.R) ->
  (match inn (zm m k) (zc m k) e F M with
  | .more M'=>∃ z5 z6,qz (λ u=>chk s u []) (turn (aa0 P (n+3)) (.one 5) zA) (sg F) [some m.d,some (.int k),some (enD e),some (.ref p),some (.ref q),y5,y6] (StM s p q M)=.ok (.next [some m.d,some (.int k),some (enD e),some (.ref p),some (.ref q),z5,z6]) (StM s p q M')
  | .stop M'=>qz (λ u=>chk s u []) (turn (aa0 P (n+3)) (.one 5) zA) (sg F) [some m.d,some (.int k),some (enD e),some (.ref p),some (.ref q),y5,y6] (StM s p q M)=.ok (.ret .non) (StM s p q M')
  | .over=>qz (λ u=>chk s u []) (turn (aa0 P (n+3)) (.one 5) zA) (sg F) [some m.d,some (.int k),some (enD e),some (.ref p),some (.ref q),y5,y6] (StM s p q M)=.bad /\
   ∃ M',af7 (λ u=>chk s u []) (λ d ρ s=>match zN ρ (.one 5) d with
    | some ρ=>exs (aa0 P (n+3)) zA ρ s
    | none=>.bad) (λ d ρ s=>match zN ρ (.one 5) d with
    | some ρ=>xB (aa0 P (n+3)) mbX ρ s
    | none=>none) (sg F) [some m.d,some (.int k),some (enD e),some (.ref p),some (.ref q),y5,y6] (StM s p q M)=some ("TooMuch",StM s p q M'))
 | [],M,y5,y6,_,_=>by
  unfold inn
  exact⟨y5,y6,rfl⟩
 | x::F,M,y5,y6,hM,hs=>by
  unfold inn
  have a4:=hm.R1
  have a5:=hm.R5
  have gp:=bB6 (s:=s) (p:=p) (q:=q) (M:=M) hp J
  have gq:=bW1 (s:=s) (p:=p) (q:=q) (M:=M) hq
  have hl:=bN7 (P:=P) n hm he k x (StM s p q M)
  rw[show(aZ4 m e.2 x).map (cutO k)=zm m k e.2 x from rfl]at hl
  have Z:=bP4 a4 a5 (zR m k e.2 x) gq
  have B:bi .len [.ref p] (StM s p q M)=.ok (.int (M.length:Int)) (StM s p q M):=by rw[as8 gp,show(MtD M).length=M.length from aw ..]
  have a1:∀ ρ S,ev (aa0 P (n+3)) (.glob "MOST_ROWS") ρ S=.ok (.int 300) S:=λ ρ S=>aQ4
  have a2:sg (x::F)=.str [x]::sg F:=rfl
  have ft:∀(ρ:Env) (S:Sto),turn (aa0 P (n+3)) (.one 5) zA (.str [x]) ρ S=match zN ρ (.one 5) (.str [x])with
    | some ρ=>exs (aa0 P (n+3)) zA ρ S
    | none=>.bad:=λ _ _=>rfl
  have fx:∀ {ρ:Env} {S:Sto},af7 (λ u=>chk s u []) (λ d ρ s=>match zN ρ (.one 5) d with
    | some ρ=>exs (aa0 P (n+3)) zA ρ s
    | none=>.bad) (λ d ρ s=>match zN ρ (.one 5) d with
    | some ρ=>xB (aa0 P (n+3)) mbX ρ s
    | none=>none) (.str [x]::sg F) ρ S=match turn (aa0 P (n+3)) (.one 5) zA (.str [x]) ρ S with
     | .ok (.next ρ1) s1=>af7 (λ u=>chk s u []) (λ d ρ s=>match zN ρ (.one 5) d with
      | some ρ=>exs (aa0 P (n+3)) zA ρ s
      | none=>.bad) (λ d ρ s=>match zN ρ (.one 5) d with
      | some ρ=>xB (aa0 P (n+3)) mbX ρ s
      | none=>none) (sg F) ρ1 s1
     | .ok (.cont ρ1) s1=>af7 (λ u=>chk s u []) (λ d ρ s=>match zN ρ (.one 5) d with
      | some ρ=>exs (aa0 P (n+3)) zA ρ s
      | none=>.bad) (λ d ρ s=>match zN ρ (.one 5) d with
      | some ρ=>xB (aa0 P (n+3)) mbX ρ s
      | none=>none) (sg F) ρ1 s1
     | .ok _ _=>none
     | _=>match zN ρ (.one 5) (.str [x])with
      | some ρ=>xB (aa0 P (n+3)) mbX ρ S
      | none=>none:=λ {ρ S}=>rfl
  by_cases hm1:zm m k e.2 x∈M.map (·.2)
  ·rw[if_pos hm1]
   have et:turn (aa0 P (n+3)) (.one 5) zA (.str [x]) [some m.d,some (.int k),some (enD e),some (.ref p),some (.ref q),y5,y6] (StM s p q M)=.ok (.cont [some m.d,some (.int k),some (enD e),some (.ref p),some (.ref q),some (.str [x]),some (.tup (za (zm m k e.2 x)))]) (StM s p q M):=by
    simp -implicitDefEqProofs only[zA]
    tbr_iter [turn,bl5,hl,zY,Z,hm1]
   have ih:=bn6 n hm (k:=k) he hw hp hq J F M (some (.str [x])) (some (.tup (za (zm m k e.2 x)))) hM hs
   rw[a2,zw (ok:=λ u=>chk s u []) rfl,fx,et]
   exact ih
  ·rw[if_neg hm1]
   by_cases h300:M.length=300
   ·rw[if_pos h300]
    have et:turn (aa0 P (n+3)) (.one 5) zA (.str [x]) [some m.d,some (.int k),some (enD e),some (.ref p),some (.ref q),y5,y6] (StM s p q M)=.bad:=by
     simp -implicitDefEqProofs only[zA]
     tbr_iter [turn,bl5,hl,zY,Z,hm1,B,a1,show((M.length:Int)=300)=True from eq_true (by omega)]
     rfl
    rw[a2,zw (ok:=λ u=>chk s u []) rfl,fx,et]
    refine⟨rfl,M,?_⟩
    show xB (aa0 P (n+3)) mbX [some m.d,some (.int k),some (enD e),some (.ref p),some (.ref q),some (.str [x]),y6] (StM s p q M)=_
    have xa:ex (aa0 P (n+3)) (.asg (.one 6) (.call "led" (.ex (.var 0) (.ex (.var 1) (.ex (.ix (.var 2) (.cst (.int 1))) (.ex (.var 5) .nil)))))) [some m.d,some (.int k),some (enD e),some (.ref p),some (.ref q),some (.str [x]),y6] (StM s p q M)=.ok (.next [some m.d,some (.int k),some (enD e),some (.ref p),some (.ref q),some (.str [x]),some (.tup (za (zm m k e.2 x)))]) (StM s p q M):=by
     tbr_iter [bl5,hl]
    have xb:ev (aa0 P (n+3)) (.cmp .isin (.var 6) (.var 4)) [some m.d,some (.int k),some (enD e),some (.ref p),some (.ref q),some (.str [x]),some (.tup (za (zm m k e.2 x)))] (StM s p q M)=.ok (.bl false) (StM s p q M):=by
     tbr_iter [zY,Z,hm1]
    have xc:ev (aa0 P (n+3)) (.cmp .eq (.bi .len (.cons (.var 3) .nil)) (.glob "MOST_ROWS")) [some m.d,some (.int k),some (enD e),some (.ref p),some (.ref q),some (.str [x]),some (.tup (za (zm m k e.2 x)))] (StM s p q M)=.ok (.bl true) (StM s p q M):=by
     tbr_iter [B,a1,show((M.length:Int)=300)=True from eq_true (by omega)]
    have xd:(aa0 P (n+3)).xc "TooMuch"=true:=by rw[(bB2 (P:=P)).1];exact HasE.at_ (ts:=[])
    unfold mbX
    rw[az6 xa,bl1 xb,if_neg (by nofun)]
    rw[bl1 xc,if_pos rfl,bw8 xd]
   ·rw[if_neg h300]
    have G:=bi8 a4 a5 (zR m k e.2 x) gq hm1 (by rw[aw];unfold LIM;omega)
    generalize hU:(StM s p q M).set q (.dit (Sn (M.map (·.2)++[zm m k e.2 x])))=U at G
    have gU:U[p]?=some (.lst (MtD M)):=by rw[<-hU,aZ (cw J)];exact gp
    have Y:=qL (v:=.tup [.str (e.1++[x]),.tup (za (zm m k e.2 x))]) gU (by rw[show(MtD M).length=M.length from aw ..];unfold LIM;omega)
    have hV:U.set p (.lst (MtD M++[.tup [.str (e.1++[x]),.tup (za (zm m k e.2 x))]]))=StM s p q (M++[(e.1++[x],zm m k e.2 x)]):=by
     rw[<-hU]
     unfold StM
     rw[bV,kR _ _ (cw J),bV,bE]
     unfold MtD
     rw[bE];rfl
    rw[hV]at Y
    have a0:=qu (P:=P) n hm (zR m k e.2 x) k (StM s p q (M++[(e.1++[x],zm m k e.2 x)]))
    have a3:=aE6 (a:=e.1) (b:=[x]) (s:=U) (show e.1.length+[x].length<=LIM by unfold LIM;simp;omega)
    cases hab:zc m k (zm m k e.2 x)with
    | true =>
     rw[if_pos rfl]
     have et:turn (aa0 P (n+3)) (.one 5) zA (.str [x]) [some m.d,some (.int k),some (enD e),some (.ref p),some (.ref q),y5,y6] (StM s p q M)=.ok (.ret .non) (StM s p q (M++[(e.1++[x],zm m k e.2 x)])):=by
      rw[hab]at a0
      simp -implicitDefEqProofs only[zA]
      tbr_iter [turn,bS3,bl5,hl,zY,Z,hm1,B,a1,show((M.length:Int)=300)=False from eq_false (by omega),G,a3,Y,a0,bv7]
     rw[a2,zw (ok:=λ u=>chk s u []) rfl,et]
     rfl
    | false =>
     rw[if_neg (by nofun)]
     have et:turn (aa0 P (n+3)) (.one 5) zA (.str [x]) [some m.d,some (.int k),some (enD e),some (.ref p),some (.ref q),y5,y6] (StM s p q M)=.ok (.next [some m.d,some (.int k),some (enD e),some (.ref p),some (.ref q),some (.str [x]),some (.tup (za (zm m k e.2 x)))]) (StM s p q (M++[(e.1++[x],zm m k e.2 x)])):=by
      rw[hab]at a0
      simp -implicitDefEqProofs only[zA]
      tbr_iter [turn,bS3,bl5,hl,zY,Z,hm1,B,a1,show((M.length:Int)=300)=False from eq_false (by omega),G,a3,Y,a0]
     have ih:=bn6 n hm (k:=k) he hw hp hq J F (M++[(e.1++[x],zm m k e.2 x)]) (some (.str [x])) (some (.tup (za (zm m k e.2 x)))) (by rw[aE];show M.length+1<=300;omega) (λ d hd=>by
      rcases aW.mp hd with z|z
      ·exact hs d z
      ·rw[aI.mp z];exact zR ..)
     rw[a2,zw (ok:=λ u=>chk s u []) rfl,fx,et]
     exact ih
end
noncomputable def bY2 (f:Rw->Nat->Rw)(ab:Rw->Bool)(R:Nat)(r0:Rw)(k:Nat)(M:List (List Nat×Rw)):Bres->Prop
 | .more M'=>MOk f ab R r0 k M'/\(∀ e∈M',ab e.2=false)/\M.length<=M'.length
 | .stop M'=>MOk f ab R r0 k M'/\∃(A:List (List Nat×Rw)) (z:List Nat×Rw),M'=A++[z]/\ab z.2=true/\M.length<=A.length
 | .over=>True
theorem af9 {f:Rw->Nat->Rw}{ab:Rw->Bool}{R:Nat}{J:Rw}(G:∀ r x,(f r x).length=R){k:Nat}{e:List Nat×Rw}(hk:e.1.length+1<=k):∀(F:List Nat) (M:List (List Nat×Rw)),MOk f ab R J k M->e∈M->(∀ d∈M,ab d.2=false)->bY2 f ab R J k M (inn f ab e F M)
 | [],M,h,he,hn=>by unfold inn;exact⟨h,hn,ak _⟩
 | x::F,M,h,he,hn=>by
  unfold inn
  by_cases h1:f e.2 x∈M.map (·.2)
  ·rw[if_pos h1];exact af9 G hk F M h he hn
  ·rw[if_neg h1]
   by_cases h3:M.length=300
   ·rw[if_pos h3];trivial
   ·rw[if_neg h3]
    have h':=h.snoc (x:=x) G he hk h3
    cases ha:ab (f e.2 x)with
    | true=>rw[if_pos rfl];exact⟨h',M,_,rfl,ha,ak _⟩
    | false =>
     rw[if_neg (by nofun)]
     have Y:=af9 G hk F (M++[(e.1++[x],f e.2 x)]) h' (cb _ he) (λ d hd=>by
      rcases aW.mp hd with z|z
      ·exact hn d z
      ·rw[aI.mp z];exact ha)
     revert Y
     generalize inn f ab e F (M++[(e.1++[x],f e.2 x)])=B
     have hl:(M++[(e.1++[x],f e.2 x)]).length=M.length+1:=by rw[aE];rfl
     cases B with
     | more M'=>rintro⟨a,b,c⟩;exact⟨a,b,by omega⟩
     | stop M'=>rintro⟨a,A,z,e1,e2,e3⟩;exact⟨a,A,z,e1,e2,by omega⟩
     | over=>exact id
theorem aQ5 {s:Sto}{r:Nat}{l:List D}{d:D}(h:s[r]?=some (.lst (l++[d]))):ixM (.ref r) (.int (-1)) s=.ok d s:=by
 have e:ixn (l++[d]).length (-1)=some l.length:=by
  unfold ixn
  rw[if_neg (by omega),if_pos (by rw[aE];show -((l.length+1:Nat):Int)<=-1;omega)]
  congr 1
  rw[aE]
  show(-1+((l.length+1:Nat):Int)).toNat=l.length
  omega
 unfold ixM
 simp only[h,e,Option.bind_some,aB (ak _),dE]
 rfl
theorem aC3 (s:Sto)(M:List (List Nat×Rw)):StM (s++[.lst [],.dit []]) s.length (s.length+1) M=s++[.lst (MtD M),.dit (Sn (M.map (·.2)))]:=by
 unfold StM
 rw[bS,if_neg (by omega),dE,bS,if_neg (by omega),show s.length+1 - s.length=1 by omega]
 rfl
theorem bn7 {s:Sto}{p q:Nat}(F:p≠q)(M B:List (List Nat×Rw)):((StM s p q M).set p (.lst (MtD B))).set q (.dit (Sn (B.map (·.2))))=StM s p q B:=by
 unfold StM
 rw[kR _ _ (cw F),bV,bV]
section
variable {P:Pr} [Has P ab6] [Has P ac0] [Has P ab0] [Has P aa9] [Has P ab2] [Has P af0] [Has P aa3] [Has P ah2] [Has P ab5] [Has P aa7] [HasC P "LETTERS" (.tup aO3)] [HasC P "MOST_ROWS" (.int 300)] [Has P aa5] [Has P aa4] [HasX P "meet_behind" aa6] [HasE P "TooMuch" []]
theorem bt3 (n:Nat){m:Mc}(hm:m.Ok){k:Int}{e:List Nat×Rw}(he:e.2.length=m.R)(hw:e.1.length<=1000){s:Sto}{p q:Nat}(hp:p<s.length)(hq:q<s.length)(J:p≠q){M:List (List Nat×Rw)}(hM:M.length<=300)(hs:∀ d∈M,d.2.length=m.R) :
  match inn (zm m k) (zc m k) e (qy m.L) M with
  | .more B=>(aa0 P (n+4)).call "meet_behind" [m.d,.int k,enD e,.ref p,.ref q] (StM s p q M)=.ok .non (StM s p q B)
  | .stop B=>(aa0 P (n+4)).call "meet_behind" [m.d,.int k,enD e,.ref p,.ref q] (StM s p q M)=.ok .non (StM s p q B)
  | .over=>(aa0 P (n+4)).call "meet_behind" [m.d,.int k,enD e,.ref p,.ref q] (StM s p q M)=.bad/\∃ B,(aa0 P (n+4)).xcall "meet_behind" [m.d,.int k,enD e,.ref p,.ref q] (StM s p q M)=some ("TooMuch",StM s p q B):=by
 have Z:=hm.L3
 have Y:(aa0 P (n+4)).call "meet_behind" [m.d,.int k,enD e,.ref p,.ref q] (StM s p q M)=_:=ze aa4 (n:=n+3) rfl
 have x0:(aa0 P (n+4)).xcall "meet_behind" [m.d,.int k,enD e,.ref p,.ref q] (StM s p q M)=_:=al1 aa6 (n:=n+3) rfl
 have F:(aa0 P (n+3)).call "letters_of" [m.d] (StM s p q M)=.ok (.tup (sg (qy m.L))) (StM s p q M):=by
  have:=aM2 (P:=P) (n+2) (L:=m.L) Z [.int m.R,.tup (z8 m.bg),.tup (z8 m.en),.tup (m.ds.map Dr.d)] (StM s p q M)
  rw[bH5 Z]at this
  exact this
 have go:=bn6 (P:=P) n hm (k:=k) he hw hp hq J (qy m.L) M none none hM hs
 have cn:∀ B,zq (StM s p q M) .non (StM s p q B)=.ok .non (StM s p q B):=λ B=>by
  have:=aN8 (s:=StM s p q M) (p:=p) (q:=q) (a:=.lst (MtD B)) (b:=.dit (Sn (B.map (·.2)))) bk4 bG7
  rwa [bn7 J]at this
 rw[show(cK some [m.d,.int k,enD e,.ref p,.ref q]++aq aa4.vs none)=[some m.d,some (.int k),some (enD e),some (.ref p),some (.ref q),none,none]from rfl]at Y
 have hb:aa4.body=.cons (.for_ (.one 5) (.seq (.call "letters_of" (.ex (.var 0) .nil))) zA) .nil:=rfl
 rw[hb]at Y
 cases hB:inn (zm m k) (zc m k) e (qy m.L) M with
 | more B =>
  rw[hB]at go
  obtain⟨z5,z6,go⟩:=go
  rw[Y]
  tbr_iter [F,qA]
  rw[show qz (λ G=>chk (StM s p q M) G []) (turn (aa0 P (n+3)) (.one 5) zA) (sg (qy m.L)) [some m.d,some (.int k),some (enD e),some (.ref p),some (.ref q),none,none] (StM s p q M)=_ from go]
  tbr_iter []
  exact cn B
 | stop B =>
  rw[hB]at go
  rw[Y]
  tbr_iter [F,qA]
  rw[show qz (λ G=>chk (StM s p q M) G []) (turn (aa0 P (n+3)) (.one 5) zA) (sg (qy m.L)) [some m.d,some (.int k),some (enD e),some (.ref p),some (.ref q),none,none] (StM s p q M)=_ from go]
  tbr_iter []
  exact cn B
 | over =>
  rw[hB]at go
  obtain⟨g1,B,g2⟩:=go
  refine⟨?_,B,?_⟩
  ·rw[Y]
   tbr_iter [F,qA]
   rw[show qz (λ G=>chk (StM s p q M) G []) (turn (aa0 P (n+3)) (.one 5) zA) (sg (qy m.L)) [some m.d,some (.int k),some (enD e),some (.ref p),some (.ref q),none,none] (StM s p q M)=_ from g1]
   rfl
  ·rw[x0]
   have ei:evI (aa0 P (n+3)) (.seq (.call "letters_of" (.ex (.var 0) .nil))) [some m.d,some (.int k),some (enD e),some (.ref p),some (.ref q),none,none] (StM s p q M)=.ok ⟨sg (qy m.L),[]⟩ (StM s p q M):=by
    tbr_iter [F,qA]
   show(match evI (aa0 P (n+3)) (.seq (.call "letters_of" (.ex (.var 0) .nil))) [some m.d,some (.int k),some (enD e),some (.ref p),some (.ref q),none,none] (StM s p q M)with
    | .ok sq s0=>af7 (λ s=>chk s0 s sq.src) (λ d ρ s=>match zN ρ (.one 5) d with
     | some ρ=>exs (aa0 P (n+3)) zA ρ s
     | none=>.bad) (λ d ρ s=>match zN ρ (.one 5) d with
     | some ρ=>xB (aa0 P (n+3)) mbX ρ s
     | none=>none) sq.its [some m.d,some (.int k),some (enD e),some (.ref p),some (.ref q),none,none] s0
    | _=>none)=_
   rw[ei]
   exact g2
end
theorem bq7 {F:Fns}{ρ ρ':Env}{s:Sto}{i:Nat}{a b:Int}{e:E}(G:aA3 ρ i s=.ok (.int a) s)(B:ev F e ρ s=.ok (.int b) s)(h3:an3 ρ i (.int (a+b))=some ρ'):ex F (.aug i e) ρ s=.ok (.next ρ') s:=by
 show(aA3 ρ i s).bind (λ x s=>(ev F e ρ s).bind λ y s=>match x,y with
  | .int a,.int b=>match an3 ρ i (.int (a+b))with|some ρ=>R.ok (Ct.next ρ) s|none=>.bad
  | _,_=>.bad)=_
 rw[G]
 show(ev F e ρ s).bind _=_
 rw[B]
 show(match an3 ρ i (.int (a+b))with|some ρ=>R.ok (Ct.next ρ) s|none=>.bad)=_
 rw[h3]
@[simp] theorem aB6 {F:Fns} {ρ:Env} {s:Sto}:ev F (.neg (.cst (.int 1))) ρ s=.ok (.int (-1)) s:=rfl
noncomputable def rmC:E:=(.and (.cmp .lt (.var 5) (.bi .len (.cons (.var 3) .nil))) (.not (.call "ends_above" (.ex (.var 0) (.ex (.var 1) (.ex (.ix (.ix (.var 3) (.neg (.cst (.int 1)))) (.cst (.int 1))) .nil))))))
noncomputable def rmA:As:=(.ex (.var 0) (.ex (.var 1) (.ex (.ix (.var 3) (.var 5)) (.ex (.var 3) (.ex (.var 4) .nil)))))
noncomputable def rmB:Ss:=(.cons (.ex (.call "meet_behind" rmA)) (.cons (.aug 5 (.cst (.int 1))) .nil))
noncomputable def ab7:Xf:=⟨2,4,.seq (.asg (.one 2) (.call "first_row" (.ex (.var 0) .nil))) (.seq (.asg (.one 3) (.lst (.cons (.tup (.cons (.cst (.str [])) (.cons (.var 2) .nil))) .nil))) (.seq (.asg (.one 4) (.dicU (.var 2) (.cst (.bl true)))) (.seq (.asg (.one 5) (.cst (.int 0))) (.whlX rmC rmB (.call "meet_behind" rmA)))))⟩
theorem aI3 {f:Rw->Nat->Rw}{ab:Rw->Bool}{B:List Nat}{n k:Nat}{M:List (List Nat×Rw)}:bfs f ab B (n+1) k M=match M[k]? with
  | none=>.more M
  | some e=>match inn f ab e B M with
   | .more M'=>bfs f ab B n (k+1) M'
   | .stop M'=>.stop M'
   | .over=>.over:=rfl
section
variable {P:Pr} [Has P ab6] [Has P ac0] [Has P ab0] [Has P aa9] [Has P ab2] [Has P af0] [Has P aa3] [Has P ah2] [Has P ab5] [Has P aa7] [HasC P "LETTERS" (.tup aO3)] [HasC P "MOST_ROWS" (.int 300)] [Has P aa5] [Has P aa4] [HasX P "meet_behind" aa6] [HasE P "TooMuch" []]
theorem cd1 (n:Nat){m:Mc}(Y:m.Ok){k:Int}{s:Sto}{p q:Nat}(hp:p<s.length)(J:p≠q){A:List (List Nat×Rw)}{z:List Nat×Rw}(hz:z.2.length=m.R){d2:Option D}{j:Nat} :
  ev (aa0 P (n+4)) rmC [some m.d,some (.int k),d2,some (.ref p),some (.ref q),some (.int (j:Int))] (StM s p q (A++[z]))=.ok (.bl (decide (j<(A++[z]).length)&&!zc m k z.2)) (StM s p q (A++[z])):=by
 have gp:=bB6 (s:=s) (p:=p) (q:=q) (M:=A++[z]) hp J
 have B:bi .len [.ref p] (StM s p q (A++[z]))=.ok (.int ((A++[z]).length:Int)) (StM s p q (A++[z])):=by rw[as8 gp,show(MtD (A++[z])).length=(A++[z]).length from aw ..]
 have F:ixM (.ref p) (.int (-1)) (StM s p q (A++[z]))=.ok (enD z) (StM s p q (A++[z])):=by
  refine aQ5 (l:=MtD A) ?_
  rw[gp]
  unfold MtD
  rw[bE];rfl
 have G:=qu (P:=P) (n+1) Y hz k (StM s p q (A++[z]))
 unfold rmC
 by_cases hj:j<(A++[z]).length
 ·tbr_iter [B,show((j:Int)<((A++[z]).length:Int))=True from eq_true (by omega),F,aB6,bl5,G,show(j<(A++[z]).length)=True from eq_true hj,gr]
 ·tbr_iter [B,show((j:Int)<((A++[z]).length:Int))=False from eq_false (by omega),show(j<(A++[z]).length)=False from eq_false hj,kz]
noncomputable def RmR (n:Nat)(P:Pr)(m:Mc)(k:Int)(s:Sto)(p q:Nat)(d2:Option D)(j:Nat)(M:List (List Nat×Rw)):Bres->Prop
 | .more M'=>(∃ a,whl (ev (aa0 P (n+4)) rmC) (exs (aa0 P (n+4)) rmB) [some m.d,some (.int k),d2,some (.ref p),some (.ref q),some (.int (j:Int))] (StM s p q M)=.ok (.next [some m.d,some (.int k),d2,some (.ref p),some (.ref q),a]) (StM s p q M'))/\(∀ N,zL (ev (aa0 P (n+4)) rmC) (exs (aa0 P (n+4)) rmB) (xB (aa0 P (n+4)) (.call "meet_behind" rmA)) N [some m.d,some (.int k),d2,some (.ref p),some (.ref q),some (.int (j:Int))] (StM s p q M)=none)
 | .stop M'=>(∃ a,whl (ev (aa0 P (n+4)) rmC) (exs (aa0 P (n+4)) rmB) [some m.d,some (.int k),d2,some (.ref p),some (.ref q),some (.int (j:Int))] (StM s p q M)=.ok (.next [some m.d,some (.int k),d2,some (.ref p),some (.ref q),a]) (StM s p q M'))/\(∀ N,zL (ev (aa0 P (n+4)) rmC) (exs (aa0 P (n+4)) rmB) (xB (aa0 P (n+4)) (.call "meet_behind" rmA)) N [some m.d,some (.int k),d2,some (.ref p),some (.ref q),some (.int (j:Int))] (StM s p q M)=none)
 | .over=>∃ N M',zL (ev (aa0 P (n+4)) rmC) (exs (aa0 P (n+4)) rmB) (xB (aa0 P (n+4)) (.call "meet_behind" rmA)) N [some m.d,some (.int k),d2,some (.ref p),some (.ref q),some (.int (j:Int))] (StM s p q M)=some ("TooMuch",StM s p q M')
noncomputable def aL8 (f:Rw->Nat->Rw)(ab:Rw->Bool)(R:Nat)(r0:Rw):Bres->Prop
 | .more M=>(∃ k,MOk f ab R r0 k M)/\∀ e∈M,ab e.2=false
 | .stop M=>(∃ k,MOk f ab R r0 k M)/\∃ A z,M=A++[z]/\ab z.2=true
 | .over=>True
theorem aw7 {c:Env->Sto->R D}{g:Env->Sto->R Ct}{B:Env->Sto->Option (String×Sto)}{ρ:Env}{s s1:Sto}(h:c ρ s=.ok (.bl false) s1):∀ N,zL c g B N ρ s=none
 | 0=>rfl
 | N+1=>by unfold zL;rw[h]
theorem qQ {c:Env->Sto->R D}{g:Env->Sto->R Ct}{B:Env->Sto->Option (String×Sto)}{ρ ρ1:Env}{s s1 s2:Sto}(h:c ρ s=.ok (.bl true) s1)(F:g ρ s1=.ok (.next ρ1) s2)(N:Nat):zL c g B (N+1) ρ s=zL c g B N ρ1 s2:=by
 show(match c ρ s with
  | .ok (.bl true) s1=>match g ρ s1 with
   | .ok (.next ρ1) s2=>zL c g B N ρ1 s2
   | .ok (.cont ρ1) s2=>zL c g B N ρ1 s2
   | .ok _ _=>none
   | _=>B ρ s1
  | _=>none)=_
 rw[h]
 show(match g ρ s1 with
   | .ok (.next ρ1) s2=>zL c g B N ρ1 s2
   | .ok (.cont ρ1) s2=>zL c g B N ρ1 s2
   | .ok _ _=>none
   | _=>B ρ s1)=_
 rw[F]
theorem bz2 {c:Env->Sto->R D}{g:Env->Sto->R Ct}{B:Env->Sto->Option (String×Sto)}{ρ:Env}{s s1:Sto}(h:c ρ s=.ok (.bl true) s1)(F:g ρ s1=.bad)(N:Nat):zL c g B (N+1) ρ s=B ρ s1:=by
 show(match c ρ s with
  | .ok (.bl true) s1=>match g ρ s1 with
   | .ok (.next ρ1) s2=>zL c g B N ρ1 s2
   | .ok (.cont ρ1) s2=>zL c g B N ρ1 s2
   | .ok _ _=>none
   | _=>B ρ s1
  | _=>none)=_
 rw[h]
 show(match g ρ s1 with
   | .ok (.next ρ1) s2=>zL c g B N ρ1 s2
   | .ok (.cont ρ1) s2=>zL c g B N ρ1 s2
   | .ok _ _=>none
   | _=>B ρ s1)=_
 rw[F]
theorem aR1 {α:Type}{l:List α}(h:1<=l.length):∃ A z,l=A++[z]:=⟨l.dropLast,l.getLast (by intro e;rw[e]at h;cases h),(List.dropLast_concat_getLast _).symm⟩
theorem bN5 (n:Nat){m:Mc}(hm:m.Ok){k:Int}{s:Sto}{p q:Nat}(hp:p<s.length)(hq:q<s.length)(J:p≠q){d2:Option D}:∀(F j:Nat) (M:List (List Nat×Rw)),301<=F+j->MOk (zm m k) (zc m k) m.R (zB m) j M->(∀ e∈M,zc m k e.2=false) ->
  RmR n P m k s p q d2 j M (bfs (zm m k) (zc m k) (qy m.L) F j M)/\aL8 (zm m k) (zc m k) m.R (zB m) (bfs (zm m k) (zc m k) (qy m.L) F j M)
 | 0,j,M,hf,h,_=>by
  have:=h.hat
  have:=h.len
  omega
 | F+1,j,M,hf,h,hn=>by
  rw[aI3]
  obtain⟨A,z,hz⟩:=aR1 h.pos
  have a5:z.2.length=m.R:=h.sh z (by rw[hz];exact aF _ (aI.mpr rfl))
  have a4:zc m k z.2=false:=hn z (by rw[hz];exact aF _ (aI.mpr rfl))
  have hc:=cd1 (P:=P) n hm (k:=k) (s:=s) (p:=p) (q:=q) hp J (A:=A) (z:=z) a5 (d2:=d2) (j:=j)
  rw[<-hz,a4,Bool.not_false,jk]at hc
  cases he:M[j]? with
  | none =>
   have hj:¬ j<M.length:=λ z=>by rw[aj z]at he;cases he
   rw[decide_eq_false hj]at hc
   exact⟨⟨⟨_,aA8 hc⟩,aw7 hc⟩,⟨j,h⟩,hn⟩
  | some e =>
   have hj:j<M.length:=(ah.mp he).1
   have Z:=a7 he
   rw[decide_eq_true hj]at hc
   have a6:=h.wl e Z
   have h':MOk (zm m k) (zc m k) m.R (zB m) (j+1) M:=⟨h.len,h.pos,hj,h.sh,h.fold,λ d hd=>f9 (h.wl d hd)⟩
   have sp:=af9 (f:=zm m k) (ab:=zc m k) (zR m k) (k:=j+1) (e:=e) (by omega) (qy m.L) M h' Z hn
   have mk:=bt3 (P:=P) n hm (k:=k) (e:=e) (h.sh e Z) (by have:=h.len;omega) hp hq J (M:=M) h.len h.sh
   have gp:=bB6 (s:=s) (p:=p) (q:=q) (M:=M) hp J
   have Y:ixM (.ref p) (.int (j:Int)) (StM s p q M)=.ok (enD e) (StM s p q M):=ai1 gp (bN4 he)
   have body:∀ G,(aa0 P (n+4)).call "meet_behind" [m.d,.int k,enD e,.ref p,.ref q] (StM s p q M)=.ok .non (StM s p q G)->exs (aa0 P (n+4)) rmB [some m.d,some (.int k),d2,some (.ref p),some (.ref q),some (.int (j:Int))] (StM s p q M)=.ok (.next [some m.d,some (.int k),d2,some (.ref p),some (.ref q),some (.int ((j+1:Nat):Int))]) (StM s p q G):=λ G ec=>by
    have ea:ex (aa0 P (n+4)) (.aug 5 (.cst (.int 1))) [some m.d,some (.int k),d2,some (.ref p),some (.ref q),some (.int (j:Int))] (StM s p q G)=.ok (.next [some m.d,some (.int k),d2,some (.ref p),some (.ref q),some (.int ((j+1:Nat):Int))]) (StM s p q G):=bq7 (a:=(j:Int)) (b:=1) rfl rfl rfl
    unfold rmB rmA
    tbr_iter [Y,ec,ea]
   show RmR n P m k s p q d2 j M (match inn (zm m k) (zc m k) e (qy m.L) M with
     | .more G=>bfs (zm m k) (zc m k) (qy m.L) F (j+1) G
     | .stop G=>.stop G
     | .over=>.over)/\aL8 (zm m k) (zc m k) m.R (zB m) (match inn (zm m k) (zc m k) e (qy m.L) M with
     | .more G=>bfs (zm m k) (zc m k) (qy m.L) F (j+1) G
     | .stop G=>.stop G
     | .over=>.over)
   revert sp mk
   cases hB:inn (zm m k) (zc m k) e (qy m.L) M with
   | more G =>
    rintro⟨s1,s2,s3⟩ mk
    have ih:=bN5 n hm (k:=k) hp hq J (d2:=d2) F (j+1) G (by omega) s1 s2
    have hb:=body G mk
    show RmR n P m k s p q d2 j M (bfs (zm m k) (zc m k) (qy m.L) F (j+1) G)/\aL8 (zm m k) (zc m k) m.R (zB m) (bfs (zm m k) (zc m k) (qy m.L) F (j+1) G)
    revert ih
    generalize bfs (zm m k) (zc m k) (qy m.L) F (j+1) G=B
    cases B with
    | more M2 =>
     rintro⟨⟨⟨a,w⟩,x⟩,y⟩
     refine⟨⟨⟨a,(aj0 hc hb).trans w⟩,λ N=>?_⟩,y⟩
     cases N with
     | zero=>rfl
     | succ N=>rw[qQ hc hb];exact x N
    | stop M2 =>
     rintro⟨⟨⟨a,w⟩,x⟩,y⟩
     refine⟨⟨⟨a,(aj0 hc hb).trans w⟩,λ N=>?_⟩,y⟩
     cases N with
     | zero=>rfl
     | succ N=>rw[qQ hc hb];exact x N
    | over =>
     rintro⟨⟨N,M2,x⟩,y⟩
     exact⟨⟨N+1,M2,by rw[qQ hc hb];exact x⟩,y⟩
   | stop G =>
    rintro⟨s1,A',z',e1,e2,e3⟩ mk
    have hb:=body G mk
    have a1:z'.2.length=m.R:=s1.sh z' (by rw[e1];exact aF _ (aI.mpr rfl))
    have a0:=cd1 (P:=P) n hm (k:=k) (s:=s) (p:=p) (q:=q) hp J (A:=A') (z:=z') a1 (d2:=d2) (j:=j+1)
    rw[<-e1,e2,dI,Bool.and_false]at a0
    refine⟨⟨⟨_,(aj0 hc hb).trans (aA8 a0)⟩,λ N=>?_⟩,⟨_,s1⟩,A',z',e1,e2⟩
    cases N with
    | zero=>rfl
    | succ N=>rw[qQ hc hb];exact aw7 a0 N
   | over =>
    rintro _ ⟨a3,G,a2⟩
    have hbad:exs (aa0 P (n+4)) rmB [some m.d,some (.int k),d2,some (.ref p),some (.ref q),some (.int (j:Int))] (StM s p q M)=.bad:=by
     unfold rmB rmA
     tbr_iter [Y,a3]
     rfl
    refine⟨⟨1,G,?_⟩,trivial⟩
    rw[bz2 hc hbad]
    have ea:ag6 (aa0 P (n+4)) rmA [some m.d,some (.int k),d2,some (.ref p),some (.ref q),some (.int (j:Int))] (StM s p q M)=.ok [m.d,.int k,enD e,.ref p,.ref q] (StM s p q M):=by
     unfold rmA
     tbr_iter [Y]
    rw[at8 ea]
    exact a2
end
section
variable {c:Env->Sto->R D} {g:Env->Sto->R Ct} {gx:Env->Sto->Option (String×Sto)}
theorem qP:∀ {N:Nat} {ρ:Env} {s:Sto} {r:String×Sto},zL c g gx N ρ s=some r->∀ K,zL c g gx (N+K) ρ s=some r
 | 0,ρ,s,r,h,K=>by cases h
 | N+1,ρ,s,r,h,K=>by
  rw[show N+1+K=(N+K)+1 by omega]
  unfold zL at h ⊢
  split at h
  ·rename_i s1 e1
   split at h
   ·exact qP h K
   ·exact qP h K
   ·cases h
   ·exact h
  ·cases h
theorem aY6 {N:Nat}{ρ:Env}{s:Sto}{r:String×Sto}(h:zL c g gx N ρ s=some r):whlX c g gx ρ s=some r:=by
 unfold whlX
 have ex:∃ n,(zL c g gx n ρ s).isSome=true:=⟨N,by rw[h];rfl⟩
 rw[dif_pos ex]
 have hs:=ex.choose_spec
 generalize ex.choose=K at hs ⊢
 cases hK:zL c g gx K ρ s with
 | none=>rw[hK]at hs;cases hs
 | some r' =>
  have a:=qP h K
  have b:=qP hK N
  rw[fz]at b
  rw[a]at b
  exact b.symm
theorem ay6 {ρ:Env}{s:Sto}(h:∀ N,zL c g gx N ρ s=none):whlX c g gx ρ s=none:=by
 unfold whlX
 rw[dif_neg]
 rintro⟨N,hN⟩
 rw[h N]at hN;cases hN
end
noncomputable def Bk (m:Mc)(k:Int):Bres:=bfs (zm m k) (zc m k) (qy m.L) 301 0 [([],zB m)]
theorem as4 {m:Mc}{k:Int}(hk:0<=k):zc m k (zB m)=false:=by
 unfold zc
 refine decide_eq_false λ h=>?_
 have hl:=ap4 (m.en.filterMap λ q=>(zB m).getD q none)
 rw[show minI (m.en.filterMap λ q=>(zB m).getD q none)=some (k+1)from h]at hl
 obtain⟨q,_,B⟩:=cC.mp hl.1
 rw[j4]at B
 unfold zB at B
 rw[aH]at B
 by_cases hR:q<m.R
 ·rw[dH hR]at B
  simp only[dR,Option.getD_some]at B
  split at B
  ·injection B with B;omega
  ·cases B
 ·rw[bH (by simp;omega)]at B
  cases B
theorem bU8 (m:Mc)(k:Int):MOk (zm m k) (zc m k) m.R (zB m) 0 [([],zB m)] :=
 ⟨(by show 1<=300;decide),ak 1,cS _,λ e he=>by rw[aI.mp he];show(zB m).length=m.R;unfold zB;simp,λ e he=>by rw[aI.mp he];rfl,λ e he=>by rw[aI.mp he];exact ak _⟩
theorem bj2 {f:Rw->Nat->Rw}{ab:Rw->Bool}{R:Nat}{J:Rw}(Y:∀ r x,(f r x).length=R)(F:List Nat):∀(B j:Nat) (M:List (List Nat×Rw)),301<=B+j->MOk f ab R J j M->(∀ e∈M,ab e.2=false)->aL8 f ab R J (bfs f ab F B j M)
 | 0,j,M,hf',h,_=>by
  have:=h.hat
  have:=h.len
  omega
 | B+1,j,M,hf',h,hn=>by
  rw[aI3]
  cases he:M[j]? with
  | none=>exact⟨⟨j,h⟩,hn⟩
  | some e =>
   have hj:j<M.length:=(ah.mp he).1
   have G:=a7 he
   have Z:=h.wl e G
   have h':MOk f ab R J (j+1) M:=⟨h.len,h.pos,hj,h.sh,h.fold,λ d hd=>f9 (h.wl d hd)⟩
   have sp:=af9 (f:=f) (ab:=ab) Y (k:=j+1) (e:=e) (by omega) F M h' G hn
   show aL8 f ab R J (match inn f ab e F M with
     | .more M'=>bfs f ab F B (j+1) M'
     | .stop M'=>.stop M'
     | .over=>.over)
   revert sp
   cases hB:inn f ab e F M with
   | more M'=>rintro⟨s1,s2,s3⟩;exact bj2 Y F B (j+1) M' (by omega) s1 s2
   | stop M'=>rintro⟨s1,A',z',e1,e2,e3⟩;exact⟨⟨_,s1⟩,A',z',e1,e2⟩
   | over=>exact λ _=>trivial
theorem bK5 (m:Mc){k:Int}(hk:0<=k):aL8 (zm m k) (zc m k) m.R (zB m) (Bk m k) :=
 bj2 (zR m k) (qy m.L) 301 0 [([],zB m)] (by decide) (bU8 m k) (λ e he=>by rw[aI.mp he];exact as4 hk)
theorem by8 {F:Fns}{ρ:Env}{s:Sto}(k v:E):ev F (.dicU k v) ρ s=(ev F k ρ (s++[.dit []])).bind λ kd s1=>(ev F v ρ s1).bind λ B s2=>if kd.keyT=true/\s2[s.length]?=some (.dit [])then .ok (.ref s.length) (s2.set s.length (.dit [(kd,B)]))else .bad:=rfl
noncomputable def RmO (P:Pr)(n:Nat)(m:Mc)(k:Int)(s:Sto):Bres->Prop
 | .more M=>(aa0 P (n+5)).call "rows_met" [m.d,.int k] s=.ok (.ref s.length) (s++[.lst (MtD M)])/\(aa0 P (n+5)).xcall "rows_met" [m.d,.int k] s=none
 | .stop M=>(aa0 P (n+5)).call "rows_met" [m.d,.int k] s=.ok (.ref s.length) (s++[.lst (MtD M)])/\(aa0 P (n+5)).xcall "rows_met" [m.d,.int k] s=none
 | .over=>∃ T,(aa0 P (n+5)).xcall "rows_met" [m.d,.int k] s=some ("TooMuch",s++T)
noncomputable def ad6:Xf:=⟨2,1,.call "rows_met" (.ex (.var 0) (.ex (.var 1) .nil))⟩
section
variable {P:Pr} [Has P ab6] [Has P ac0] [Has P ab0] [Has P aa9] [Has P ab3] [Has P ab2] [Has P af0] [Has P ab4] [Has P aa3] [Has P ah2] [Has P ab5] [Has P aa7] [HasC P "LETTERS" (.tup aO3)] [HasC P "MOST_ROWS" (.int 300)] [Has P aa5] [Has P aa4] [HasX P "meet_behind" aa6] [HasE P "TooMuch" []] [Has P ab8] [HasX P "rows_met" ab7]
theorem qU (n:Nat){m:Mc}(Y:m.Ok){k:Int}(hk:0<=k)(s:Sto):RmO P n m k s (Bk m k):=by
 have e0:(aa0 P (n+5)).call "rows_met" [m.d,.int k] s=_:=ze ab8 (n:=n+4) rfl
 have x0:(aa0 P (n+5)).xcall "rows_met" [m.d,.int k] s=_:=al1 ab7 (n:=n+4) rfl
 have f1:=aw6 (P:=P) (n+2) Y
 have a2:=Y.R1
 have a4:=Y.R5
 have J:(D.tup (za (zB m))).keyT=true:=aG5 a2 a4 (by unfold zB;simp)
 have go:=(bN5 (P:=P) n Y (k:=k) (s:=s++[.lst [],.dit []]) (p:=s.length) (q:=s.length+1) (by simp) (by simp) (by omega) (d2:=some (.tup (za (zB m)))) 301 0 [([],zB m)] (by decide) (bU8 m k) (λ e he=>by rw[aI.mp he];exact as4 hk)).1
 have a1:=aC3 s [([],zB m)]
 have g1:(s++[O.lst [D.tup [.str [],.tup (za (zB m))]]]++[O.dit []])[s.length+1]?=some (.dit []):=by rw[aB (by simp),aE];simp
 have g2:(s++[O.lst [D.tup [.str [],.tup (za (zB m))]]]++[O.dit []]).set (s.length+1) (.dit [(.tup (za (zB m)),.bl true)])=StM (s++[.lst [],.dit []]) s.length (s.length+1) [([],zB m)]:=by
  rw[a1,dk,bS,if_neg (by omega),show s.length+1 - s.length=1 by omega];rfl
 have g3:(s++[O.lst [D.tup [.str [],.tup (za (zB m))]]]).length=s.length+1:=by simp
 have hb:ab8.body=.cons (.asg (.one 2) (.call "first_row" (.ex (.var 0) .nil))) (.cons (.asg (.one 3) (.lst (.cons (.tup (.cons (.cst (.str [])) (.cons (.var 2) .nil))) .nil))) (.cons (.asg (.one 4) (.dicU (.var 2) (.cst (.bl true)))) (.cons (.asg (.one 5) (.cst (.int 0))) (.cons (.whl rmC rmB) (.cons (.ret (.var 3)) .nil))))):=rfl
 rw[hb,show(cK some [m.d,.int k]++aq ab8.vs none)=[some m.d,some (.int k),none,none,none,none]from rfl]at e0
 have G:∀ F,(∃ a,whl (ev (aa0 P (n+4)) rmC) (exs (aa0 P (n+4)) rmB) [some m.d,some (.int k),some (.tup (za (zB m))),some (.ref s.length),some (.ref (s.length+1)),some (.int ((0:Nat):Int))] (StM (s++[.lst [],.dit []]) s.length (s.length+1) [([],zB m)])=.ok (.next [some m.d,some (.int k),some (.tup (za (zB m))),some (.ref s.length),some (.ref (s.length+1)),a]) (StM (s++[.lst [],.dit []]) s.length (s.length+1) F))->(aa0 P (n+5)).call "rows_met" [m.d,.int k] s=.ok (.ref s.length) (s++[.lst (MtD F)]):=λ F ⟨a,hw⟩=>by
  have hw:whl (ev (aa0 P (n+4)) rmC) (exs (aa0 P (n+4)) rmB) [some m.d,some (.int k),some (.tup (za (zB m))),some (.ref s.length),some (.ref (s.length+1)),some (.int 0)] (StM (s++[.lst [],.dit []]) s.length (s.length+1) [([],zB m)])=.ok (.next [some m.d,some (.int k),some (.tup (za (zB m))),some (.ref s.length),some (.ref (s.length+1)),a]) (StM (s++[.lst [],.dit []]) s.length (s.length+1) F):=hw
  rw[e0]
  tbr_iter [f1,by8,J,g3,g1,true_and,g2,hw]
  rw[aC3]
  have:=ak4 (s:=s) (t:=[]) (u:=[.dit (Sn (F.map (·.2)))]) (o:=.lst (MtD F)) bk4
  exact this
 have a6:ex (aa0 P (n+4)) (.asg (.one 2) (.call "first_row" (.ex (.var 0) .nil))) [some m.d,some (.int k),none,none,none,none] s=.ok (.next [some m.d,some (.int k),some (.tup (za (zB m))),none,none,none]) s:=by tbr_iter [f1]
 have a0:ex (aa0 P (n+4)) (.asg (.one 3) (.lst (.cons (.tup (.cons (.cst (.str [])) (.cons (.var 2) .nil))) .nil))) [some m.d,some (.int k),some (.tup (za (zB m))),none,none,none] s=.ok (.next [some m.d,some (.int k),some (.tup (za (zB m))),some (.ref s.length),none,none]) (s++[O.lst [D.tup [.str [],.tup (za (zB m))]]]):=by tbr_iter []
 have a3:ex (aa0 P (n+4)) (.asg (.one 4) (.dicU (.var 2) (.cst (.bl true)))) [some m.d,some (.int k),some (.tup (za (zB m))),some (.ref s.length),none,none] (s++[O.lst [D.tup [.str [],.tup (za (zB m))]]])=.ok (.next [some m.d,some (.int k),some (.tup (za (zB m))),some (.ref s.length),some (.ref (s.length+1)),none]) (StM (s++[.lst [],.dit []]) s.length (s.length+1) [([],zB m)]):=by tbr_iter [by8,J,g3,g1,true_and,g2]
 have a5:ex (aa0 P (n+4)) (.asg (.one 5) (.cst (.int 0))) [some m.d,some (.int k),some (.tup (za (zB m))),some (.ref s.length),some (.ref (s.length+1)),none] (StM (s++[.lst [],.dit []]) s.length (s.length+1) [([],zB m)])=.ok (.next [some m.d,some (.int k),some (.tup (za (zB m))),some (.ref s.length),some (.ref (s.length+1)),some (.int ((0:Nat):Int))]) (StM (s++[.lst [],.dit []]) s.length (s.length+1) [([],zB m)]):=by tbr_iter [];rfl
 have Z:(aa0 P (n+5)).xcall "rows_met" [m.d,.int k] s=whlX (ev (aa0 P (n+4)) rmC) (exs (aa0 P (n+4)) rmB) (xB (aa0 P (n+4)) (.call "meet_behind" rmA)) [some m.d,some (.int k),some (.tup (za (zB m))),some (.ref s.length),some (.ref (s.length+1)),some (.int ((0:Nat):Int))] (StM (s++[.lst [],.dit []]) s.length (s.length+1) [([],zB m)]):=by
  rw[x0]
  show xB (aa0 P (n+4)) (.seq _ _) [some m.d,some (.int k),none,none,none,none] s=_
  rw[az6 a6,az6 a0,az6 a3,az6 a5]
  rfl
 show RmO P n m k s (Bk m k)
 unfold Bk
 revert go
 generalize bfs (zm m k) (zc m k) (qy m.L) 301 0 [([],zB m)]=B
 cases B with
 | more M=>rintro⟨a,b⟩;exact⟨G M a,by rw[Z];exact ay6 b⟩
 | stop M=>rintro⟨a,b⟩;exact⟨G M a,by rw[Z];exact ay6 b⟩
 | over =>
  rintro⟨N,F,hN⟩
  refine⟨[.lst (MtD F),.dit (Sn (F.map (·.2)))],?_⟩
  rw[Z,aY6 hN,aC3]
noncomputable def AbO (P:Pr)(n:Nat)(m:Mc)(k:Int)(s:Sto):Bres->Prop
 | .more M=>(aa0 P (n+6)).call "above" [m.d,.int k] s=.ok .non s/\(aa0 P (n+6)).xcall "above" [m.d,.int k] s=none
 | .stop M=>(∃ A z,M=A++[z]/\(aa0 P (n+6)).call "above" [m.d,.int k] s=.ok (.str z.1) s)/\(aa0 P (n+6)).xcall "above" [m.d,.int k] s=none
 | .over=>∃ T,(aa0 P (n+6)).xcall "above" [m.d,.int k] s=some ("TooMuch",s++T)
theorem bh4 [Has P ad8][HasX P "above" ad6](n:Nat){m:Mc}(hm:m.Ok){k:Int}(hk:0<=k)(s:Sto):AbO P n m k s (Bk m k):=by
 have e0:(aa0 P (n+6)).call "above" [m.d,.int k] s=_:=ze ad8 (n:=n+5) rfl
 have x0:(aa0 P (n+6)).xcall "above" [m.d,.int k] s=_:=al1 ad6 (n:=n+5) rfl
 have xr:(aa0 P (n+6)).xcall "above" [m.d,.int k] s=(aa0 P (n+5)).xcall "rows_met" [m.d,.int k] s:=by
  rw[x0]
  have ea:ag6 (aa0 P (n+5)) (.ex (.var 0) (.ex (.var 1) .nil)) [some m.d,some (.int k),none] s=.ok [m.d,.int k] s:=by tbr_iter []
  show xB (aa0 P (n+5)) (.call "rows_met" _) [some m.d,some (.int k),none] s=_
  rw[at8 ea]
 have rm:=qU (P:=P) n hm hk s
 have bo:=bK5 m hk
 rw[show(cK some [m.d,.int k]++aq ad8.vs none)=[some m.d,some (.int k),none]from rfl]at e0
 have J:∀ A z,z.2.length=m.R->(aa0 P (n+5)).call "rows_met" [m.d,.int k] s=.ok (.ref s.length) (s++[.lst (MtD (A++[z]))])->(aa0 P (n+6)).call "above" [m.d,.int k] s=.ok (if zc m k z.2=true then .str z.1 else .non) s:=λ A z hz hr=>by
  have Y:ixM (.ref s.length) (.int (-1)) (s++[.lst (MtD (A++[z]))])=.ok (enD z) (s++[.lst (MtD (A++[z]))]):=by
   refine aQ5 (l:=MtD A) ?_
   rw[bC2]
   unfold MtD
   rw[bE];rfl
  have F:=qu (P:=P) (n+2) hm hz k (s++[.lst (MtD (A++[z]))])
  rw[e0]
  simp -implicitDefEqProofs only[ad8]
  cases hab:zc m k z.2 with
  | true =>
   rw[hab]at F
   tbr_iter [hr,aB6,Y,bS3,bl5,F]
   exact zG (λ _=>rfl) (by nofun)
  | false =>
   rw[hab]at F
   tbr_iter [hr,aB6,Y,bS3,bl5,F]
   exact zG (λ _=>rfl) (by nofun)
 revert rm bo
 generalize Bk m k=B
 cases B with
 | more M =>
  rintro⟨a,b⟩ ⟨⟨j,Z⟩,hn⟩
  obtain⟨A,z,rfl⟩:=aR1 Z.pos
  have G:z∈A++[z]:=aF _ (aI.mpr rfl)
  have:=J A z (Z.sh z G) a
  rw[hn z G]at this
  exact⟨this,by rw[xr];exact b⟩
 | stop M =>
  rintro⟨a,b⟩ ⟨⟨j,Z⟩,A,z,rfl,hab⟩
  have G:z∈A++[z]:=aF _ (aI.mpr rfl)
  have:=J A z (Z.sh z G) a
  rw[hab]at this
  exact⟨⟨A,z,rfl,this⟩,by rw[xr];exact b⟩
 | over =>
  rintro⟨T,h⟩ _
  exact⟨T,by rw[xr];exact h⟩
end
theorem aX1 {P:Pr}[Has P ad1](n:Nat){m:Mc}(G:m.Ok)(s:Sto):(aa0 P (n+1)).call "_law_first" [m.d] s=.ok (.tup (za (zB m))) s:=by
 have Y:(aa0 P (n+1)).call "_law_first" [m.d] s=_:=ze ad1 (n:=n) rfl
 have Z:=G.R5
 rw[Y,show(cK some [m.d]++aq ad1.vs none)=[some m.d]from rfl]
 obtain⟨ρ1,s1,e1,⟨T1,rfl⟩,_⟩:=ar1 (ok:=λ s1=>chk s s1 []) (g:=af1 (aa0 P n) (.one 0) (.ix (.lst (.cons (.cst .non) (.cons (.cst (.int 0)) .nil))) (.bi .int (.cons (.cmp .isin (.var 0) (.ix (.var 1) (.cst (.int 2)))) .nil)))) (λ ρ u=>(∃ T,u=s++T)/\∃ x,ρ=[x,some m.d])
  (λ k=>qg (if k∈m.bg then some 0 else none)) m.R [none,some m.d] s ⟨⟨[],by simp⟩,none,rfl⟩ (λ _ _ _=>rfl) (by
   rintro j hj ρ u ⟨⟨T,rfl⟩,x,rfl⟩
   have F:=af2 (s:=s++T++[.lst [.non,.int 0]]) (k:=j) (l:=m.bg)
   have hl:(s++T++[O.lst [.non,.int 0]])[(s++T).length]?=some (.lst [.non,.int 0]):=by simp
   by_cases hb:j∈m.bg
   ·have B:ixM (.ref (s++T).length) (.int 1) (s++T++[O.lst [.non,.int 0]])=.ok (.int 0) _:=ai1 (j:=1) hl rfl
    refine⟨[some (.int j),some m.d],s++T++[.lst [.non,.int 0]],?_,⟨T++[.lst [.non,.int 0]],by simp⟩,_,rfl⟩
    unfold af1
    tbr_iter [ixB,zY,F,hb,aS0,B,zC]
   ·have B:ixM (.ref (s++T).length) (.int 0) (s++T++[O.lst [.non,.int 0]])=.ok .non _:=ai1 (j:=0) hl rfl
    refine⟨[some (.int j),some m.d],s++T++[.lst [.non,.int 0]],?_,⟨T++[.lst [.non,.int 0]],by simp⟩,_,rfl⟩
    unfold af1
    tbr_iter [ixB,zY,F,hb,aS0,B,qa])
 have J:((aU m.R).map λ k=>qg (if k∈m.bg then some 0 else none))=za (zB m):=by unfold za zB;rw[bM];rfl
 rw[J]at e1
 simp -implicitDefEqProofs only[ad1]
 tbr_iter [ixR,qJ,qC (s:=s) (i:=(m.R:Int)) (by unfold W62;omega) (by unfold W62;omega),if_pos (show(zW 0 (m.R:Int)).length<=LIM by rw[aj1];unfold LIM;omega),show zZ [some m.d] [none,some 0]=[none,some m.d]from rfl,e1,av3]
 exact zG (λ n=>by unfold D.bnd;exact zr qM n) (by nofun)
noncomputable def mnO (K:Int)(row:Rw):Rw:=row.map (Option.map (min · K))
theorem aQ8 {K:Int}{row:Rw}{j:Nat}{o:Option Int}(h:row[j]?=some o):(mnO K row)[j]?=some (o.map (min · K)):=by unfold mnO;rw[aH,h];rfl
theorem br3 {K:Int}{row:Rw}{j:Nat}{o:Option Int}:mnO K (row.set j o)=(mnO K row).set j (o.map (min · K)):=by unfold mnO;exact k8
theorem bo4 {P:Pr}[Has P ac9](n:Nat){m:Mc}(hm:m.Ok){row:List (Option Int)}(a0:row.length=m.R)(k:Int)(c:Nat)(s:Sto) :
  (aa0 P (n+1)).call "_law_led" [m.d,.int k,.tup (za row),.str [c]] s=.ok (.tup (za (zm m k row c))) s:=by
 have e0:(aa0 P (n+1)).call "_law_led" [m.d,.int k,.tup (za row),.str [c]] s=_:=ze ac9 (n:=n) rfl
 have h5:=hm.R5
 rw[e0,show(cK some [m.d,.int k,D.tup (za row),.str [c]]++aq ac9.vs none)=[some m.d,some (.int k),some (D.tup (za row)),some (.str [c]),none,none,none,none,none,none]from rfl]
 obtain⟨ρ2,s2,e2,b0,_⟩:=qd (ok:=λ b3=>chk s b3 []) (g:=af1 (aa0 P n) (.one 0) (.cst .non)) (λ ρ u=>u=s/\∃ x,ρ=[x]) (λ _=>some .non) (za row) [none] s ⟨rfl,none,rfl⟩ (λ _ _ _=>rfl) (by
  rintro d _ ρ u ⟨rfl,x,rfl⟩
  exact⟨[some d],u,by unfold af1;tbr_iter [],rfl,_,rfl⟩)
 subst b0
 have b4:(za row).filterMap (λ _=>some D.non)=za (mnO (k+1) (row.map λ _=>none)):=by
  unfold za mnO
  rw[bM,bM,cD,<-List.filterMap_eq_map]
  exact qe λ _ _=>rfl
 rw[b4]at e2
 have b2:(za row).length<=LIM:=by rw[aj3,a0];unfold LIM;omega
 have a5:∃ bd,ac9.body=.cons (.asg (.one 4) (.mk .list (.comp (.one 0) (.seq (.var 2)) (.cst .non) [none]))) (.cons (.for_ (.tup [5,6,7,8]) (.seq (.ix (.var 0) (.cst (.int 4)))) bd) (.cons (.ret (.mk .tuple (.seq (.var 4)))) .nil))/\bd=(.cons (.ite (.and (.cmp .eq (.var 6) (.var 3)) (.notN (.ix (.var 2) (.var 5)))) (.cons (.asg (.one 9) (.bi .min2 (.cons (.bin .add (.ix (.var 2) (.var 5)) (.var 8)) (.cons (.bin .add (.var 1) (.cst (.int 1))) .nil)))) (.cons (.ite (.or (.isN (.ix (.var 4) (.var 7))) (.cmp .lt (.var 9) (.ix (.var 4) (.var 7)))) (.cons (.setIx (.var 4) (.var 7) (.var 9)) .nil) .nil) .nil)) .nil) .nil):=⟨_,rfl,rfl⟩
 obtain⟨bd,b1,a3⟩:=a5
 rw[b1]
 tbr_iter [qA,qJ,if_pos b2,show zZ [some m.d,some (.int k),some (D.tup (za row)),some (.str [c]),none,none,none,none,none,none] [none]=[none]from rfl,e2,aH8,ixD]
 refine at3 (W:=λ r=>r.bind (fin s2)=.ok (.tup (za (zm m k row c))) s2) (λ i ρ v=>∃(B:List (Option Int)) (y5 y6 y7 y8 y9:Option D),v=s2++[.lst (za (mnO (k+1) B))]/\B.length=m.R/\aD9 (aC1 (Sr row) c (m.ds.take i)) B/\ρ=[some m.d,some (.int k),some (D.tup (za row)),some (.str [c]),some (.ref s2.length),y5,y6,y7,y8,y9])
  ⟨row.map λ _=>none,_,_,_,_,_,rfl,by simp[a0],?_,rfl⟩ (λ _ _ _ _ _=>rfl) ?_ ?_
 ·intro j o hk
  rw[aH]at hk
  cases e:row[j]? with
  | none=>rw[e]at hk;cases hk
  | some _ =>
   rw[e]at hk;cases hk
   rintro c' ⟨d,hd,_⟩
   rw[List.take_zero]at hd;cases hd
 ·rintro i d ρ v hi ⟨B,y5,y6,y7,y8,y9,rfl,F,G,rfl⟩
  obtain⟨x,hx,rfl⟩:∃ x,m.ds[i]?=some x/\d=x.d:=by
   rw[aH]at hi
   cases e:m.ds[i]? with
   | none=>rw[e]at hi;cases hi
   | some x=>rw[e]at hi;cases hi;exact⟨x,rfl,rfl⟩
  have hok:=hm.ds.1 x (a7 hx)
  have a4:m.ds.take (i+1)=m.ds.take i++[x]:=by
   have hlt:i<m.ds.length:=(ah.mp hx).1
   have e:m.ds[i]=x:=(ah.mp hx).2
   rw[<-e,List.take_append_getElem]
  obtain⟨oa,ha⟩:∃ o,row[x.a]?=some o:=⟨row[x.a]'(by rw[a0];exact hok.a),aj _⟩
  obtain⟨ob,hb⟩:∃ o,B[x.b]?=some o:=⟨B[x.b]'(by rw[F];exact hok.b),aj _⟩
  have g4:(s2++[O.lst (za (mnO (k+1) B))])[s2.length]?=some (.lst (za (mnO (k+1) B))):=by simp
  have ia:ixM (.tup (za row)) (.int x.a) (s2++[O.lst (za (mnO (k+1) B))])=.ok (qg oa) (s2++[O.lst (za (mnO (k+1) B))]):=ix_tup (at5 ha)
  have ib:ixM (.ref s2.length) (.int x.b) (s2++[O.lst (za (mnO (k+1) B))])=.ok (qg (ob.map (min · (k+1)))) (s2++[O.lst (za (mnO (k+1) B))]):=ai1 g4 (at5 (aQ8 hb))
  have Y:x.d=.tup [.int x.a,.str [x.l],.int x.b,.int x.t]:=rfl
  by_cases hl:x.l=c
  ·cases oa with
   | none =>
    refine aN2 (ρ:=[some m.d,some (.int k),some (D.tup (za row)),some (.str [c]),some (.ref s2.length),some (.int x.a),some (.str [x.l]),some (.int x.b),some (.int x.t),y9]) (s:=s2++[.lst (za (mnO (k+1) B))]) ?_ ⟨B,_,_,_,_,_,rfl,F,?_,rfl⟩
    ·rw[a3]
     tbr_iter [turn,Y,qH,hl,ia,qa]
    ·rw[a4]
     refine ax0 G λ c' a1=>?_
     exact bK2 row x.a none ha c' a1.2
   | some y =>
    have a2:=aR4 G hl (bK2 row x.a (some y) ha) hb
    have J:(if k+1<y+(x.t:Int)then k+1 else y+(x.t:Int))=min (y+(x.t:Int)) (k+1):=by split<;>omega
    have Z:∀ v:Int,setIx (.ref s2.length) (.int x.b) (.int v) (s2++[O.lst (za (mnO (k+1) B))])=.ok () (s2++[.lst (za ((mnO (k+1) B).set x.b (some v)))]):=λ v=>by
     rw[bx0 g4 (by rw[aj3];unfold mnO;rw[aw,F];exact hok.b),bS,if_neg (by omega),dE]
     unfold za
     rw[k8];rfl
    refine aN2 (ρ:=[some m.d,some (.int k),some (D.tup (za row)),some (.str [c]),some (.ref s2.length),some (.int x.a),some (.str [x.l]),some (.int x.b),some (.int x.t),some (.int (min (y+(x.t:Int)) (k+1)))]) (s:=s2++[.lst (za (mnO (k+1) (B.set x.b (minO ob (some (y+x.t))))))]) ?_ ⟨B.set x.b (minO ob (some (y+x.t))),_,_,_,_,_,rfl,by rw[bp];exact F,by rw[a4];exact a2,rfl⟩
    rw[br3,a3]
    cases ob with
    | none =>
     rw[km,qa]at ib
     show turn _ _ _ _ _ _=R.ok _ (s2++[O.lst (za ((mnO (k+1) B).set x.b (some (min (y+(x.t:Int)) (k+1)))))])
     tbr_iter [turn,Y,qH,hl,ia,ib,zC,show(D.int y=D.non)=False from eq_false (by nofun),as1,J,Z]
    | some z =>
     rw[dR,zC]at ib
     by_cases hlt:min (y+(x.t:Int)) (k+1)<min z (k+1)
     ·have em:minO (some z) (some (y+(x.t:Int)))=some (y+x.t):=by show(if y+(x.t:Int)<z then _ else _)=_;rw[if_pos (by omega)]
      rw[em]
      show turn _ _ _ _ _ _=R.ok _ (s2++[O.lst (za ((mnO (k+1) B).set x.b (some (min (y+(x.t:Int)) (k+1)))))])
      tbr_iter [turn,Y,qH,hl,ia,ib,zC,show(D.int y=D.non)=False from eq_false (by nofun),show(D.int (min z (k+1))=D.non)=False from eq_false (by nofun),as1,J,hlt,Z]
     ·have em:(minO (some z) (some (y+(x.t:Int)))).map (min · (k+1))=some (min z (k+1)):=by
       show((if y+(x.t:Int)<z then some (y+(x.t:Int))else some z):Option Int).map _=_
       split
       ·show some (min (y+(x.t:Int)) (k+1))=_;congr 1;omega
       ·rfl
      have a6:(mnO (k+1) B).set x.b (some (min z (k+1)))=mnO (k+1) B:=by
       have hg:=aQ8 (K:=k+1) hb
       have b6:x.b<(mnO (k+1) B).length:=(ah.mp hg).1
       have e3:(mnO (k+1) B)[x.b]=some (min z (k+1)):=(ah.mp hg).2
       rw[<-e3,iu]
      rw[em,a6]
      tbr_iter [turn,Y,qH,hl,ia,ib,zC,show(D.int y=D.non)=False from eq_false (by nofun),show(D.int (min z (k+1))=D.non)=False from eq_false (by nofun),as1,J,hlt]
  ·refine aN2 (ρ:=[some m.d,some (.int k),some (D.tup (za row)),some (.str [c]),some (.ref s2.length),some (.int x.a),some (.str [x.l]),some (.int x.b),some (.int x.t),y9]) (s:=s2++[.lst (za (mnO (k+1) B))]) ?_ ⟨B,_,_,_,_,_,rfl,F,?_,rfl⟩
   ·rw[a3]
    tbr_iter [turn,Y,qH,hl]
   ·rw[a4]
    exact ax0 G λ c' a1=>hl a1.1
 ·rintro ρ v ⟨B,y5,y6,y7,y8,y9,rfl,F,G,rfl⟩
  rw[aw,List.take_length]at G
  have b5:mnO (k+1) B=zm m k row c:=by
   rw[bQ0 F G]
   unfold mnO zm
   exact fo λ o _=>(bt2 k o).symm
  have a2:bj7 (.ref s2.length) (s2++[O.lst (za (mnO (k+1) B))])=.ok (za (mnO (k+1) B)) (s2++[O.lst (za (mnO (k+1) B))]):=by
   unfold bj7
   simp only[show(s2++[O.lst (za (mnO (k+1) B))])[s2.length]?=some (.lst (za (mnO (k+1) B)))by simp]
  tbr_iter [a2,av3]
  rw[b5]
  exact zG (λ n=>by unfold D.bnd;exact zr qM n) (by nofun)
theorem bu5 {P:Pr}[Has P am9](n:Nat){m:Mc}(Z:m.Ok){row:List (Option Int)}(B:row.length=m.R)(s:Sto) :
  (aa0 P (n+1)).call "_law_end" [m.d,.tup (za row)] s=.ok (qg (bk7 m row)) s:=by
 have e0:(aa0 P (n+1)).call "_law_end" [m.d,.tup (za row)] s=_:=ze am9 (n:=n) rfl
 have h5:=bl8 Z
 rw[e0,show(cK some [m.d,D.tup (za row)]++aq am9.vs none)=[some m.d,some (D.tup (za row))]from rfl]
 obtain⟨ρ3,s3,e3,G,_⟩:=qd (ok:=λ J=>chk s J []) (g:=am2 (aa0 P n) (.one 0) (.notN (.ix (.var 1) (.var 0))) (.ix (.var 1) (.var 0))) (λ ρ u=>u=s/\∃ x,ρ=[x,some (D.tup (za row))]) (λ d=>match d with|.int i=>(row.getD i.toNat none).map D.int|_=>none) (z8 m.en) [none,some (D.tup (za row))] s ⟨rfl,none,rfl⟩ (λ _ _ h=>rfl) (by
  rintro d hd ρ u ⟨rfl,x,rfl⟩
  obtain⟨q,hq,rfl⟩:=aP.mp hd
  have hlt:q<row.length:=by rw[B];exact Z.en.1 q hq
  have ix:=ix_tup (s:=u) (at5 (aj hlt))
  refine⟨[some (.int q),some (D.tup (za row))],u,?_,rfl,_,rfl⟩
  have hg:row.getD ((q:Int).toNat) none=row[q]:=by simp[j4,hlt]
  unfold am2
  simp only[hg]
  cases e:row[q]with
  | none=>rw[e]at ix;tbr_iter [ix,qa,km]
  | some y=>rw[e]at ix;tbr_iter [ix,zC,show(D.int y=D.non)=False from eq_false (by nofun)])
 subst G
 have Y:(z8 m.en).filterMap (λ d=>match d with|.int i=>(row.getD i.toNat none).map D.int|_=>none)=(m.en.filterMap λ q=>row.getD q none).map D.int:=by
  unfold z8
  rw[cD,List.map_filterMap]
  exact qe λ q _=>rfl
 rw[Y]at e3
 have F:(z8 m.en).length<=LIM:=by unfold z8;rw[aw];unfold LIM;omega
 simp -implicitDefEqProofs only[am9]
 tbr_iter [ixE,qA,ql,if_pos F,show zZ [some m.d,some (D.tup (za row))] [none,some 1]=[none,some (D.tup (za row))]from rfl,e3,aX4]
 exact an6
theorem aV5 {L:Nat}(h3:L<=3)(s:Sto):slM (.str [97,98,99]) none (some (L:Int)) s=.ok (.str ([97,98,99].take L)) s:=by
 show R.ok (D.str (az9 [97,98,99] none (some (L:Int)))) s=_
 unfold az9
 simp only[loB,hiB,sbd,eF,Nat.sub_zero]
 rw[if_pos (by omega),bJ]
 show R.ok (D.str (List.take (min L 3) [97,98,99])) s=_
 rw[Nat.min_eq_left h3]
noncomputable def RsD (M:List (List Nat×Rw)):List D:=M.map λ e=>.tup (za e.2)
noncomputable def WsD (M:List (List Nat×Rw)):List D:=M.map λ e=>.str e.1
noncomputable def StF (s:Sto)(M:List (List Nat×Rw)):Sto:=s++[.lst (RsD M),.lst (WsD M),.dit (Sn (M.map (·.2)))]
theorem bM1 (s:Sto)(M:List (List Nat×Rw)):(StF s M)[s.length]?=some (.lst (RsD M)):=by unfold StF;rw[aB (ak _),dE];rfl
theorem ca3 (s:Sto)(M:List (List Nat×Rw)):(StF s M)[s.length+1]?=some (.lst (WsD M)):=by unfold StF;rw[aB (by omega),show s.length+1 - s.length=1 by omega];rfl
theorem bV7 (s:Sto)(M:List (List Nat×Rw)):(StF s M)[s.length+2]?=some (.dit (Sn (M.map (·.2)))):=by unfold StF;rw[aB (by omega),show s.length+2 - s.length=2 by omega];rfl
noncomputable def fiB:Ss:=(.cons (.asg (.one 7) (.call "_law_led" (.ex (.var 0) (.ex (.var 1) (.ex (.ix (.var 2) (.var 5)) (.ex (.var 6) .nil)))))) (.cons (.ite (.cmp .notin (.var 7) (.var 4)) (.cons (.ite (.cmp .eq (.bi .len (.cons (.var 2) .nil)) (.cst (.int 300))) (.cons (.ret (.cst .non)) .nil) .nil) (.cons (.setIx (.var 4) (.var 7) (.cst (.bl true))) (.cons (.ex (.meth .append (.var 2) (.cons (.var 7) .nil))) (.cons (.ex (.meth .append (.var 3) (.cons (.bin .add (.ix (.var 3) (.var 5)) (.var 6)) .nil))) (.cons (.ite (.cmp .eq (.call "_law_end" (.ex (.var 0) (.ex (.var 7) .nil))) (.bin .add (.var 1) (.cst (.int 1)))) (.cons (.ret (.var 3)) .nil) .nil) .nil))))) .nil) .nil))
noncomputable def foB:Ss:=(.cons (.ite (.cmp .eq (.var 5) (.bi .len (.cons (.var 2) .nil))) (.cons (.ret (.var 3)) .nil) .nil) (.cons (.for_ (.one 6) (.seq (.slU (.cst (.str [97,98,99])) (.ix (.var 0) (.cst (.int 0))))) fiB) .nil))
theorem am4:∀ {L:Nat},L<=3->([97,98,99]:List Nat).take L=qy L
 | 0,_=>rfl
 | 1,_=>rfl
 | 2,_=>rfl
 | 3,_=>rfl
 | n+4,h=>by omega
section
variable {P:Pr} [Has P ad1] [Has P ac9] [Has P am9] [Has P ad7]
noncomputable def FiR (n:Nat)(P:Pr)(m:Mc)(k:Int)(s:Sto)(j:Nat)(ls:List Nat)(M:List (List Nat×Rw))(y6 y7:Option D):Bres->Prop
 | .more M'=>∃ z6 z7,qz (λ u=>chk s u []) (turn (aa0 P (n+1)) (.one 6) fiB) (sg ls) [some m.d,some (.int k),some (.ref s.length),some (.ref (s.length+1)),some (.ref (s.length+2)),some (.int (j:Int)),y6,y7] (StF s M)=.ok (.next [some m.d,some (.int k),some (.ref s.length),some (.ref (s.length+1)),some (.ref (s.length+2)),some (.int (j:Int)),z6,z7]) (StF s M')
 | .stop M'=>qz (λ u=>chk s u []) (turn (aa0 P (n+1)) (.one 6) fiB) (sg ls) [some m.d,some (.int k),some (.ref s.length),some (.ref (s.length+1)),some (.ref (s.length+2)),some (.int (j:Int)),y6,y7] (StF s M)=.ok (.ret (.ref (s.length+1))) (StF s M')
 | .over=>∃ M',qz (λ u=>chk s u []) (turn (aa0 P (n+1)) (.one 6) fiB) (sg ls) [some m.d,some (.int k),some (.ref s.length),some (.ref (s.length+1)),some (.ref (s.length+2)),some (.int (j:Int)),y6,y7] (StF s M)=.ok (.ret .non) (StF s M')
theorem bA6 (n:Nat){m:Mc}(hm:m.Ok){k:Int}{s:Sto}{j:Nat}{e:List Nat×Rw}(he:e.2.length=m.R)(hw:e.1.length<=1000):∀(F:List Nat) (M:List (List Nat×Rw)) (y6 y7:Option D),M[j]?=some e->M.length<=300 ->
  FiR n P m k s j F M y6 y7 (inn (zm m k) (zc m k) e F M)
 | [],M,y6,y7,_,_=>by
  unfold inn
  exact⟨y6,y7,rfl⟩
 | x::F,M,y6,y7,hj,hM=>by
  unfold inn
  have a5:=hm.R1
  have a6:=hm.R5
  have g0:=bM1 s M
  have g1:=ca3 s M
  have g2:=bV7 s M
  have ir:ixM (.ref s.length) (.int (j:Int)) (StF s M)=.ok (.tup (za e.2)) (StF s M):=ai1 g0 (by unfold RsD;rw[aH,hj];rfl)
  have hl:=bo4 (P:=P) n hm he k x (StF s M)
  have Z:=bP4 a5 a6 (zR m k e.2 x) g2
  have J:bi .len [.ref s.length] (StF s M)=.ok (.int (M.length:Int)) (StF s M):=by rw[as8 g0,show(RsD M).length=M.length from aw ..]
  have a0:sg (x::F)=.str [x]::sg F:=rfl
  by_cases hm1:zm m k e.2 x∈M.map (·.2)
  ·rw[if_pos hm1]
   have et:turn (aa0 P (n+1)) (.one 6) fiB (.str [x]) [some m.d,some (.int k),some (.ref s.length),some (.ref (s.length+1)),some (.ref (s.length+2)),some (.int (j:Int)),y6,y7] (StF s M)=.ok (.next [some m.d,some (.int k),some (.ref s.length),some (.ref (s.length+1)),some (.ref (s.length+2)),some (.int (j:Int)),some (.str [x]),some (.tup (za (zm m k e.2 x)))]) (StF s M):=by
    simp -implicitDefEqProofs only[fiB]
    tbr_iter [turn,ir,hl,ai5,Z,hm1]
   have ih:=bA6 n hm (k:=k) (s:=s) he hw F M (some (.str [x])) (some (.tup (za (zm m k e.2 x)))) hj hM
   have fc:∀ r,qz (λ u=>chk s u []) (turn (aa0 P (n+1)) (.one 6) fiB) (sg F) [some m.d,some (.int k),some (.ref s.length),some (.ref (s.length+1)),some (.ref (s.length+2)),some (.int (j:Int)),some (.str [x]),some (.tup (za (zm m k e.2 x)))] (StF s M)=r->qz (λ u=>chk s u []) (turn (aa0 P (n+1)) (.one 6) fiB) (sg (x::F)) [some m.d,some (.int k),some (.ref s.length),some (.ref (s.length+1)),some (.ref (s.length+2)),some (.int (j:Int)),y6,y7] (StF s M)=r:=λ r h=>by
    rw[a0,zw (ok:=λ u=>chk s u []) rfl,et];exact h
   revert ih
   generalize inn (zm m k) (zc m k) e F M=B
   cases B with
   | more M'=>rintro⟨z6,z7,h⟩;exact⟨z6,z7,fc _ h⟩
   | stop M'=>intro h;exact fc _ h
   | over=>rintro⟨M',h⟩;exact⟨M',fc _ h⟩
  ·rw[if_neg hm1]
   by_cases h300:M.length=300
   ·rw[if_pos h300]
    have et:turn (aa0 P (n+1)) (.one 6) fiB (.str [x]) [some m.d,some (.int k),some (.ref s.length),some (.ref (s.length+1)),some (.ref (s.length+2)),some (.int (j:Int)),y6,y7] (StF s M)=.ok (.ret .non) (StF s M):=by
     simp -implicitDefEqProofs only[fiB]
     tbr_iter [turn,ir,hl,ai5,Z,hm1,J,show((M.length:Int)=300)=True from eq_true (by omega)]
    refine⟨M,?_⟩
    rw[a0,zw (ok:=λ u=>chk s u []) rfl,et]
    rfl
   ·rw[if_neg h300]
    have G:=bi8 a5 a6 (zR m k e.2 x) g2 hm1 (by rw[aw];unfold LIM;omega)
    have b1:(StF s M).set (s.length+2) (.dit (Sn (M.map (·.2)++[zm m k e.2 x])))=s++[.lst (RsD M),.lst (WsD M),.dit (Sn (M.map (·.2)++[zm m k e.2 x]))]:=by
     unfold StF;rw[bS,if_neg (by omega),show s.length+2 - s.length=2 by omega];rfl
    rw[b1]at G
    have gA:(s++[O.lst (RsD M),.lst (WsD M),.dit (Sn (M.map (·.2)++[zm m k e.2 x]))])[s.length]?=some (.lst (RsD M)):=by rw[aB (ak _),dE];rfl
    have a2:=qL (v:=.tup (za (zm m k e.2 x))) gA (by rw[show(RsD M).length=M.length from aw ..];unfold LIM;omega)
    have b2:(s++[O.lst (RsD M),.lst (WsD M),.dit (Sn (M.map (·.2)++[zm m k e.2 x]))]).set s.length (.lst (RsD M++[.tup (za (zm m k e.2 x))]))=s++[O.lst (RsD M++[.tup (za (zm m k e.2 x))]),.lst (WsD M),.dit (Sn (M.map (·.2)++[zm m k e.2 x]))]:=by
     rw[bS,if_neg (by omega),dE];rfl
    rw[b2]at a2
    have gB:(s++[O.lst (RsD M++[.tup (za (zm m k e.2 x))]),.lst (WsD M),.dit (Sn (M.map (·.2)++[zm m k e.2 x]))])[s.length+1]?=some (.lst (WsD M)):=by rw[aB (by omega),show s.length+1 - s.length=1 by omega];rfl
    have iw:ixM (.ref (s.length+1)) (.int (j:Int)) (s++[O.lst (RsD M++[.tup (za (zm m k e.2 x))]),.lst (WsD M),.dit (Sn (M.map (·.2)++[zm m k e.2 x]))])=.ok (.str e.1) (s++[O.lst (RsD M++[.tup (za (zm m k e.2 x))]),.lst (WsD M),.dit (Sn (M.map (·.2)++[zm m k e.2 x]))]):=ai1 gB (by unfold WsD;rw[aH,hj];rfl)
    have a3:=qL (v:=.str (e.1++[x])) gB (by rw[show(WsD M).length=M.length from aw ..];unfold LIM;omega)
    have b3:(s++[O.lst (RsD M++[.tup (za (zm m k e.2 x))]),.lst (WsD M),.dit (Sn (M.map (·.2)++[zm m k e.2 x]))]).set (s.length+1) (.lst (WsD M++[.str (e.1++[x])]))=StF s (M++[(e.1++[x],zm m k e.2 x)]):=by
     rw[bS,if_neg (by omega),show s.length+1 - s.length=1 by omega]
     unfold StF RsD WsD
     rw[bE,bE,bE];rfl
    rw[b3]at a3
    have a1:=aE6 (a:=e.1) (b:=[x]) (s:=s++[O.lst (RsD M++[.tup (za (zm m k e.2 x))]),.lst (WsD M),.dit (Sn (M.map (·.2)++[zm m k e.2 x]))]) (show e.1.length+[x].length<=LIM by unfold LIM;simp;omega)
    have a4:=bu5 (P:=P) n hm (zR m k e.2 x) (StF s (M++[(e.1++[x],zm m k e.2 x)]))
    have Y:=aT0 (bk7 m (zm m k e.2 x)) (k+1) (StF s (M++[(e.1++[x],zm m k e.2 x)]))
    cases hab:zc m k (zm m k e.2 x)with
    | true =>
     rw[if_pos rfl]
     rw[show decide (bk7 m (zm m k e.2 x)=some (k+1))=true from hab]at Y
     have et:turn (aa0 P (n+1)) (.one 6) fiB (.str [x]) [some m.d,some (.int k),some (.ref s.length),some (.ref (s.length+1)),some (.ref (s.length+2)),some (.int (j:Int)),y6,y7] (StF s M)=.ok (.ret (.ref (s.length+1))) (StF s (M++[(e.1++[x],zm m k e.2 x)])):=by
      simp -implicitDefEqProofs only[fiB]
      tbr_iter [turn,ir,hl,ai5,Z,hm1,J,show((M.length:Int)=300)=False from eq_false (by omega),G,a2,iw,a1,a3,a4,Y]
     show qz _ _ _ _ _=_
     rw[a0,zw (ok:=λ u=>chk s u []) rfl,et]
     rfl
    | false =>
     rw[if_neg (by nofun)]
     rw[show decide (bk7 m (zm m k e.2 x)=some (k+1))=false from hab]at Y
     have et:turn (aa0 P (n+1)) (.one 6) fiB (.str [x]) [some m.d,some (.int k),some (.ref s.length),some (.ref (s.length+1)),some (.ref (s.length+2)),some (.int (j:Int)),y6,y7] (StF s M)=.ok (.next [some m.d,some (.int k),some (.ref s.length),some (.ref (s.length+1)),some (.ref (s.length+2)),some (.int (j:Int)),some (.str [x]),some (.tup (za (zm m k e.2 x)))]) (StF s (M++[(e.1++[x],zm m k e.2 x)])):=by
      simp -implicitDefEqProofs only[fiB]
      tbr_iter [turn,ir,hl,ai5,Z,hm1,J,show((M.length:Int)=300)=False from eq_false (by omega),G,a2,iw,a1,a3,a4,Y]
     have b0:j<M.length:=(ah.mp hj).1
     have ih:=bA6 n hm (k:=k) (s:=s) he hw F (M++[(e.1++[x],zm m k e.2 x)]) (some (.str [x])) (some (.tup (za (zm m k e.2 x)))) (by rw[aL b0];exact hj) (by rw[aE];show M.length+1<=300;omega)
     have fc:∀ r,qz (λ u=>chk s u []) (turn (aa0 P (n+1)) (.one 6) fiB) (sg F) [some m.d,some (.int k),some (.ref s.length),some (.ref (s.length+1)),some (.ref (s.length+2)),some (.int (j:Int)),some (.str [x]),some (.tup (za (zm m k e.2 x)))] (StF s (M++[(e.1++[x],zm m k e.2 x)]))=r->qz (λ u=>chk s u []) (turn (aa0 P (n+1)) (.one 6) fiB) (sg (x::F)) [some m.d,some (.int k),some (.ref s.length),some (.ref (s.length+1)),some (.ref (s.length+2)),some (.int (j:Int)),y6,y7] (StF s M)=r:=λ r h=>by
      rw[a0,zw (ok:=λ u=>chk s u []) rfl,et];exact h
     revert ih
     generalize inn (zm m k) (zc m k) e F (M++[(e.1++[x],zm m k e.2 x)])=B
     cases B with
     | more M'=>rintro⟨z6,z7,h⟩;exact⟨z6,z7,fc _ h⟩
     | stop M'=>intro h;exact fc _ h
     | over=>rintro⟨M',h⟩;exact⟨M',fc _ h⟩
noncomputable def FoR (n:Nat)(P:Pr)(m:Mc)(k:Int)(s:Sto)(j:Nat)(M:List (List Nat×Rw))(y5 y6 y7:Option D):Bres->Prop
 | .more M'=>(∃ z5 z6 z7,qz (λ u=>chk s u []) (turn (aa0 P (n+1)) (.one 5) foB) (zW (j:Int) 300) [some m.d,some (.int k),some (.ref s.length),some (.ref (s.length+1)),some (.ref (s.length+2)),y5,y6,y7] (StF s M)=.ok (.next [some m.d,some (.int k),some (.ref s.length),some (.ref (s.length+1)),some (.ref (s.length+2)),z5,z6,z7]) (StF s M'))\/qz (λ u=>chk s u []) (turn (aa0 P (n+1)) (.one 5) foB) (zW (j:Int) 300) [some m.d,some (.int k),some (.ref s.length),some (.ref (s.length+1)),some (.ref (s.length+2)),y5,y6,y7] (StF s M)=.ok (.ret (.ref (s.length+1))) (StF s M')
 | .stop M'=>qz (λ u=>chk s u []) (turn (aa0 P (n+1)) (.one 5) foB) (zW (j:Int) 300) [some m.d,some (.int k),some (.ref s.length),some (.ref (s.length+1)),some (.ref (s.length+2)),y5,y6,y7] (StF s M)=.ok (.ret (.ref (s.length+1))) (StF s M')
 | .over=>∃ M',qz (λ u=>chk s u []) (turn (aa0 P (n+1)) (.one 5) foB) (zW (j:Int) 300) [some m.d,some (.int k),some (.ref s.length),some (.ref (s.length+1)),some (.ref (s.length+2)),y5,y6,y7] (StF s M)=.ok (.ret .non) (StF s M')
theorem bF6 (n:Nat){m:Mc}(hm:m.Ok){k:Int}{s:Sto}:∀(r j:Nat) (M:List (List Nat×Rw)) (y5 y6 y7:Option D),r+j=300->MOk (zm m k) (zc m k) m.R (zB m) j M->(∀ e∈M,zc m k e.2=false) ->
  FoR n P m k s j M y5 y6 y7 (bfs (zm m k) (zc m k) (qy m.L) (r+1) j M)
 | 0,j,M,y5,y6,y7,hr,h,hn=>by
  rw[aI3]
  have:M[j]?=none:=bH (by have:=h.len;omega)
  rw[this]
  refine .inl ⟨y5,y6,y7,?_⟩
  rw[bf6 (by omega)];rfl
 | r+1,j,M,y5,y6,y7,hr,h,hn=>by
  rw[aI3]
  have Y:=hm.L3
  have Z:zW (j:Int) 300=.int (j:Int)::zW ((j+1:Nat):Int) 300:=by rw[aR2 (by omega)];rfl
  have g0:=bM1 s M
  have G:bi .len [.ref s.length] (StF s M)=.ok (.int (M.length:Int)) (StF s M):=by rw[as8 g0,show(RsD M).length=M.length from aw ..]
  cases he:M[j]? with
  | none =>
   have hj:j=M.length:=by
    have:=h.hat
    rcases gZ j M.length with z|z
    ·rw[aj z]at he;cases he
    ·omega
   refine .inr ?_
   have et:turn (aa0 P (n+1)) (.one 5) foB (.int (j:Int)) [some m.d,some (.int k),some (.ref s.length),some (.ref (s.length+1)),some (.ref (s.length+2)),y5,y6,y7] (StF s M)=.ok (.ret (.ref (s.length+1))) (StF s M):=by
    simp -implicitDefEqProofs only[foB]
    tbr_iter [turn,G,show((j:Int)=(M.length:Int))=True from eq_true (by omega)]
   rw[Z,zw (ok:=λ u=>chk s u []) rfl,et]
   rfl
  | some e =>
   have hj:j<M.length:=(ah.mp he).1
   have a0:=a7 he
   have a1:=h.wl e a0
   have h':MOk (zm m k) (zc m k) m.R (zB m) (j+1) M:=⟨h.len,h.pos,hj,h.sh,h.fold,λ d hd=>f9 (h.wl d hd)⟩
   have sp:=af9 (f:=zm m k) (ab:=zc m k) (zR m k) (k:=j+1) (e:=e) (by omega) (qy m.L) M h' a0 hn
   have J:=bA6 (P:=P) n hm (k:=k) (s:=s) (j:=j) (e:=e) (h.sh e a0) (by omega) (qy m.L) M y6 y7 he h.len
   have sq:aO2 (.str (qy m.L)) (StF s M)=.ok ⟨sg (qy m.L),[]⟩ (StF s M):=rfl
   show FoR n P m k s j M y5 y6 y7 (match inn (zm m k) (zc m k) e (qy m.L) M with
     | .more F=>bfs (zm m k) (zc m k) (qy m.L) (r+1) (j+1) F
     | .stop F=>.stop F
     | .over=>.over)
   revert sp J
   cases hB:inn (zm m k) (zc m k) e (qy m.L) M with
   | more F =>
    rintro⟨s1,s2,s3⟩ ⟨z6,z7,J⟩
    have J:qz (λ u=>chk (StF s M) u []) (turn (aa0 P (n+1)) (.one 6) fiB) (sg (qy m.L)) [some m.d,some (.int k),some (.ref s.length),some (.ref (s.length+1)),some (.ref (s.length+2)),some (.int (j:Int)),y6,y7] (StF s M)=_:=J
    have et:turn (aa0 P (n+1)) (.one 5) foB (.int (j:Int)) [some m.d,some (.int k),some (.ref s.length),some (.ref (s.length+1)),some (.ref (s.length+2)),y5,y6,y7] (StF s M)=.ok (.next [some m.d,some (.int k),some (.ref s.length),some (.ref (s.length+1)),some (.ref (s.length+2)),some (.int (j:Int)),z6,z7]) (StF s F):=by
     simp -implicitDefEqProofs only[foB]
     tbr_iter [turn,G,show((j:Int)=(M.length:Int))=False from eq_false (by omega),aR9,ixL,aV5 Y,am4 Y,sq,J]
    have ih:=bF6 n hm (k:=k) (s:=s) r (j+1) F (some (.int (j:Int))) z6 z7 (by omega) s1 s2
    have fc:∀ x,qz (λ u=>chk s u []) (turn (aa0 P (n+1)) (.one 5) foB) (zW ((j+1:Nat):Int) 300) [some m.d,some (.int k),some (.ref s.length),some (.ref (s.length+1)),some (.ref (s.length+2)),some (.int (j:Int)),z6,z7] (StF s F)=x->qz (λ u=>chk s u []) (turn (aa0 P (n+1)) (.one 5) foB) (zW (j:Int) 300) [some m.d,some (.int k),some (.ref s.length),some (.ref (s.length+1)),some (.ref (s.length+2)),y5,y6,y7] (StF s M)=x:=λ x hx=>by
     rw[Z,zw (ok:=λ u=>chk s u []) rfl,et];exact hx
    show FoR n P m k s j M y5 y6 y7 (bfs (zm m k) (zc m k) (qy m.L) (r+1) (j+1) F)
    revert ih
    generalize bfs (zm m k) (zc m k) (qy m.L) (r+1) (j+1) F=B
    cases B with
    | more M2 =>
     rintro(⟨a,b,c,hh⟩|hh)
     ·exact .inl ⟨a,b,c,fc _ hh⟩
     ·exact .inr (fc _ hh)
    | stop M2=>intro hh;exact fc _ hh
    | over=>rintro⟨M2,hh⟩;exact⟨M2,fc _ hh⟩
   | stop F =>
    rintro _ J
    have J:qz (λ u=>chk (StF s M) u []) (turn (aa0 P (n+1)) (.one 6) fiB) (sg (qy m.L)) [some m.d,some (.int k),some (.ref s.length),some (.ref (s.length+1)),some (.ref (s.length+2)),some (.int (j:Int)),y6,y7] (StF s M)=_:=J
    have et:turn (aa0 P (n+1)) (.one 5) foB (.int (j:Int)) [some m.d,some (.int k),some (.ref s.length),some (.ref (s.length+1)),some (.ref (s.length+2)),y5,y6,y7] (StF s M)=.ok (.ret (.ref (s.length+1))) (StF s F):=by
     simp -implicitDefEqProofs only[foB]
     tbr_iter [turn,G,show((j:Int)=(M.length:Int))=False from eq_false (by omega),aR9,ixL,aV5 Y,am4 Y,sq,J]
    show qz _ _ _ _ _=_
    rw[Z,zw (ok:=λ u=>chk s u []) rfl,et]
    rfl
   | over =>
    rintro _ ⟨F,J⟩
    have J:qz (λ u=>chk (StF s M) u []) (turn (aa0 P (n+1)) (.one 6) fiB) (sg (qy m.L)) [some m.d,some (.int k),some (.ref s.length),some (.ref (s.length+1)),some (.ref (s.length+2)),some (.int (j:Int)),y6,y7] (StF s M)=_:=J
    have et:turn (aa0 P (n+1)) (.one 5) foB (.int (j:Int)) [some m.d,some (.int k),some (.ref s.length),some (.ref (s.length+1)),some (.ref (s.length+2)),y5,y6,y7] (StF s M)=.ok (.ret .non) (StF s F):=by
     simp -implicitDefEqProofs only[foB]
     tbr_iter [turn,G,show((j:Int)=(M.length:Int))=False from eq_false (by omega),aR9,ixL,aV5 Y,am4 Y,sq,J]
    refine⟨F,?_⟩
    rw[Z,zw (ok:=λ u=>chk s u []) rfl,et]
    rfl
noncomputable def FdO (P:Pr)(n:Nat)(m:Mc)(k:Int)(s:Sto):Bres->Prop
 | .more M=>(aa0 P (n+2)).call "_law_found" [m.d,.int k] s=.ok (.ref s.length) (s++[.lst (WsD M)])
 | .stop M=>(aa0 P (n+2)).call "_law_found" [m.d,.int k] s=.ok (.ref s.length) (s++[.lst (WsD M)])
 | .over=>(aa0 P (n+2)).call "_law_found" [m.d,.int k] s=.ok .non s
theorem bh8 (n:Nat){m:Mc}(F:m.Ok){k:Int}(hk:0<=k)(s:Sto):FdO P n m k s (Bk m k):=by
 have e0:(aa0 P (n+2)).call "_law_found" [m.d,.int k] s=_:=ze ad7 (n:=n+1) rfl
 have J:=F.R1
 have Z:=F.R5
 have Y:(D.tup (za (zB m))).keyT=true:=aG5 J Z (by unfold zB;simp)
 have f1:=aX1 (P:=P) n F s
 have go:=bF6 (P:=P) n F (k:=k) (s:=s) 300 0 [([],zB m)] none none none (by decide) (bU8 m k) (λ e he=>by rw[aI.mp he];exact as4 hk)
 have hb:ad7.body=.cons (.asg (.one 2) (.lst (.cons (.call "_law_first" (.ex (.var 0) .nil)) .nil))) (.cons (.asg (.one 3) (.lst (.cons (.cst (.str [])) .nil))) (.cons (.asg (.one 4) (.dicU (.ix (.var 2) (.cst (.int 0))) (.cst (.bl true)))) (.cons (.for_ (.one 5) (.rng1 (.cst (.int 300))) foB) (.cons (.ret (.var 3)) .nil)))):=rfl
 rw[hb,show(cK some [m.d,.int k]++aq ad7.vs none)=[some m.d,some (.int k),none,none,none,none,none,none]from rfl]at e0
 have l1:(s++[O.lst [D.tup (za (zB m))]]).length=s.length+1:=by simp
 have l2:(s++[O.lst [D.tup (za (zB m))]]++[O.lst [D.str []]]).length=s.length+2:=by simp
 have i0:ixM (.ref s.length) (.int 0) (s++[O.lst [D.tup (za (zB m))]]++[O.lst [D.str []]]++[O.dit []])=.ok (.tup (za (zB m))) (s++[O.lst [D.tup (za (zB m))]]++[O.lst [D.str []]]++[O.dit []]):=ai1 (j:=0) (qD (qD bC2)) rfl
 have g1:(s++[O.lst [D.tup (za (zB m))]]++[O.lst [D.str []]]++[O.dit []])[s.length+2]?=some (.dit []):=by rw[<-l2];exact bC2
 have g2:(s++[O.lst [D.tup (za (zB m))]]++[O.lst [D.str []]]++[O.dit []]).set (s.length+2) (.dit [(.tup (za (zB m)),.bl true)])=StF s [([],zB m)]:=by
  rw[dk,dk,bS,if_neg (by omega),show s.length+2 - s.length=2 by omega];rfl
 have hr:∀ S,be9 (.int 300) S=.ok ⟨zW 0 300,[]⟩ S:=λ S=>qC (by unfold W62;omega) (by unfold W62;omega)
 have main:∀ X,qz (λ u=>chk s u []) (turn (aa0 P (n+1)) (.one 5) foB) (zW ((0:Nat):Int) 300) [some m.d,some (.int k),some (.ref s.length),some (.ref (s.length+1)),some (.ref (s.length+2)),none,none,none] (StF s [([],zB m)])=X->(aa0 P (n+2)).call "_law_found" [m.d,.int k] s=(X.bind (nxt (aa0 P (n+1)) (.cons (.ret (.var 3)) .nil))).bind (fin s):=λ X G=>by
  have G:qz (λ u=>chk (StF s [([],zB m)]) u []) (turn (aa0 P (n+1)) (.one 5) foB) (zW 0 300) [some m.d,some (.int k),some (.ref s.length),some (.ref (s.length+1)),some (.ref (s.length+2)),none,none,none] (StF s [([],zB m)])=X:=G
  rw[e0]
  tbr_iter [f1,l1,by8,l2,i0,Y,g1,true_and,g2,hr,G]
 have ret:∀ M,zq s (.ref (s.length+1)) (StF s M)=.ok (.ref s.length) (s++[.lst (WsD M)]):=λ M=>by
  have:=ak4 (s:=s) (t:=[.lst (RsD M)]) (u:=[.dit (Sn (M.map (·.2)))]) (o:=.lst (WsD M)) (by
   unfold O.bnd
   refine zr (λ d hd n=>?_) _
   obtain⟨e,_,rfl⟩:=aP.mp hd
   rfl)
  exact this
 have nn:∀ M,zq s .non (StF s M)=.ok .non s:=λ M=>zG (λ _=>rfl) (by nofun)
 show FdO P n m k s (Bk m k)
 unfold Bk
 revert go
 generalize bfs (zm m k) (zc m k) (qy m.L) (300+1) 0 [([],zB m)]=B
 cases B with
 | more M =>
  rintro(⟨a,b,c,h⟩|h)
  ·show _=_
   rw[main _ h]
   tbr_iter []
   exact ret M
  ·show _=_
   rw[main _ h]
   tbr_iter []
   exact ret M
 | stop M =>
  intro h
  show _=_
  rw[main _ h]
  tbr_iter []
  exact ret M
 | over =>
  rintro⟨M,h⟩
  show _=_
  rw[main _ h]
  tbr_iter []
  exact nn M
end
def McS (s:Sto)(r:Nat)(x:R D):Prop:=∃(m:Mc) (b:Nat×Nat),m.Ok/\m.ds.length<=30/\x=.ok m.d (s.set r (zD b))
theorem aB4 {P : Pr} [Has P ac6] [Has P ad5] [Has P ac1] (n : Nat) {s : Sto} {r : Nat} (hs : ∃ b, s[r]? = some (zD b)) : McS s r ((aa0 P (n + 3)).call "_law_machine" [.ref r] s) := by
  have e0 : (aa0 P (n + 3)).call "_law_machine" [.ref r] s = _ := ze ac1 (n := n + 2) rfl
  have hr := bk8 hs
  obtain⟨a, b1, ha, e1⟩ := qB (P := P) (n + 1) hs 3 (by decide) (by decide)
  obtain⟨c, b2, hc, e2⟩ := qB (P := P) (n + 1) (aq9 (b := b1) hr) 5 (by decide) (by decide)
  rw[bV]at e2
  obtain⟨m1, b3, hm1, e3⟩ := qB (P := P) (n + 1) (aq9 (b := b2) hr) 13 (by decide) (by decide)
  rw[bV]at e3
  obtain⟨m2, b4, hm2, e4⟩ := qB (P := P) (n + 1) (aq9 (b := b3) hr) 8 (by decide) (by decide)
  rw[bV]at e4
  obtain⟨m3, b5, hm3, e5⟩ := qB (P := P) (n + 1) (aq9 (b := b4) hr) 31 (by decide) (by decide)
  rw[bV]at e5
  rw[e0]
  simp -implicitDefEqProofs [ac1, e1, e2, e3, e4]
  obtain ⟨many, bb, hmany, hif⟩ : ∃ (many : Nat) (bb : Nat × Nat), many <= 30 /\ (if (m2 : Int) = 7 then
                      ((aa0 P (n + 2)).call "_law_take" [D.ref r, D.int 31] (List.set s r (zD b4))).bind λ d s =>
                        R.ok
                          (Ct.next [some (D.ref r), some (D.int (1 + ↑a)), some (D.int (1 + ↑c)), some d, none, none]) s
                    else
                      R.ok
                        (Ct.next
                          [some (D.ref r), some (D.int (1 + ↑a)), some (D.int (1 + ↑c)), some (D.int ↑m1), none, none])
                        (List.set s r (zD b4))) = .ok (.next [some (.ref r), some (.int (1 + a)), some (.int (1 + c)), some (.int many), none, none]) (s.set r (zD bb)) := by
    by_cases h7 : (m2 : Int) = 7
    · exact⟨m3, b5, by omega, by rw[if_pos h7, e5]; rfl⟩
    · exact⟨m1, b4, by omega, by rw[if_neg h7]⟩
  rw[hif]
  simp -implicitDefEqProofs
  rw[qC (by unfold W62; omega) (by unfold W62; omega)]
  simp only[R.bind_ok]
  refine at3 (W := McS s r) (λ j ρ u => ∃(b : Nat × Nat) (l : List Dr) (x : Option D), (∀ d ∈ l, d.Ok ⟨a + 1, c + 1, [], [], []⟩) /\ l.length = j /\ ρ = [some (.ref r), some (.int (1 + a)), some (.int (1 + c)), some (.int many), some (.ref s.length), x] /\ u = s.set r (zD b) ++ [.lst (l.map Dr.d)]) ⟨bb, [], none, by simp, rfl, rfl, rfl⟩ (λ _ _ _ _ _ => rfl) ?_ ?_
  · rintro j d ρ u hj ⟨b, l, x, hl, hlen, rfl, rfl⟩
    obtain⟨hj2, rfl⟩ := ai7 hj
    obtain⟨k1, c1, hk1, f1⟩ := as2 (P := P) (n + 1) (t := [.lst (l.map Dr.d)]) hr b (1 + c) (by omega) (as0 (by omega))
    obtain⟨k2, c2, hk2, f2⟩ := as2 (P := P) (n + 1) (t := [.lst (l.map Dr.d)]) hr c1 (1 + a) (by omega) (as0 (by omega))
    obtain⟨k3, c3, hk3, f3⟩ := as2 (P := P) (n + 1) (t := [.lst (l.map Dr.d)]) hr c2 (1 + c) (by omega) (as0 (by omega))
    obtain⟨k4, c4, hk4, f4⟩ := as2 (P := P) (n + 1) (t := [.lst (l.map Dr.d)]) hr c3 4 (by decide) (by decide)
    refine aN2 (ρ := [some (.ref r), some (.int (1 + a)), some (.int (1 + c)), some (.int many), some (.ref s.length), some (.int j)]) (s := s.set r (zD c4) ++ [.lst ((l ++ [(⟨k1, 97 + k2, k3, k4⟩ : Dr)]).map Dr.d)]) ?_ ⟨c4, l ++ [(⟨k1, 97 + k2, k3, k4⟩ : Dr)], _, ?_, ?_, rfl, rfl⟩
    · simp -implicitDefEqProofs [turn, f1, f2, f3, f4, bO1 (show k2 < 3 by omega)]
      rw[bH4 (by unfold LIM; simp; omega)]
      rfl
    · intro d hd
      rcases aW.mp hd with h|h
      · exact hl d h
      · rw[aI.mp h]; constructor <;> simp only <;> omega
    · simp[hlen]
  · rintro ρ u ⟨b, l, x, hl, hlen, rfl, rfl⟩
    obtain⟨l1, c1, g1, f1⟩ := aI5 (P := P) n (s := s.set r (zD b) ++ [.lst (l.map Dr.d)]) (r := r) ⟨b, qD (qi hr)⟩ (c + 1) (by omega)
    rw[ar4 (by rw[bp]; exact hr), bV]at f1
    obtain⟨l2, c2, g2, f2⟩ := aI5 (P := P) n (s := s.set r (zD c1) ++ [.lst (l.map Dr.d)]) (r := r) ⟨c1, qD (qi hr)⟩ (c + 1) (by omega)
    rw[ar4 (by rw[bp]; exact hr), bV]at f2
    rw[show((c + 1 : Nat) : Int) = 1 + (c : Int)by omega]at f1 f2
    have hl3 : (s.set r (zD c2) ++ [O.lst (l.map Dr.d)])[s.length]? = some (.lst (l.map Dr.d)) := by rw[aB (by simp)]; simp
    have hll : l.length <= 30 := by
      rw[hlen]; simp[zW]; omega
    simp -implicitDefEqProofs [f1, f2, bj7, hl3, mk]
    refine⟨⟨a + 1, c + 1, l1, l2, l⟩, c2, ⟨by simp, by simp; omega, by simp, by simp; omega, g1, g2, λ x hx => ?_, am hll (by decide)⟩, hll, ?_⟩
    · have := hl x hx
      exact⟨this.a, this.l, this.b, this.t⟩
    · rw[show((1 : Int) + (a : Int)) = ((a + 1 : Nat) : Int)by omega, show((1 : Int) + (c : Int)) = ((c + 1 : Nat) : Int)by omega]
      exact al4 (bJ6 ⟨a + 1, c + 1, l1, l2, l⟩) (by nofun) rfl
noncomputable def aa2:Tf:=⟨3,1,(.cons (.ite (.cmp .eq (.var 2) (.cst (.int 0))) (.cons (.ex (.call "rows_met" (.ex (.var 0) (.ex (.var 1) .nil)))) .nil) (.cons (.ex (.call "above" (.ex (.var 0) (.ex (.var 1) .nil)))) .nil)) .nil),.iteE (.cmp .eq (.var 2) (.cst (.int 0))) (.call "rows_met" (.ex (.var 0) (.ex (.var 1) .nil))) (.call "above" (.ex (.var 0) (.ex (.var 1) .nil))), "TooMuch",3,.sup "TollError" (.iffN (.isi ["NoMaking", "NoName", "NoPair", "NoPaper", "NoRow", "NoText", "NotSteady", "TooLong"]) (.aoN (.one "TooMuch") .ve)),(.cons (.ret (.cst (.bl false))) .nil)⟩
noncomputable abbrev aY1:List String:=["NoMaking", "NoName", "NoPair", "NoPaper", "NoRow", "NoText", "NotSteady", "TooLong", "TooMuch", "TollError"]
theorem bq8 {F:Fns}{c:E}{a r:XB}{ρ:Env}{s s1:Sto}{b:Bool}(h:ev F c ρ s=.ok (.bl b) s1):xB F (.iteE c a r) ρ s=if b=true then xB F a ρ s1 else xB F r ρ s1:=by
 show(match ev F c ρ s with|.ok (.bl b) s1=>if b then xB F a ρ s1 else xB F r ρ s1|_=>none)=_
 rw[h]
theorem cg8 (s:Sto)(w:List Nat):∀ n,eqv s n (.str w) (.str w)=some true
 | 0=>by show some (w==w)=_;simp
 | n+1=>by show some (w==w)=_;simp
theorem bj1 (s:Sto)(n:Nat):∀ M:List (List Nat×Rw),eqL (eqv s n) (WsD M) (WsD M)=some true
 | []=>rfl
 | e::M=>by
  show(match eqv s n (.str e.1) (.str e.1),eqL (eqv s n) (WsD M) (WsD M)with
   | some x,some y=>some (x&&y)
   | _,_=>none)=_
  rw[cg8,bj1 s n M];rfl
theorem bX5 {s:Sto}{a b:Nat}{M:List (List Nat×Rw)}(ha:s[a]?=some (.lst (WsD M)))(hb:s[b]?=some (.lst (WsD M))):qp .eq (.ref a) (.ref b) s=.ok (.bl true) s:=by
 have e:eqv s DEEP (.ref a) (.ref b)=some true:=by
  show(match s[a]?,s[b]? with
   | some (.lst l),some (.lst m)=>if l.length=m.length then eqL (eqv s 29) l m else some false
   | _,_=>none)=_
  rw[ha,hb]
  show(if(WsD M).length=(WsD M).length then eqL (eqv s 29) (WsD M) (WsD M)else some false)=_
  rw[if_pos rfl,bj1]
 show(match eqv s DEEP (.ref a) (.ref b)with|some r=>R.ok (D.bl r) s|none=>.bad)=_
 rw[e]
theorem bM0 (a b:Bool)(s:Sto):qp .ne (.bl a) (.bl b) s=.ok (.bl (!(a==b))) s:=rfl
noncomputable def aH6:Bres->Bool
 | .over=>true|_=>false
section
variable {P:Pr} [Has P ab6] [Has P ac0] [Has P ab0] [Has P aa9] [Has P ab3] [Has P ab2] [Has P af0] [Has P ab4] [Has P aa3] [Has P ah2] [Has P ab5] [Has P aa7] [HasC P "LETTERS" (.tup aO3)] [HasC P "MOST_ROWS" (.int 300)] [Has P aa5] [Has P aa4] [HasX P "meet_behind" aa6] [HasE P "TooMuch" []] [Has P ab8] [HasX P "rows_met" ab7] [Has P ad8] [HasX P "above" ad6] [HasT P "_law_refused" aa2] [HasE P "TooMuch" aY1]
theorem ah8 (n:Nat){m:Mc}(hm:m.Ok){k:Int}(hk:0<=k)(b:Bool)(s:Sto):(aa0 P (n+7)).call "_law_refused" [m.d,.int k,.int (if b then 0 else 1)] s=.ok (.bl (aH6 (Bk m k))) s:=by
 have e0:(aa0 P (n+7)).call "_law_refused" [m.d,.int k,.int (if b then 0 else 1)] s=_:=bv2 aa2 (n:=n+6) rfl
 have ab:=bh4 (P:=P) n hm hk s
 have rm:=qU (P:=P) (n+1) hm hk s
 have Y:∀ Z,ag6 (aa0 P (n+6)) (.ex (.var 0) (.ex (.var 1) .nil)) [some m.d,some (.int k),some (.int (if b then 0 else 1)),Z] s=.ok [m.d,.int k] s:=λ Z=>by tbr_iter []
 have ec:ev (aa0 P (n+6)) (.cmp .eq (.var 2) (.cst (.int 0))) [some m.d,some (.int k),some (.int (if b then 0 else 1)),none] s=.ok (.bl b) s:=by
  cases b
  ·tbr_iter [];rfl
  ·tbr_iter []
 have xe:xB (aa0 P (n+6)) aa2.xb ([m.d,.int k,.int (if b then 0 else 1)].map some++aq aa2.vs none) s=if b=true then(aa0 P (n+6)).xcall "rows_met" [m.d,.int k] s else(aa0 P (n+6)).xcall "above" [m.d,.int k] s:=by
  show xB (aa0 P (n+6)) (.iteE _ (.call "rows_met" _) (.call "above" _)) [some m.d,some (.int k),some (.int (if b then 0 else 1)),none] s=_
  rw[bq8 ec,at8 (Y none),at8 (Y none)]
 have B:∀(T:Sto) (d:D),(if b=true then(aa0 P (n+6)).call "rows_met" [m.d,.int k] s else(aa0 P (n+6)).call "above" [m.d,.int k] s)=.ok d (s++T)->(if b=true then(aa0 P (n+6)).xcall "rows_met" [m.d,.int k] s else(aa0 P (n+6)).xcall "above" [m.d,.int k] s)=none->(aa0 P (n+7)).call "_law_refused" [m.d,.int k,.int (if b then 0 else 1)] s=.ok (.bl false) s:=λ T d F G=>by
  rw[e0]
  unfold bf9
  rw[xe,G]
  show((exs (aa0 P (n+6)) (.cons (.ite (.cmp .eq (.var 2) (.cst (.int 0))) (.cons (.ex (.call "rows_met" (.ex (.var 0) (.ex (.var 1) .nil)))) .nil) (.cons (.ex (.call "above" (.ex (.var 0) (.ex (.var 1) .nil)))) .nil)) .nil) [some m.d,some (.int k),some (.int (if b then 0 else 1)),none] s).bind _)=_
  have eb:exs (aa0 P (n+6)) (.cons (.ite (.cmp .eq (.var 2) (.cst (.int 0))) (.cons (.ex (.call "rows_met" (.ex (.var 0) (.ex (.var 1) .nil)))) .nil) (.cons (.ex (.call "above" (.ex (.var 0) (.ex (.var 1) .nil)))) .nil)) .nil) [some m.d,some (.int k),some (.int (if b then 0 else 1)),none] s=.ok (.next [some m.d,some (.int k),some (.int (if b then 0 else 1)),none]) (s++T):=by
   rw[qf,ex_ite,ec]
   cases b with
   | true =>
    rw[if_pos rfl]at F
    tbr_iter [F]
   | false =>
    rw[if_neg (by nofun)]at F
    tbr_iter [F]
  rw[eb,show aa2.tl=.cons (.ret (.cst (.bl false))) .nil from rfl]
  tbr_iter []
  exact zG (λ _=>rfl) (by nofun)
 revert ab rm
 cases hB:Bk m k with
 | more M =>
  rintro⟨F,G⟩ ⟨h3,J⟩
  have h3:(aa0 P (n+6)).call "rows_met" [m.d,.int k] s=_:=h3
  have J:(aa0 P (n+6)).xcall "rows_met" [m.d,.int k] s=_:=J
  show _=R.ok (D.bl false) s
  cases b with
  | true=>exact B [.lst (MtD M)] (.ref s.length) (by rw[if_pos rfl];exact h3) (by rw[if_pos rfl];exact J)
  | false=>exact B [] .non (by rw[if_neg (by nofun),bh];exact F) (by rw[if_neg (by nofun)];exact G)
 | stop M =>
  rintro⟨⟨A,z,e,F⟩,G⟩ ⟨h3,J⟩
  have h3:(aa0 P (n+6)).call "rows_met" [m.d,.int k] s=_:=h3
  have J:(aa0 P (n+6)).xcall "rows_met" [m.d,.int k] s=_:=J
  show _=R.ok (D.bl false) s
  cases b with
  | true=>exact B [.lst (MtD M)] (.ref s.length) (by rw[if_pos rfl];exact h3) (by rw[if_pos rfl];exact J)
  | false=>exact B [] (.str z.1) (by rw[if_neg (by nofun),bh];exact F) (by rw[if_neg (by nofun)];exact G)
 | over =>
  rintro⟨T1,F⟩ ⟨T2,G⟩
  have G:(aa0 P (n+6)).xcall "rows_met" [m.d,.int k] s=_:=G
  show _=R.ok (D.bl true) s
  have hc:(aa0 P (n+6)).xc "TooMuch"=true:=by rw[(bB2 (P:=P)).1];exact HasE.at_ (ts:=[])
  have hok:aa2.h.ok (aa0 P (n+6)).xt=true:=by
   rw[(bB2 (P:=P)).2]
   have h:=HasE.ts (P:=P) (c := "TooMuch") (ts:=aY1)
   have q:∀ t∈aY1,P.xt t=true:=h
   simp only[aY1,aA,bN,or_false,forall_eq_or_imp,forall_eq]at q
   simp[aa2,Hd.ok,HT.ok,q]
  have hv:aa2.h.vD "TooMuch"=.bl true:=by
   simp[aa2,Hd.vD,HT.val,subC]
  have go:∀ T,(if b=true then(aa0 P (n+6)).xcall "rows_met" [m.d,.int k] s else(aa0 P (n+6)).xcall "above" [m.d,.int k] s)=some ("TooMuch",s++T)->(aa0 P (n+7)).call "_law_refused" [m.d,.int k,.int (if b then 0 else 1)] s=.ok (.bl true) s:=λ T h=>by
   rw[e0]
   unfold bf9
   rw[xe,h]
   show(if "TooMuch"=aa2.c/\(aa0 P (n+6)).xc "TooMuch"=true/\aa2.h.ok (aa0 P (n+6)).xt=true then _ else _)=_
   rw[if_pos ⟨rfl,hc,hok⟩]
   show zq s (aa2.h.vD "TooMuch") (s++T)=_
   rw[hv]
   exact zG (λ _=>rfl) (by nofun)
  cases b with
  | true=>exact go T2 (by rw[if_pos rfl];exact G)
  | false=>exact go T1 (by rw[if_neg (by nofun)];exact F)
end
noncomputable def aZ6 (m:Mc):Mc:=⟨m.L,m.R,(aU m.R).filter λ k=>decide (k=0)||decide (k∈m.bg),m.en,m.ds++[⟨0,97,0,1⟩]⟩
theorem bw6 {m:Mc}(B:m.Ok)(hd:m.ds.length<=30):(aZ6 m).Ok:=by
 refine⟨B.L1,B.L3,B.R1,B.R5,⟨λ k hk=>cA.mp (dP.mp hk).1,g6.filter _⟩,B.en,λ x hx=>?_,?_⟩
 ·have G:=B.L1
  have F:=B.R1
  rcases aW.mp hx with z|z
  ·have:=B.ds.1 x z
   exact⟨this.a,this.l,this.b,this.t⟩
  ·rw[aI.mp z]
   exact⟨F,⟨ak _,by show 97<97+m.L;omega⟩,F,by decide⟩
 ·show(m.ds++[_]).length<=75
  rw[aE]
  show m.ds.length+1<=75
  omega
theorem ak0 {α β:Type}(p:α->Bool)(g:α->β):∀ l:List α,l.filterMap (λ j=>if p j=true then some (g j)else none)=(l.filter p).map g
 | []=>rfl
 | a::l=>by
  rw[aQ,eP]
  cases h:p a with
  | true=>rw[if_pos rfl,if_pos rfl,aS,ak0 p g l]
  | false=>rw[if_neg (by nofun),if_neg (by nofun),ak0 p g l]
noncomputable abbrev cd8:Ss:=(.cons (.asg (.one 10) (.call "_law_found" (.ex (.var 2) (.ex (.var 3) .nil)))) (.cons (.ite (.or (.cmp .ne (.call "_law_refused" (.ex (.var 2) (.ex (.var 3) (.ex (.cst (.int 0)) .nil)))) (.isN (.var 10))) (.cmp .ne (.call "_law_refused" (.ex (.var 2) (.ex (.var 3) (.ex (.cst (.int 1)) .nil)))) (.isN (.var 10)))) (.cons (.ret (.cst (.bl false))) .nil) .nil) (.cons (.ite (.isN (.var 10)) (.cons (.ret (.cst (.bl true))) .nil) .nil) (.cons (.ret (.cmp .eq (.mk .list (.comp (.tup [0,1]) (.seq (.call "rows_met" (.ex (.var 2) (.ex (.var 3) .nil)))) (.var 0) [none,none])) (.var 10))) .nil))))
section
variable {P:Pr} [Has P ab6] [Has P ac0] [Has P ab0] [Has P aa9] [Has P ab3] [Has P ab2] [Has P af0] [Has P ab4] [Has P aa3] [Has P ah2] [Has P ab5] [Has P aa7] [HasC P "LETTERS" (.tup aO3)] [HasC P "MOST_ROWS" (.int 300)] [Has P aa5] [Has P aa4] [HasX P "meet_behind" aa6] [HasE P "TooMuch" []] [Has P ab8] [HasX P "rows_met" ab7] [Has P ad8] [HasX P "above" ad6] [HasT P "_law_refused" aa2] [HasE P "TooMuch" aY1]
theorem bm4 [Has P ad1][Has P ac9][Has P am9][Has P ad7](n:Nat){m:Mc}(hm:m.Ok){k:Nat}{S S0:Sto}{y0 y1 y4 y5 y6 y7 y8 y9:Option D} :
  Yes ((exs (aa0 P (n+7)) cd8 [y0,y1,some m.d,some (.int (k:Int)),y4,y5,y6,y7,y8,y9,none] S).bind (fin S0)):=by
 have Y:=bh8 (P:=P) (n+5) hm (k:=(k:Int)) (by omega) S
 have F:=ah8 (P:=P) n hm (k:=(k:Int)) (by omega) true
 have G:=ah8 (P:=P) n hm (k:=(k:Int)) (by omega) false
 have F:∀ s,(aa0 P (n+7)).call "_law_refused" [m.d,.int (k:Int),.int 0] s=.ok (.bl (aH6 (Bk m k))) s:=F
 have G:∀ s,(aa0 P (n+7)).call "_law_refused" [m.d,.int (k:Int),.int 1] s=.ok (.bl (aH6 (Bk m k))) s:=G
 have rm:=λ s=>qU (P:=P) (n+2) hm (k:=(k:Int)) (by omega) s
 have bo:=bK5 m (k:=(k:Int)) (by omega)
 have J:∀ M,M.length<=300->aH6 (Bk m k)=false->(aa0 P (n+7)).call "_law_found" [m.d,.int (k:Int)] S=.ok (.ref S.length) (S++[.lst (WsD M)])->(∀ s,(aa0 P (n+7)).call "rows_met" [m.d,.int (k:Int)] s=.ok (.ref s.length) (s++[.lst (MtD M)]))->Yes ((exs (aa0 P (n+7)) cd8 [y0,y1,some m.d,some (.int (k:Int)),y4,y5,y6,y7,y8,y9,none] S).bind (fin S0)):=λ M hM ho ef er=>by
  rw[ho]at F G
  generalize Z:S++[O.lst (WsD M)]++[O.lst (MtD M)]=S2
  have gw:S2[S.length]?=some (.lst (WsD M)):=by rw[<-Z];exact qD bC2
  have gm:S2[(S++[O.lst (WsD M)]).length]?=some (.lst (MtD M)):=by rw[<-Z];exact bC2
  have a2:(aa0 P (n+7)).call "rows_met" [m.d,.int (k:Int)] (S++[O.lst (WsD M)])=.ok (.ref (S++[O.lst (WsD M)]).length) S2:=by rw[er,Z]
  have sq:aO2 (.ref (S++[O.lst (WsD M)]).length) S2=.ok ⟨MtD M,[(S++[O.lst (WsD M)]).length]⟩ S2:=by simp only[aO2,gm]
  obtain⟨ρ1,s1,e1,a3,_⟩:=at7 (ok:=λ s1=>chk S2 s1 [(S++[O.lst (WsD M)]).length]) (g:=af1 (aa0 P (n+7)) (.tup [0,1]) (.var 0)) (λ ρ u=>u=S2/\∃ a b,ρ=[a,b]) (λ d=>match d with|.tup (w::_)=>w|d=>d) (MtD M) [none,none] S2 ⟨rfl,none,none,rfl⟩ (λ _ _ h=>by rw[h.1];simp[chk]) (by
   rintro d hd ρ u ⟨rfl,a,b,rfl⟩
   obtain⟨e,_,rfl⟩:=aP.mp hd
   refine⟨[some (.str e.1),some (.tup (za e.2))],u,?_,rfl,_,_,rfl⟩
   unfold af1
   tbr_iter [])
  subst a3
  have ew:(MtD M).map (λ d=>match d with|.tup (w::_)=>w|d=>d)=WsD M:=by unfold MtD WsD;rw[bM];rfl
  rw[ew]at e1
  have a0:(MtD M).length<=LIM:=by rw[show(MtD M).length=M.length from aw ..];unfold LIM;omega
  have eq:=bX5 (s:=s1++[O.lst (WsD M)]) (a:=s1.length) (b:=S.length) (M:=M) bC2 (qD gw)
  tbr_iter [ef,F,G,bM0,show(D.ref S.length=D.non)=False from eq_false (by nofun),show(!(false==false))=false from rfl,a2,sq,qJ,if_pos a0,show zZ [y0,y1,some m.d,some (.int (k:Int)),y4,y5,y6,y7,y8,y9,some (.ref S.length)] [none,none]=[none,none]from rfl,e1,aH8,eq]
  exact av0 _ _
 have a1:∀ s,RmO P (n+2) m k s (Bk m k):=rm
 revert Y a1 bo F G J
 clear rm
 generalize Bk m k=B
 cases B with
 | more M =>
  intro Y F G bo J rm
  obtain⟨⟨j,hM⟩,_⟩:=bo
  exact J M hM.len rfl Y λ s=>(rm s).1
 | stop M =>
  intro Y F G bo J rm
  obtain⟨⟨j,hM⟩,_⟩:=bo
  exact J M hM.len rfl Y λ s=>(rm s).1
 | over =>
  intro Y F G bo J rm
  have Y:(aa0 P (n+7)).call "_law_found" [m.d,.int (k:Int)] S=.ok .non S:=Y
  have F:∀ s,(aa0 P (n+7)).call "_law_refused" [m.d,.int (k:Int),.int 0] s=.ok (.bl true) s:=F
  have G:∀ s,(aa0 P (n+7)).call "_law_refused" [m.d,.int (k:Int),.int 1] s=.ok (.bl true) s:=G
  tbr_iter [Y,F,G,bM0,show(!(true==true))=false from rfl]
  exact av0 _ _
theorem bW8 [Has P ab9][Has P ax2][Has P ac6][Has P ad5][Has P ac1][Has P ae7][Has P ad1][Has P ac9][Has P am9][Has P ad7](n:Nat):bW3 P (n+8):=by
 intro ns hl
 have e0:(aa0 P (n+8)).call "law" [.ref 0] [.ro (ns.map D.int)]=_:=ze ab9 (n:=n+7) rfl
 rw[e0,show(cK some [D.ref 0]++aq ab9.vs none)=[some (D.ref 0),none,none,none,none,none,none,none,none,none,none]from rfl]
 have hb:=bL1 (P:=P) (n+6) ns 0 [O.ro (ns.map D.int)] 0 rfl hl
 generalize bB8 ns 0=b0 at hb
 have hb:(aa0 P (n+7)).call "_law_bag" [.ref 0,.int 0] [O.ro (ns.map D.int)]=.ok (.ref 1) [O.ro (ns.map D.int),zD b0]:=hb
 obtain⟨m,G,hm,a0,em⟩:=aB4 (P:=P) (n+4) (s:=[O.ro (ns.map D.int),zD b0]) (r:=1) ⟨b0,rfl⟩
 have em:(aa0 P (n+7)).call "_law_machine" [.ref 1] [O.ro (ns.map D.int),zD b0]=.ok m.d [O.ro (ns.map D.int),zD G]:=em
 have Y:=bg8 (P:=P) (n+5) G [O.ro (ns.map D.int),zD G] 1 rfl
 generalize b5:bd G=kb at Y
 obtain⟨k,F⟩:=kb
 have Y:(aa0 P (n+7)).call "_law_bound" [.ref 1] [O.ro (ns.map D.int),zD G]=.ok (.int (k:Int)) [O.ro (ns.map D.int),zD F]:=Y
 obtain⟨t,B,ht,Z⟩:=qB (P:=P) (n+6) (s:=[O.ro (ns.map D.int),zD F]) (r:=1) ⟨F,rfl⟩ 2 (by decide) (by decide)
 have Z:(aa0 P (n+7)).call "_law_take" [.ref 1,.int 2] [O.ro (ns.map D.int),zD F]=.ok (.int (t:Int)) [O.ro (ns.map D.int),zD B]:=Z
 have h5:=hm.R5
 simp -implicitDefEqProofs only[ab9]
 have a1:ex (aa0 P (n+7)) (.asg (.one 1) (.call "_law_bag" (.ex (.var 0) (.ex (.cst (.int 0)) .nil)))) [some (D.ref 0),none,none,none,none,none,none,none,none,none,none] [O.ro (ns.map D.int)]=.ok (.next [some (D.ref 0),some (.ref 1),none,none,none,none,none,none,none,none,none]) [O.ro (ns.map D.int),zD b0]:=by tbr_iter [hb]
 have a2:ex (aa0 P (n+7)) (.asg (.one 2) (.call "_law_machine" (.ex (.var 1) .nil))) [some (D.ref 0),some (.ref 1),none,none,none,none,none,none,none,none,none] [O.ro (ns.map D.int),zD b0]=.ok (.next [some (D.ref 0),some (.ref 1),some m.d,none,none,none,none,none,none,none,none]) [O.ro (ns.map D.int),zD G]:=by tbr_iter [em]
 have a3:ex (aa0 P (n+7)) (.asg (.one 3) (.call "_law_bound" (.ex (.var 1) .nil))) [some (D.ref 0),some (.ref 1),some m.d,none,none,none,none,none,none,none,none] [O.ro (ns.map D.int),zD G]=.ok (.next [some (D.ref 0),some (.ref 1),some m.d,some (.int (k:Int)),none,none,none,none,none,none,none]) [O.ro (ns.map D.int),zD F]:=by tbr_iter [Y]
 rw[qf,a1,R.bind_ok,qN,qf,a2,R.bind_ok,qN,qf,a3,R.bind_ok,qN]
 by_cases h1:(t:Int)=1
 ·obtain⟨ρ1,s1,e1,a6,_⟩:=qd (ok:=λ s1=>chk [O.ro (ns.map D.int),zD B] s1 []) (g:=am2 (aa0 P (n+7)) (.one 0) (.or (.cmp .eq (.var 0) (.cst (.int 0))) (.cmp .isin (.var 0) (.var 1))) (.var 0)) (λ ρ u=>u=[O.ro (ns.map D.int),zD B]/\∃ a,ρ=[a,some (.tup (z8 m.bg))]) (λ d=>match d with|.int i=>if(decide (i.toNat=0)||decide (i.toNat∈m.bg))=true then some (.int i)else none|_=>none) (zW 0 (m.R:Int)) [none,some (.tup (z8 m.bg))] [O.ro (ns.map D.int),zD B] ⟨rfl,none,rfl⟩ (λ _ _ _=>rfl) (by
   rintro d hd ρ u ⟨rfl,a,rfl⟩
   obtain⟨j,hj⟩:=e7 hd
   obtain⟨b6,rfl⟩:=ai7 hj
   rw[g7]
   refine⟨[some (.int (j:Int)),some (.tup (z8 m.bg))],[O.ro (ns.map D.int),zD B],?_,rfl,_,rfl⟩
   unfold am2
   simp only[bJ]
   by_cases z:j=0
   ·rw[if_pos (by simp[z])]
    tbr_iter [show((j:Int)=0)=True from eq_true (by omega)]
   ·by_cases y:j∈m.bg
    ·rw[if_pos (by simp[y])]
     tbr_iter [show((j:Int)=0)=False from eq_false (by omega),zY,af2,y]
    ·rw[if_neg (by simp[y,z])]
     tbr_iter [show((j:Int)=0)=False from eq_false (by omega),zY,af2,y])
  subst a6
  have ew:(zW 0 (m.R:Int)).filterMap (λ d=>match d with|.int i=>if(decide (i.toNat=0)||decide (i.toNat∈m.bg))=true then some (.int i)else none|_=>none)=z8 (aZ6 m).bg:=by
   unfold zW
   rw[cD,show((m.R:Int) - 0).toNat=m.R by omega]
   refine Eq.trans (qe (g:=λ j=>if(decide (j=0)||decide (j∈m.bg))=true then some (D.int (j:Int))else none) λ j _=>?_) ?_
   ·simp only[jl,g7,bJ]
   ·rw[ak0 (λ j=>decide (j=0)||decide (j∈m.bg)) (λ j=>D.int (j:Int))];rfl
  rw[ew]at e1
  have ad:∀ S,ae8 .add (.tup (m.ds.map Dr.d)) (.tup [.tup [.int 0,.str [97],.int 0,.int 1]]) S=.ok (.tup ((aZ6 m).ds.map Dr.d)) S:=λ S=>by
   rw[bo7 (by rw[aw];show m.ds.length+1<=LIM;unfold LIM;omega)]
   unfold aZ6
   rw[bE];rfl
  have a5:D.tup [.int (m.L:Int),.int (m.R:Int),.tup (z8 (aZ6 m).bg),.tup (z8 m.en),.tup ((aZ6 m).ds.map Dr.d)]=(aZ6 m).d:=rfl
  have bt:∀ ρ:Env,zN ρ (.tup [4,5,6,7,8]) m.d=ai4 ρ [4,5,6,7,8] [.int (m.L:Int),.int (m.R:Int),.tup (z8 m.bg),.tup (z8 m.en),.tup (m.ds.map Dr.d)]:=λ _=>rfl
  have tl:=bm4 (P:=P) n (bw6 hm a0) (k:=k) (S:=[O.ro (ns.map D.int),zD B]) (S0:=[O.ro (ns.map D.int)]) (y0:=some (.ref 0)) (y1:=some (.ref 1)) (y4:=some (.int (m.L:Int))) (y5:=some (.int (m.R:Int))) (y6:=some (.tup (z8 m.bg))) (y7:=some (.tup (z8 m.en))) (y8:=some (.tup (m.ds.map Dr.d))) (y9:=some (.tup (z8 (aZ6 m).bg)))
  have a4:∀ J,J=(.cons (.asg (.tup [4,5,6,7,8]) (.var 2)) (.cons (.asg (.one 9) (.mk .tuple (.compIf (.one 0) (.rng1 (.var 5)) (.or (.cmp .eq (.var 0) (.cst (.int 0))) (.cmp .isin (.var 0) (.var 1))) (.var 0) [none,some 6]))) (.cons (.asg (.one 2) (.tup (.cons (.var 4) (.cons (.var 5) (.cons (.var 9) (.cons (.var 7) (.cons (.bin .add (.var 8) (.tup (.cons (.tup (.cons (.cst (.int 0)) (.cons (.cst (.str [97])) (.cons (.cst (.int 0)) (.cons (.cst (.int 1)) .nil))))) .nil))) .nil))))))) .nil)))->ex (aa0 P (n+7)) (.ite (.cmp .eq (.call "_law_take" (.ex (.var 1) (.ex (.cst (.int 2)) .nil))) (.cst (.int 1))) J .nil) [some (D.ref 0),some (.ref 1),some m.d,some (.int (k:Int)),none,none,none,none,none,none,none] [O.ro (ns.map D.int),zD F]=.ok (.next [some (D.ref 0),some (.ref 1),some (aZ6 m).d,some (.int (k:Int)),some (.int (m.L:Int)),some (.int (m.R:Int)),some (.tup (z8 m.bg)),some (.tup (z8 m.en)),some (.tup (m.ds.map Dr.d)),some (.tup (z8 (aZ6 m).bg)),none]) [O.ro (ns.map D.int),zD B]:=λ J b4=>by
   rw[b4]
   tbr_iter [Z,h1,bt,ql,qC (s:=[O.ro (ns.map D.int),zD B]) (i:=(m.R:Int)) (by unfold W62;omega) (by unfold W62;omega),if_pos (show(zW 0 (m.R:Int)).length<=LIM by rw[aj1];unfold LIM;omega),show zZ [some (D.ref 0),some (.ref 1),some m.d,some (.int (k:Int)),some (.int (m.L:Int)),some (.int (m.R:Int)),some (.tup (z8 m.bg)),some (.tup (z8 m.en)),some (.tup (m.ds.map Dr.d)),none,none] [none,some 6]=[none,some (.tup (z8 m.bg))]from rfl,e1,av3,ad,a5]
  rw[qf,a4 _ rfl,R.bind_ok,qN]
  exact tl
 ·have tl:=bm4 (P:=P) n hm (k:=k) (S:=[O.ro (ns.map D.int),zD B]) (S0:=[O.ro (ns.map D.int)]) (y0:=some (.ref 0)) (y1:=some (.ref 1)) (y4:=none) (y5:=none) (y6:=none) (y7:=none) (y8:=none) (y9:=none)
  have a4:∀ J,ex (aa0 P (n+7)) (.ite (.cmp .eq (.call "_law_take" (.ex (.var 1) (.ex (.cst (.int 2)) .nil))) (.cst (.int 1))) J .nil) [some (D.ref 0),some (.ref 1),some m.d,some (.int (k:Int)),none,none,none,none,none,none,none] [O.ro (ns.map D.int),zD F]=.ok (.next [some (D.ref 0),some (.ref 1),some m.d,some (.int (k:Int)),none,none,none,none,none,none,none]) [O.ro (ns.map D.int),zD B]:=λ J=>by
   tbr_iter [Z,h1]
  rw[qf,a4,R.bind_ok,qN]
  exact tl
end
end DV
end
local macro_rules | `(tactic| walk_at "sc") => `(tactic| exact ⟨rfl, rfl, rfl, by decide +kernel, rfl, by decide +kernel, by decide +kernel⟩)
local macro_rules | `(tactic| walk_at "df") => `(tactic| (dsimp only; exact ⟨_, _, _, _, _, _, _, _, _, _, by k_is, by k_is, by k_is, by k_is⟩))
noncomputable section
namespace My
open PySem L2
noncomputable def top (i:Nat):Stmt:=PySem.Challenge.pw_leasttolls_k19_too_many_rows.main.body.getD i (.Pass ⟨0,0,0,0⟩)
noncomputable def ae0:List Str:=[]
noncomputable abbrev s_letters_of:Stmt:=top 2
noncomputable abbrev ao5:Stmt:=top 3
noncomputable abbrev ak5:Stmt:=top 4
noncomputable abbrev az2:Stmt:=top 5
noncomputable abbrev ao6:Stmt:=top 6
noncomputable abbrev aU5:Stmt:=top 8
noncomputable abbrev aW0:Stmt:=top 9
noncomputable abbrev bN9:Stmt:=top 11
noncomputable abbrev am0:Stmt:=top 12
noncomputable abbrev ah7:Stmt:=top 13
noncomputable abbrev bF2:Stmt:=top 14
noncomputable abbrev aF7:Stmt:=top 15
noncomputable abbrev ad4:Stmt:=top 29
noncomputable abbrev ah6:Stmt:=top 30
noncomputable abbrev ac3:Stmt:=top 31
noncomputable abbrev am5:Stmt:=top 32
noncomputable abbrev ao3:Stmt:=top 34
noncomputable abbrev al9:Stmt:=top 35
noncomputable abbrev ah9:Stmt:=top 36
noncomputable abbrev ae6:Stmt:=top 37
noncomputable abbrev ai3:Stmt:=top 38
noncomputable abbrev ai0:Stmt:=top 39
noncomputable abbrev ap0:Stmt:=top 40
noncomputable abbrev an7:Stmt:=top 41
noncomputable abbrev ah5:Stmt:=top 42
noncomputable abbrev ad2:Stmt:=top 43
noncomputable abbrev ax9:Stmt:=top 44
noncomputable def tb:List (String×mP×Stmt):=[("letters_of",DV.aa7,s_letters_of),("rooms_of",DV.aa9,ao5),("begins_of",DV.ab3,ak5),("ends_of",DV.ab2,az2),("doors_of",DV.ab0,ao6),("least",DV.ab6,aU5),("added",DV.ac0,aW0),("cut",DV.af0,bN9),("first_row",DV.ab4,am0),("least_into",DV.aa3,ah7),("led",DV.ah2,bF2),("end_of",DV.ab5,aF7),("rows_met",DV.ab8,ad4),("ends_above",DV.aa5,ah6),("meet_behind",DV.aa4,ac3),("above",DV.ad8,am5),("_law_bag",DV.ax2,ao3),("_law_take",DV.ac6,al9),("_law_rooms",DV.ad5,ah9),("_law_machine",DV.ac1,ae6),("_law_bound",DV.ae7,ai3),("_law_first",DV.ad1,ai0),("_law_led",DV.ac9,ap0),("_law_end",DV.am9,an7),("_law_found",DV.ad7,ah5),("law",DV.ab9,ax9)]
noncomputable def bU9:List (String×lw):=[("LETTERS",.tup [.str [97],.str [98],.str [99]]),("MOST_ROWS",.int (300))]
noncomputable def cg1:List (String×mO):=[]
noncomputable def tbl:List (String×mP):=tb.map λ p=>(p.1,p.2.1)
noncomputable def xtb:List (String×DV.Xf):=[("meet_behind",DV.aa6),("rows_met",DV.ab7),("above",DV.ad6)]
noncomputable def ttb:List (String×DV.Tf):=[("_law_refused",DV.aa2)]
noncomputable def dl:List (String×Stmt):=[("meet_behind",ac3),("rows_met",ad4),("above",am5),("_law_refused",ad2)]
noncomputable def xcs:List String:=["TooMuch"]
noncomputable def xts:List String:=["NoMaking", "NoName", "NoPair", "NoPaper", "NoRow", "NoText", "NotSteady", "TollError", "TooLong", "TooMuch"]
noncomputable def P:lI:=⟨λ f=>tbl.lookup f,λ f=>cg1.lookup f,λ x=>bU9.lookup x,λ f=>xtb.lookup f,λ f=>ttb.lookup f,λ c=>xcs.contains c,λ c=>xts.contains c,λ _=>none⟩
instance:DV.HasX P "meet_behind" DV.aa6:=⟨rfl⟩
instance:DV.HasX P "rows_met" DV.ab7:=⟨rfl⟩
instance:DV.HasX P "above" DV.ad6:=⟨rfl⟩
instance:DV.HasT P "_law_refused" DV.aa2:=⟨rfl,rfl⟩
instance:DV.HasE P "TooMuch" ["NoMaking", "NoName", "NoPair", "NoPaper", "NoRow", "NoText", "NotSteady", "TooLong", "TooMuch", "TollError"]:=⟨rfl,by decide⟩
instance:DV.HasE P "TooMuch" []:=⟨rfl,by decide⟩
instance:DV.HasC P "LETTERS" (.tup [.str [97],.str [98],.str [99]]):=⟨rfl⟩
instance:DV.HasC P "MOST_ROWS" (.int (300)):=⟨rfl⟩
instance:DV.Has P DV.aa7:=⟨rfl⟩
instance:DV.Has P DV.aa9:=⟨rfl⟩
instance:DV.Has P DV.ab3:=⟨rfl⟩
instance:DV.Has P DV.ab2:=⟨rfl⟩
instance:DV.Has P DV.ab0:=⟨rfl⟩
instance:DV.Has P DV.ab6:=⟨rfl⟩
instance:DV.Has P DV.ac0:=⟨rfl⟩
instance:DV.Has P DV.af0:=⟨rfl⟩
instance:DV.Has P DV.ab4:=⟨rfl⟩
instance:DV.Has P DV.aa3:=⟨rfl⟩
instance:DV.Has P DV.ah2:=⟨rfl⟩
instance:DV.Has P DV.ab5:=⟨rfl⟩
instance:DV.Has P DV.ab8:=⟨rfl⟩
instance:DV.Has P DV.aa5:=⟨rfl⟩
instance:DV.Has P DV.aa4:=⟨rfl⟩
instance:DV.Has P DV.ad8:=⟨rfl⟩
instance:DV.Has P DV.ax2:=⟨rfl⟩
instance:DV.Has P DV.ac6:=⟨rfl⟩
instance:DV.Has P DV.ad5:=⟨rfl⟩
instance:DV.Has P DV.ac1:=⟨rfl⟩
instance:DV.Has P DV.ae7:=⟨rfl⟩
instance:DV.Has P DV.ad1:=⟨rfl⟩
instance:DV.Has P DV.ac9:=⟨rfl⟩
instance:DV.Has P DV.am9:=⟨rfl⟩
instance:DV.Has P DV.ad7:=⟨rfl⟩
instance:DV.Has P DV.ab9:=⟨rfl⟩
theorem au6:DT ae0 P "letters_of" DV.aa7 s_letters_of:=⟨["machine"],["machine"],by walk_at "sc",rfl,rfl,λ _ _ _ _ _ _=>bd1 (λ _=>rfl),.inl (by decide +kernel)⟩
theorem aK3:DT ae0 P "rooms_of" DV.aa9 ao5:=⟨["machine"],["machine"],by walk_at "sc",rfl,rfl,λ _ _ _ _ _ _=>bd1 (λ _=>rfl),.inl (by decide +kernel)⟩
theorem aE4:DT ae0 P "begins_of" DV.ab3 ak5:=⟨["machine"],["machine"],by walk_at "sc",rfl,rfl,λ _ _ _ _ _ _=>bd1 (λ _=>rfl),.inl (by decide +kernel)⟩
theorem aW8:DT ae0 P "ends_of" DV.ab2 az2:=⟨["machine"],["machine"],by walk_at "sc",rfl,rfl,λ _ _ _ _ _ _=>bd1 (λ _=>rfl),.inl (by decide +kernel)⟩
theorem aN6:DT ae0 P "doors_of" DV.ab0 ao6:=⟨["machine"],["machine"],by walk_at "sc",rfl,rfl,λ _ _ _ _ _ _=>bd1 (λ _=>rfl),.inl (by decide +kernel)⟩
theorem bs2:DT ae0 P "least" DV.ab6 aU5:=⟨["prices"],["prices"],by walk_at "sc",rfl,rfl,λ _ _ _ _ _ _=>bd1 (λ _=>rfl),.inl (by decide +kernel)⟩
theorem bq9:DT ae0 P "added" DV.ac0 aW0:=⟨["one", "other"],["one", "other"],by walk_at "sc",rfl,rfl,λ _ _ _ _ _ _=>bd2 (λ _ _=>rfl),.inl (by decide +kernel)⟩
theorem bY5:DT ae0 P "cut" DV.af0 bN9:=⟨["price", "k"],["price", "k"],by walk_at "sc",rfl,rfl,λ _ _ _ _ _ _=>bd2 (λ _ _=>rfl),.inl (by decide +kernel)⟩
theorem aC5:DT ae0 P "first_row" DV.ab4 am0:=⟨["machine", "begins"],["machine"],by walk_at "sc",rfl,rfl,λ _ _ _ _ _ _=>bd1 (λ _=>rfl),.inl (by decide +kernel)⟩
theorem az0:DT ae0 P "least_into" DV.aa3 ah7:=⟨["machine", "row", "letter", "room"],["machine", "row", "letter", "room"],by walk_at "sc",rfl,rfl,λ _ _ _ _ _ _=>bd4 (λ _ _ _ _=>rfl),.inl (by decide +kernel)⟩
theorem bT6:DT ae0 P "led" DV.ah2 bF2:=⟨["machine", "k", "row", "letter"],["machine", "k", "row", "letter"],by walk_at "sc",rfl,rfl,λ _ _ _ _ _ _=>bd4 (λ _ _ _ _=>rfl),.inl (by decide +kernel)⟩
theorem bf5:DT ae0 P "end_of" DV.ab5 aF7:=⟨["machine", "row"],["machine", "row"],by walk_at "sc",rfl,rfl,λ _ _ _ _ _ _=>bd2 (λ _ _=>rfl),.inl (by decide +kernel)⟩
theorem aM6:DT ae0 P "rows_met" DV.ab8 ad4:=⟨["machine", "k", "first", "met", "seen", "at"],["machine", "k"],by walk_at "sc",rfl,rfl,λ _ _ _ _ _ _=>bd2 (λ _ _=>rfl),.inl (by decide +kernel)⟩
theorem ax7:DT ae0 P "ends_above" DV.aa5 ah6:=⟨["machine", "k", "row"],["machine", "k", "row"],by walk_at "sc",rfl,rfl,λ _ _ _ _ _ _=>bd3 (λ _ _ _=>rfl),.inl (by decide +kernel)⟩
theorem as9:DT ae0 P "meet_behind" DV.aa4 ac3:=⟨["machine", "k", "entry", "met", "seen", "letter", "row"],["machine", "k", "entry", "met", "seen"],by walk_at "sc",rfl,rfl,λ _ _ _ _ _ _=>bd5 (λ _ _ _ _ _=>rfl),.inl (by decide +kernel)⟩
theorem bu8:DT ae0 P "above" DV.ad8 am5:=⟨["machine", "k", "last"],["machine", "k"],by walk_at "sc",rfl,rfl,λ _ _ _ _ _ _=>bd2 (λ _ _=>rfl),.inl (by decide +kernel)⟩
theorem aK5:DT ae0 P "_law_bag" DV.ax2 ao3:=⟨["_law_script", "_law_at", "_law_cell", "_law_mix", "_law_k"],["_law_script", "_law_at"],by walk_at "sc",rfl,rfl,λ _ _ _ _ _ _=>bd2 (λ _ _=>rfl),.inl (by decide +kernel)⟩
theorem aB3:DT ae0 P "_law_take" DV.ac6 al9:=⟨["_law_bag_here", "_law_many", "_law_digit", "_law_number", "_law_room"],["_law_bag_here", "_law_many"],by walk_at "sc",rfl,rfl,λ _ _ _ _ _ _=>bd2 (λ _ _=>rfl),.inl (by decide +kernel)⟩
theorem aw9:DT ae0 P "_law_rooms" DV.ad5 ah9:=⟨["_law_bag_here", "_law_many", "_law_bits"],["_law_bag_here", "_law_many"],by walk_at "sc",rfl,rfl,λ _ _ _ _ _ _=>bd2 (λ _ _=>rfl),.inl (by decide +kernel)⟩
theorem am8:DT ae0 P "_law_machine" DV.ac1 ae6:=⟨["_law_bag_here", "_law_letters", "_law_rooms_here", "_law_many", "_law_doors", "_law_k"],["_law_bag_here"],by walk_at "sc",rfl,rfl,λ _ _ _ _ _ _=>bd1 (λ _=>rfl),.inl (by decide +kernel)⟩
theorem av1:DT ae0 P "_law_bound" DV.ae7 ai3:=⟨["_law_bag_here"],["_law_bag_here"],by walk_at "sc",rfl,rfl,λ _ _ _ _ _ _=>bd1 (λ _=>rfl),.inl (by decide +kernel)⟩
theorem ay3:DT ae0 P "_law_first" DV.ad1 ai0:=⟨["_law_machine_here"],["_law_machine_here"],by walk_at "sc",rfl,rfl,λ _ _ _ _ _ _=>bd1 (λ _=>rfl),.inl (by decide +kernel)⟩
theorem aO0:DT ae0 P "_law_led" DV.ac9 ap0:=⟨["_law_machine_here", "_law_k", "_law_row", "_law_letter", "_law_found_here", "_law_start", "_law_sign", "_law_goal", "_law_cost", "_law_come"],["_law_machine_here", "_law_k", "_law_row", "_law_letter"],by walk_at "sc",rfl,rfl,λ _ _ _ _ _ _=>bd4 (λ _ _ _ _=>rfl),.inl (by decide +kernel)⟩
theorem aK9:DT ae0 P "_law_end" DV.am9 an7:=⟨["_law_machine_here", "_law_row"],["_law_machine_here", "_law_row"],by walk_at "sc",rfl,rfl,λ _ _ _ _ _ _=>bd2 (λ _ _=>rfl),.inl (by decide +kernel)⟩
theorem ax1:DT ae0 P "_law_found" DV.ad7 ah5:=⟨["_law_machine_here", "_law_k", "_law_rows", "_law_words", "_law_seen", "_law_at", "_law_letter", "_law_row"],["_law_machine_here", "_law_k"],by walk_at "sc",rfl,rfl,λ _ _ _ _ _ _=>bd2 (λ _ _=>rfl),.inl (by decide +kernel)⟩
theorem bi9:FnScope ["_law_script", "_law_bag_here", "_law_machine_here", "_law_k", "_law_letters", "_law_rooms_here", "_law_begins", "_law_ends", "_law_doors", "_law_more", "_law_words"] ["_law_script"] (defScope ax9):=by walk_at "sc"
theorem bQ4:mSs ⟨["_law_script", "_law_bag_here", "_law_machine_here", "_law_k", "_law_letters", "_law_rooms_here", "_law_begins", "_law_ends", "_law_doors", "_law_more", "_law_words"],defScope ax9,λ _ _ _=>false⟩ DV.ab9.body (zt ax9)=true:=by decide +kernel
theorem bN8:cc9 "law" ax9 ["_law_script"]:=λ _ _ _ _ _ _=>bd1 λ _=>rfl
theorem bY9:DT ae0 P "law" DV.ab9 ax9:=⟨_,_,bi9,rfl,rfl,bN8,.inl bQ4⟩
theorem ar7:DTB ae0 P "meet_behind" DV.aa6.ps DV.aa6.vs (λ B S=>mX B DV.aa6.body S) ac3:=⟨["machine", "k", "entry", "met", "seen", "letter", "row"],["machine", "k", "entry", "met", "seen"],by walk_at "sc",rfl,rfl,λ _ _ _ _ _ _=>bd5 (λ _ _ _ _ _=>rfl),.inl (by decide +kernel)⟩
theorem aN9:DTB ae0 P "rows_met" DV.ab7.ps DV.ab7.vs (λ B S=>mX B DV.ab7.body S) ad4:=⟨["machine", "k", "first", "met", "seen", "at"],["machine", "k"],by walk_at "sc",rfl,rfl,λ _ _ _ _ _ _=>bd2 (λ _ _=>rfl),.inl (by decide +kernel)⟩
theorem bs8:DTB ae0 P "above" DV.ad6.ps DV.ad6.vs (λ B S=>mX B DV.ad6.body S) am5:=⟨["machine", "k", "last"],["machine", "k"],by walk_at "sc",rfl,rfl,λ _ _ _ _ _ _=>bd2 (λ _ _=>rfl),.inl (by decide +kernel)⟩
theorem an4:DTB ae0 P "_law_refused" DV.aa2.ps DV.aa2.vs (λ B S=>mT B DV.aa2 S) ad2:=⟨["_law_machine_here", "_law_k", "_law_way", "e"],["_law_machine_here", "_law_k", "_law_way"],by walk_at "sc",rfl,rfl,λ _ _ _ _ _ _=>bd3 (λ _ _ _=>rfl),.inl (by decide +kernel)⟩
theorem bZ4:∀ p∈tb,DT ae0 P p.1 p.2.1 p.2.2:=by
 intro p hp
 unfold tb at hp
 simp only[aA,bN,or_false]at hp
 rcases hp with rfl|rfl|rfl|rfl|rfl|rfl|rfl|rfl|rfl|rfl|rfl|rfl|rfl|rfl|rfl|rfl|rfl|rfl|rfl|rfl|rfl|rfl|rfl|rfl|rfl|rfl
 ·exact au6
 ·exact aK3
 ·exact aE4
 ·exact aW8
 ·exact aN6
 ·exact bs2
 ·exact bq9
 ·exact bY5
 ·exact aC5
 ·exact az0
 ·exact bT6
 ·exact bf5
 ·exact aM6
 ·exact ax7
 ·exact as9
 ·exact bu8
 ·exact aK5
 ·exact aB3
 ·exact aw9
 ·exact am8
 ·exact av1
 ·exact ay3
 ·exact aO0
 ·exact aK9
 ·exact ax1
 ·exact bY9
theorem bM8 {l:cW}{w:World}{K:ac}{h:Heap}{mg:Str->Option Value}{fa:Addr}(X:K.In h)(G:h.Ns be mg)(a4:mg "law"=some (.ref fa))(hD:∀ p∈tb,bS7 K p.1 p.2.2)(hz:∀ x∈bNames,b9 K be x=some none)
  {B:Addr} {a1:Option Addr} {a3:Nat} {a2:Array (Option Value)} {a0 Z Y:Tok} (gc_LETTERS:b9 K be "LETTERS"=some (some (.ref B))) (gl_LETTERS:K.lookup B=some ⟨.type "tuple",a1,.seq #[.str ⟨#[97]⟩ a0,.str ⟨#[98]⟩ Z,.str ⟨#[99]⟩ Y] a3,a2⟩)
  {J:Tok} (gc_MOST_ROWS:b9 K be "MOST_ROWS"=some (some (.int (300) J)))
  (hT:∀ x∈ae0,(a9 K x).isSome=true) (tnd:decide (((by3 ae0 K).map (·.1)).Nodup)=true) (hDx:∀ p∈dl,bS7 K p.1 p.2) (hcl:bs0 K xcs xts=true)
  : ∃ fd:bI,(∀(s:af) (v:Value),kn s fd ⟨[v],[]⟩ [("_law_script",v)])/\∀ base:Heap,K.In base->base.Ns be mg->BM mg base->bn2 K ae0 base->FnOk l.prog w K mg base CX0 40 fa fd ["_law_script"] (spB ae0 K):=by
 have hP:PrOk (aZ3 ae0 P K) (bx5 ae0 K) P mg w:=by
  refine⟨λ f d h=>aH0 (tbl:=tbl) (λ p hp=>?_) f d h,λ x d h=>aV1 (tbl:=bU9) ?_ x d h,λ x hx=>jz X G (hz x hx),bZ6 X G,cb0,of_decide_eq_true tnd,aC9 (tbl:=xtb) (λ p hp=>?_),aC9 (tbl:=ttb) (λ p hp=>?_),(al0 X G hcl).1,(al0 X G hcl).2.1,(al0 X G hcl).2.2.1,(al0 X G hcl).2.2.2.1,(al0 X G hcl).2.2.2.2.1,(al0 X G hcl).2.2.2.2.2.1,(al0 X G hcl).2.2.2.2.2.2,λ _ _ h=>(by cases h)⟩
  ·obtain⟨r,hr,rfl⟩:=aP.mp hp
   exact good_of X G hT (hD r hr) (bZ4 r hr)
  ·intro p hp
   unfold bU9 at hp
   simp only[aA,bN,or_false]at hp
   rcases hp with rfl|rfl
   ·exact by9 (bT X G gc_LETTERS) gl_LETTERS rfl rfl (show 3<=1000 by decide) (.cons (.str _ _ (by decide)) (.cons (.str _ _ (by decide)) (.cons (.str _ _ (by decide)) (.nil))))
   ·exact bq3 (bT X G gc_MOST_ROWS)
  ·unfold xtb at hp
   simp only[aA,bN,or_false]at hp
   rcases hp with rfl|rfl|rfl
   ·exact af8 X G hT (hDx ("meet_behind",ac3) (by unfold dl;simp)) ar7
   ·exact af8 X G hT (hDx ("rows_met",ad4) (by unfold dl;simp)) aN9
   ·exact af8 X G hT (hDx ("above",am5) (by unfold dl;simp)) bs8
  ·unfold ttb at hp
   simp only[aA,bN,or_false]at hp
   subst hp
   ·exact af8 X G hT (hDx ("_law_refused",ad2) (by unfold dl;simp)) an4
 obtain⟨f,od,an,sl,oc,kV,dc,pm,cd,ct,a,l0,c,k⟩:=hD ("law",DV.ab9,ax9) (by unfold tb;simp)
 have e:=a4.symm.trans (bT X G a)
 cases e
 have F:=bj3 (st:=ax9) l0 c k
 refine⟨_,λ s v=>.of_eq rfl,λ base _ _ bm hk=>(bD8 hP (bi3 hT bm hk) 8 (bp5 hP (bi3 hT bm hk) 8) (d:=DV.ab9) (f := "law") rfl ⟨F,bT X G a,F.binds bN8⟩ bi9 rfl rfl bQ4 aT6).imp (λ vs H Q E q=>bO2 (λ ns h=>DV.bW8 (P:=P) 1 ns h) vs H Q E (bg7 hT q))⟩
end My
end
open PySem PySem.W PyProof.Rows
set_option maxRecDepth 100000 in
set_option maxHeartbeats 0 in
theorem PySem.Challenge.cw_leasttolls_k19_too_many_rows_holds : PySem.Challenge.rw_leasttolls_k19_too_many_rows.Holds := by
 refine My.GT0.2.2 My.left2 ?_
 delta My.GT0
 dsimp only
 k_fill
 refine L2.aS5 (l:=PySem.Challenge.rw_leasttolls_k19_too_many_rows) (n:=63) (k:=40) (x := "_law_script") (sp:=L2.spB My.ae0) My.ae0 rfl (by decide) rfl ⟨rfl,by decide,by decide⟩ (ts:=[]) (λ w h Y=>⟨PySem.W.kIn_of Y,λ _ hP=>absurd hP (bN)⟩) (λ w=>?R) (λ w=>?NT) ?F (λ K H a ns hl hB hS hF=>L2.bL3 hl hB hS hF)
 case R=>kernel_rfl
 case NT=>kernel_rfl
 case F =>
  intro w mg fa h KX G hmg
  refine' My.bM8 KX G hmg ?hD ?hz ?gc_LETTERS ?gl_LETTERS ?gc_MOST_ROWS ?hT ?tnd ?hDx ?hcl
  case hD =>
   intro p hp
   unfold My.tb at hp
   simp only[aA,bN,or_false]at hp
   rcases hp with rfl|rfl|rfl|rfl|rfl|rfl|rfl|rfl|rfl|rfl|rfl|rfl|rfl|rfl|rfl|rfl|rfl|rfl|rfl|rfl|rfl|rfl|rfl|rfl|rfl|rfl
   all_goals walk_at "df"
  case hz =>
   intro x hx
   unfold L2.bNames at hx
   simp only[aA,bN,or_false]at hx
   rcases hx with rfl|rfl|rfl|rfl|rfl|rfl|rfl|rfl|rfl|rfl|rfl|rfl|rfl|rfl|rfl|rfl|rfl|rfl<;>k_is
  (case gc_LETTERS=>k_is)
  (case gl_LETTERS=>k_is)
  (case gc_MOST_ROWS=>k_is)
  case hT =>
   intro x hx;cases hx
  (case tnd=>kernel_rfl)
  case hDx =>
   intro p hp
   unfold My.dl at hp
   simp only[aA,bN,or_false]at hp
   rcases hp with rfl|rfl|rfl|rfl
   all_goals walk_at "df"
  (case hcl=>kernel_rfl)
