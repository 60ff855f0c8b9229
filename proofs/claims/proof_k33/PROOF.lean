import PyProof.Rows.All
import Wide.All
import OpenK.AllK
import Wide.FinOn
import PyProof.EqAt
import PyProof.EqKinds
import PyProof.TupleCall
import PyProof.MinMaxWalk
import PyProof.WalkInts
import PyProof.NeKinds
import PyProof.SliceStr2
import PyProof.StrBlockI
import PyProof.MaxThree
import PyProof.ZipIter
import PyProof.Draws
import PyProof.EnumMake
import PyProof.ListMulRoad
import PyProof.Rows.StrRev
import PyProof.DictItems
import PyProof.ListRange
import PyProof.AutoIntG2
import PyProof.FactsAll.int_6
import KE.KMinKey
import PyProof.Rows.TupDisplay
import PyProof.Rows.CatchBare
import KE.KTryMore
import PyProof.RulesAs
import PyProof.StrOps
import KE.IntBitsLaws
import KE.KIntText
import PyProof.CallStr
import PyProof.StrBlockL
import PyProof.StrLawsChain
import PyProof.StrLawsTight
import PyProof.Rows.StrItems
import PySem.Challenge.RW_leasttolls_k33_whole_unrolled_words_go_w
set_option bootstrap.genMatcherCode false
set_option genSizeOf false
set_option compiler.extract_closed false
set_option Elab.async false
set_option linter.all false
set_option maxRecDepth 100000
set_option maxHeartbeats 4000000
open List renaming getElem?_eq_some_iff->ac,range->ai,getElem?_eq_getElem->aj,getElem?_append_right->am,replicate->aq,getElem?_map->av,getElem?_append_left->ax,size_toArray->ay,mem_map->az,mem_cons->aB,length_map->aD,mem_cons_of_mem->aE,mem_cons_self->aG,mem_of_getElem?->aL,map_cons->aM,getD_eq_getElem?_getD->aN,length_cons->aR,length_append->aU,not_mem_nil->aW,all_eq_true->aX,getElem?_set_self->aZ,getElem?_range->be,append_nil->bf,lookup_cons->bj,map->bn,mem_range->bq,getElem?_set_ne->br,mem_singleton->bv,mem_map_of_mem->bw,mem_append_right->bA,filterMap_cons->bC,getElem?_eq_none->bG,set_append_right->bH,mem_append->bM,length_set->bN,replicate_succ->bO,length_take->bW,map_congr_left->bZ,map_append->cg,foldl_cons->cx,mem_filterMap->cB,append_assoc->cG,length_eq_zero_iff->cH,nodup_cons->cI,range_succ->cJ,take_length->cM,length_nil->cV,flatten_cons->cW,length_range->cX,getElem?_take_of_lt->cZ,cons_append->c6,map_map->dh,find?_cons->dk,all_append->dm,length_singleton->dt,getElem?_toArray->du,mem_iff_getElem->dD,map_nil->dF,all_cons->dP,of_mem_zip->dS,nil_append->dT,filterMap_map->dW,forIn_nil->et,range_succ_eq_map->eF,foldl_append->eJ,length_drop->eM,getElem?_of_mem->eU,take_append_of_le_length->eV,mem_filter->eZ,forIn_cons->e9,set_set->fw,drop_eq_getElem_cons->fM,mem_or_eq_of_mem_set->fN,ext_getElem?->f6,length_filterMap_le->gi,any_cons->gk,getElem?_replicate->gq,getElem_mem->gA,take_of_length_le->gQ,drop_eq_nil_of_le->gS,take_append_drop->hJ,mem_append_left->hV,length->ie,filterMap->ik,drop_zero->iq,mem_of_mem_take->ir,length_pos_iff->iJ,getElem?_take->jW,all_nil->ke,any_eq_true->kq,zipIdx_cons->kt,zipIdx_nil->kE,foldl->kT,take_zero->k7,lookup->lF
open PySem renaming wpAny_bind->ae,Shared->ah,wpAny_pure->aC,mem_of_lookup->aF,Program->aK,cellsFrom->aP,sizeLine->aQ,Around->aV,mainGlobals->aY,Arguments->bp,starEach->bu,bootBuiltins->bz,FuncData->bJ,wpAny_newObj_type->bL,wpAny_truthy_bool->bP,NameKind->bQ,wpAny_field->b7,wpAny_seqItems->b8,wpAny_mono->cj,wpAny_callSpecial?_slot->cq,binaryOp->cz,wpAny_call_entry->cA,wpAny_Call_Name_kw->cC,compareOp->cF,assignEach->cN,rawInt->cO,wpAny_setField_rec->cR,wpAny_passesOwn->cU,behindInMarks->cY,codeAmong->c7,pushCells_keeps->dj,wpAny_holding->dq,foldedSetIterable->dw,argBest->dG,isTrue->dU,IsPair->dY,sliceBounds->d4,wpAny_letGo->d5,backTo->d7,wpAny_pyIter_list->d8,bindArgs->ee,wpAny_tryCatch->eA,pushCells->eN,relabel->eP,wpAny_updateSeq_pair->eR,Paired->eY,letOwnedTupleGo->e8,codeAny_mono->fq,swapsWith->fx,sysModules->fy,newFunctionEnv->fG,wpAny_rule->fJ,wpAny_binaryOp_repeat_ref->fL,sizeLine_eq->fQ,codeAny->fR,InCallC->fS,IsPart->f9,attributeBase->ga,wpAny_comprehension_free->gf,plainId_quiet->gh,wpAny_onRaise->gj,storeName->gm,noFill_tuple_add->gu,builtinsNs->gD,assign->gE,name_of_addr->gG,getItem->gH,wpAny_typeOf->gI,typeIs_int->gM,codeAny_compStart_list->gP,wpAny_execs_nil->gU,codeAny_builtin->gX,wpAny_updateSeq->gY,wpAny_storeName_local->g6,wpAny_isTrue_Compare1->g7,codeAny_call_function->g8,wpAny_storeName_cell->hZ,pyNext->ib,strIterType->io,callerA->iu,seqItems?->iy,TriplesOk->iz,valueAt->iA,wpAny_standAt->iO,swappedStores->iP,seq_tuple_add->iQ,annotationsOf->iT,wpAny_pyIter_tuple->iY,call_meets->i6,holding->jZ,wpAny_assign_Name->j2,concat_meets->j4,wpAny_sequenceKey->j7,seqIndex_neg->j8,slot_list_getitem->j9,notedBy->ka,pyIter->kg,wpAny_pyIter_zip->kx,seqSlot_of->kz,seqIndex_of->kA,BindsTo->kJ,Keyword->kK,call->kM,IsTupleKey->kN,wpAny_Name->kO,Result->kP,wpAny_call->kQ,typeIs_str->kR,PlainAttrs->kS,defaultsOf->kU,qualnameIn->kW,KeyKind->lf,lastMarks->lr,Builtin->lx
open PySem.W renaming Frag->af,tabIn->bo,kla_fn->bR,CodeHd->bS,mg_of->bU,kia_one->cf,nsIn->ci,kitOne->cu,keepIn->cE,fnX->cK,fnOf->da,envX->db,OpenLaw->di,findIn->d9,tabObj->eC,codeIn->fD,cellsFrom_some->gF,lookIn->ic,kitx_tuple->iZ,callWith_K->i3,kitx_list->j3,plainGet->kh,codeHdIn->kr,instObj->kC,exmOne->kY,TabsAt->kZ,noTabs->k6,WalkO->la
open PySem.Heap renaming get?_push_of_some->ag,get?_push_size->aH,lt_size->aI,size_push->bK,get?_update_other->bX,SameBut->cc,get?_update_self->dr,ExtBut->fW
open Nat renaming le_refl->ak,le_trans->ao,lt_of_lt_of_le->ar,ne_of_lt->aA,lt_irrefl->bE,ne_of_gt->bV,add_sub_cancel_left->cr,zero_add->cD,zero_le->c8,le_succ->dC,le_of_lt->dE,lt_succ_self->dH,lt_trans->eB,sub_self->eG,pow_le_pow_right->eW,not_lt_zero->fe,le_of_succ_le->fT,lt_succ_of_lt->fU,lt_trichotomy->fX,add_comm->gO,mul_add->ip,min_le_right->ki,le_of_not_lt->ko,strongRecOn->kH,mul_assoc->lp,succ_mul->lv,mul_comm->lw,lt_or_ge->lA,add_zero->lC
open Bool renaming and_eq_true->au,false_eq_true->aO,false_ne_true->aS,or_eq_true->bT,and_true->dQ,true_and->dR,or_eq_false_iff->eT,eq_iff_iff->fi,not_eq_true'->fY,and_eq_true_iff->hU,not_true->li,false_or->lj
open Option.some renaming inj->aw
open Option renaming map_some->aJ,map_eq_some_iff->dg,isSome_some->fI,isSome_iff_exists->f8,bind_some->gC,isSome_none->i8,getD_none->km
open PySem.Builtin.SmallTypes renaming nextOf->bh,ownedTupleIsFree->b9,ownedTupleHandOut->dJ
open PyProof.Rows renaming slot_tuple_getitem->bB,callWith_type1->dv,kindOf->eK,envOfC->fC,AllBare->fO,subscriptTail_builtinR->gJ,entry_tuple_getitem->iG,Constant_none->iM,tupleItemsOf_->iR,args_tuple_getitem->i4,IntsAre->kL
open PySem.Str renaming ofString->bD
open PySem.Builtin.Str renaming strSliceIndices->bF,tooLong->k9
open False renaming elim->bI
open Ne renaming symm->cb
open Int renaming le_trans->cw,le_refl->cy,mul_le_mul_of_nonneg_left->c9,toNat_natCast->dz,mul_le_mul_of_nonneg_right->eO,fdiv_eq_ediv_of_nonneg->fB,one_mul->fZ,zero_add->gT,natCast_mul->gZ,toNat_of_nonneg->iL,emod_lt_of_pos->jY,add_mul->kB,le_antisymm->kF,emod_nonneg->kI,sub_zero->lz,le_total->lB,le_of_lt->lD
open PySem.F renaming plain_min_loop->cL,slot_tuple_iterator_next->cQ,slot_NoneType_hash->dA,args_tuple_add_2->dM,slot_int_rmul->dX,entry_tuple_add->dZ,slot_tuple_add->ef,slot_tuple_mul->eD,args_tuple_iterator_next_1->fg,slot_zip_next->fh,entry_tuple_iterator_next->fv,entry_min_loop->gv,slot_tuple_rmul->gy,plainAttrs_list->gB,slot_list_append->g9,args_int_rmul_2->ii,slot_int_index->iH,entry_int_rmul->iI,fills_int_mul->i7,args_zip_next_1->kb,entry_zip_next->ku
open PySem.Builtin.Slice renaming slicePlaces->cS,sliceAdjust->dI,sliceApplied->fF,slicePartIndex->kD,sliceFields->k8
open Classical renaming byContradiction->cT,propDecidable->d6
open PySem.Builtin.Tuple renaming tupleExact->c5,tupleItemsOf->dB,tupleTooMany->fK,tupleIsExact->kX
open Array renaming toList_append->dL,length_toList->fm,append_assoc->iX,toList->j0
open PySem.Builtin.List renaming listTooLong->dN
open PySem.Around renaming under_plainId->eQ,frames_deeper->ig
open PySem.SeqAt.EqAt renaming same->eX,none_int->iB,none_str->iC,int_none->iD,str_none->iE,int_str->iV,str_int->iW,of_refs->jX
open PySem.Txt renaming slice->fc
open List.cons renaming injEq->fj
open PySem.Builtin.Builtins renaming bindParams->fu
open PySem.Calls renaming Name_function_global->fA,callWith_builtin->gN
open PySem.W.OpenLaw renaming wellSaid->f7
open PySem.Obj renaming mapSeq->gK,data_mapFields->i9
open PySem.SeqAt renaming EqAt->gR,RcNeAt->ly,RcAt->lL
open PySem.Heap.SameBut renaming update->iK
open Function renaming comp->iU
open PyProof.Rows.IsTup renaming new->kj
open PySem.PassesOwn renaming never->kG
open PySem.Value renaming isStrOf->lb,isInt->lE
open PySem.Paired renaming length->lh,snoc->lH
open PySem.CmpOf renaming ints_lt->ln
open PySem.Builtin.Range renaming rangeSize->lq
open PySem.StrLaws renaming found_one->ls
open PySem.W.OpenRow renaming toRowW->lu
open PySem.Heap.Ns renaming new->lG
open List.Pairwise renaming filter->lI
open PySem.Heap.IsSliceOf renaming new->lJ
open PySem.Walks renaming list->lK
abbrev yA:=List (PySem.Addr×PySem.Obj)
abbrev yB:=List (PySem.Str×PySem.Addr)
abbrev yC:=PySem.Str->Option PySem.Value
abbrev yD:=List (Option Nat)
abbrev yE:=Array (Option PySem.Value)
abbrev yF:=List (PySem.Addr×PySem.Addr)
abbrev yG:=List PySem.Value
abbrev yH:=List PySem.Str
abbrev yI:=Option PySem.Addr
abbrev yJ:=Array PySem.Value
abbrev yK:=List PySem.Expr
abbrev yL:=List PySem.Stmt
noncomputable section
namespace L2
open PySem PySem.Spec PyProof.Rows
theorem head_of {l:di}{q:aK}{loose:yH}{H:PySem.W.Hook}{N:Nat}{d:DefRec}{h:List (Str×Expr)}
  (left:PySem.W.LeftO l.row.prog q loose (λ s=>PySem.W.xlAt q [] s&&PySem.W.recOk (PySem.W.RowW.records (lu l.row)) s) H.obs H.val N)
  (y:PySem.W.defOf q l.row.name=some (d,h)) (J:l.row.prog.theDef l.row.name=some (d.params,d.body,d.scope)) (hk:PySem.W.kwWritten? d.params.kwonlyargs d.params.kw_defaults=some h) (G:(!l.row.writes||l.row.records.isEmpty)=true)
  (k1:l.row.wellSaid=true) (ok:(PySem.W.chainsOk q&&PySem.W.opensWell l.row.prog&&(PySem.W.frees l.row.toRowW&&l.row.within.isEmpty))=true) (hb:l.row.prog.bare) (hw:l.row.toRowW.promised)
  (call:la q loose (PySem.W.XL q []) H.says l.row.toRowW d h λ f vs=>kM f vs):l.row.Holds :=
 PySem.W.holds_open left H.of H.keeps (λ s e=>PySem.W.xl_of s (hU.mp e).1) PySem.W.XL.keeps y J hk (λ s e=>PySem.W.recFacts_of (hU.mp e).2) G k1 ok hb hw call
end L2
end
noncomputable section
namespace My
open PySem L2
noncomputable def nmS:Stmt->Bool
 | .Assign [.Name x _] _ _=>decide (x=("__name__"))
 | _=>false
def vq:aK:={ PySem.Challenge.pw_leasttolls_k33_whole_unrolled_words_go_w with main:={ (PySem.Challenge.pw_leasttolls_k33_whole_unrolled_words_go_w).main with body:=(PySem.Challenge.pw_leasttolls_k33_whole_unrolled_words_go_w).main.body.filter λ s=>!nmS s } }
inductive IsL:di->Prop|mk:IsL PySem.Challenge.rw_leasttolls_k33_whole_unrolled_words_go_w
theorem cg8 (h:IsL l):PySem.Challenge.rw_leasttolls_k33_whole_unrolled_words_go_w=l:=by cases h;rfl
noncomputable def lwp:{ l:di // IsL l }:=by
 refine⟨?p,?h⟩
 case h =>
  have e:PySem.Challenge.rw_leasttolls_k33_whole_unrolled_words_go_w=?p:=by
   conv=>lhs;reduce
  exact e▸IsL.mk
theorem ws1:f7 lwp.1=true:=by k_qdec
theorem ws:f7 PySem.Challenge.rw_leasttolls_k33_whole_unrolled_words_go_w=true:=by
 rw[cg8 lwp.2];exact ws1
end My
end
section
open PySem PySem.W PyProof.Rows
local macro_rules | `(tactic| o_head $H) => `(tactic| refine L2.head_of (q := My.vq) (loose := ["NoMaking"]) (H := $H) (N := 4000) (λ w => by kernel_rfl) (by rfl) (by rfl) (by rfl) rfl (by assumption) (by decide +kernel) ⟨rfl, rfl, rfl, rfl, rfl, by decide +kernel⟩ ?_ ?_)
set_option maxRecDepth 100000 in
set_option maxHeartbeats 0 in
noncomputable def My.GT:{ G:Prop // G->PySem.Challenge.rw_leasttolls_k33_whole_unrolled_words_go_w.Holds }:=by
 refine⟨?G,?h⟩
 case h =>
  intro g
  w_on;refine holds_law My.ws λ said=>?_;k_head;(focus w_witness2)
  exact g
end
noncomputable section
namespace L2
open PySem PySem.Spec PyProof.Rows
abbrev Key:=Sum Int Str
noncomputable def aK9:Key->Value->Bool
 | .inl k,v=>lE k v
 | .inr x,v=>lb x v
noncomputable def cv4 (w:World):Key->Int
 | .inl k=>hashInt k
 | .inr x=>hashStr w x
theorem zD:∀ {k} {v},aK9 k v=true->(∃ i t,k=Sum.inl i/\v=Value.int i t)\/(∃ x t,k=Sum.inr x/\v=Value.str x t)
 | .inl i,v,h=>by
  obtain⟨t,e⟩:=Value.isInt_shape h
  exact .inl ⟨i,t,rfl,e⟩
 | .inr x,v,h=>by
  obtain⟨t,e⟩:=Value.isStrOf_shape h
  exact .inr ⟨x,t,rfl,e⟩
theorem be7 i t :aK9 (.inl i) (.int i t)=true:=by simp[aK9,lE]
theorem bd5 x t :aK9 (.inr x) (.str x t)=true:=by simp[aK9,lb]
theorem ca6 a b :decide ((Sum.inl a:Key)=Sum.inl b)=(a==b):=by
 by_cases e:a=b
 .subst e;simp
 .have h:¬(Sum.inl a:Key)=Sum.inl b:=λ q=>e (Sum.inl.inj q)
  rw[decide_eq_false h]
  exact(beq_eq_false_iff_ne.mpr e).symm
theorem bX7 a b :decide ((Sum.inr a:Key)=Sum.inr b)=decide (a=b):=by
 by_cases e:a=b
 .subst e;simp
 .have h:¬(Sum.inr a:Key)=Sum.inr b:=λ q=>e (Sum.inr.inj q)
  rw[decide_eq_false h,decide_eq_false e]
theorem bZ1 a b :decide ((Sum.inl a:Key)=Sum.inr b)=false:=decide_eq_false (λ q=>nomatch q)
theorem ce7 a b :decide ((Sum.inr a:Key)=Sum.inl b)=false:=decide_eq_false (λ q=>nomatch q)
def qf prog w :lf prog w Key where
 is:=aK9
 hash:=cv4 w
 inj:=λ v a b ha hb=>by
  rcases zD ha with⟨i,t,rfl,rfl⟩|⟨x,t,rfl,rfl⟩
  .rcases zD hb with⟨j,u,rfl,e⟩|⟨y,u,rfl,e⟩
   .injection e with e1 _;rw[e1]
   .exact nomatch e
  .rcases zD hb with⟨j,u,rfl,e⟩|⟨y,u,rfl,e⟩
   .exact nomatch e
   .injection e with e1 _;rw[e1]
 byValue:=λ k v h=>by
  rcases zD h with⟨i,t,rfl,rfl⟩|⟨x,t,rfl,rfl⟩<;>rfl
 pyHash:=λ hv h=>by
  rcases zD hv with⟨i,t,rfl,rfl⟩|⟨x,t,rfl,rfl⟩
  .exact wpAny_pyHash_int h
  .exact wpAny_pyHash_str h
 eqBool:=λ hu hv h=>by
  rcases zD hu with⟨i,t,rfl,rfl⟩|⟨x,t,rfl,rfl⟩
  .rcases zD hv with⟨j,u,rfl,rfl⟩|⟨y,u,rfl,rfl⟩
   .rw[ca6]at h;exact wpAny_eqBool_int h
   .rw[bZ1]at h;exact iV i t y u _ _ _ _ h
  .rcases zD hv with⟨j,u,rfl,rfl⟩|⟨y,u,rfl,rfl⟩
   .rw[ce7]at h;exact iW x t j u _ _ _ _ h
   .rw[bX7]at h;exact wpAny_eqBool_str h
 «strs»:=λ k x t v h=>by
  rcases zD h with⟨i,u,rfl,e⟩|⟨y,u,rfl,e⟩
  .exact nomatch e
  .injection e with e1 _
   subst e1
   cases v<;>rfl
theorem aN1 prog w i t :(qf prog w).is (.inl i) (.int i t)=true:=be7 i t
theorem aM9 prog w x t :(qf prog w).is (.inr x) (.str x t)=true:=bd5 x t
abbrev FK:=Option Key
def fIs:FK->Value->Bool
 | none,v=>match v with|.none=>true|_=>false
 | some k,v=>aK9 k v
def fH (w:World):FK->Int
 | none=>0xFCA86420
 | some k=>cv4 w k
theorem qY (h:fIs none v=true):v=.none:=by
 cases v with
 | none=>rfl
 | _=>exact nomatch h
theorem bi0 (h:Q 0xFCA86420 { s with toks:=s.toks+1 }):wpAny (model P w) A (PySem.pyHash .none) Q E s:=by
 have hT:s.TypeIs .none "NoneType":=rfl
 unfold PySem.pyHash pyHashByItsType
 refine ae (wpAny_cRoomFor_byValue rfl ?_)
 refine ae (wpAny_specialOf hT dA.lookup ?_)
 rw[if_neg (by rw[beq_builtin_none];exact aS)]
 refine ae (wpAny_specialOf hT dA.lookup ?_)
 refine ae (wpAny_callSpecialIfBoundUnlessNone?_slot hT dA (cA dA hT F.entry_NoneType_hash
   (wpAny_ret_mkInt ?_) (F.args_NoneType_hash_1 _)))
 show wpAny _ _ (if _ then _ else _) Q E _
 rw[if_pos (by decide)]
 exact aC h
def aW4 prog w :lf prog w FK where
 is:=fIs
 hash:=fH w
 inj:=λ v a b ha hb=>by
  cases a with
  | none =>
   cases qY ha
   cases b with
   | none=>rfl
   | some k=>rcases zD hb with⟨_,_,_,e⟩|⟨_,_,_,e⟩<;>exact nomatch e
  | some k =>
   cases b with
   | none=>cases qY hb;rcases zD ha with⟨_,_,_,e⟩|⟨_,_,_,e⟩<;>exact nomatch e
   | some j=>exact congrArg some ((qf prog w).inj v k j ha hb)
 byValue:=λ k v h=>by
  cases k with
  | none=>cases qY h;rfl
  | some k=>exact(qf prog w).byValue k v h
 pyHash:=λ {A E s k v Q} hv h=>by
  cases k with
  | none=>cases qY hv;exact bi0 h
  | some k=>exact(qf prog w).pyHash hv h
 eqBool:=λ {A E s a b u v Q} hu hv h=>by
  cases a with
  | none =>
   cases qY hu
   cases b with
   | none=>cases qY hv;exact eX _ prog w E Q h
   | some k =>
    rcases zD hv with⟨i,t,rfl,rfl⟩|⟨x,t,rfl,rfl⟩
    .exact iB i t _ _ _ _ h
    .exact iC x t _ _ _ _ h
  | some k =>
   cases b with
   | none =>
    cases qY hv
    rcases zD hu with⟨i,t,rfl,rfl⟩|⟨x,t,rfl,rfl⟩
    .exact iD i t _ _ _ _ h
    .exact iE x t _ _ _ _ h
   | some j =>
    refine(qf prog w).eqBool hu hv ?_
    have e:decide (k=j)=decide (some k=some j):=by simp
    rw[e];exact h
 «strs»:=λ k x t v h=>by
  cases k with
  | none=>exact nomatch qY h
  | some k=>exact(qf prog w).strs k x t v h
abbrev NI:=Sum FK (List FK)
section
variable (P:aK) (w:World)
def NIs (h:Heap):NI->Value->Prop
 | .inl f,v=>fIs f v=true
 | .inr l,v=>∃ b,v=.ref b/\kN (aW4 P w) h l b
def cq9 (h:Heap)(ks:List NI)(a:Addr):Prop:=∃ o its n,h.get? a=some o/\o.cls=.type "tuple"/\o.data=.seq its n/\eY (NIs P w h) ks its.toList
end
section
variable {P:aK} {w:World} {h h':Heap}
theorem NIs.inj (hx:NIs P w h x v)(hy:NIs P w h y v):x=y:=by
 cases x with
 | inl f =>
  cases y with
  | inl g=>exact congrArg Sum.inl ((aW4 P w).inj v f g hx hy)
  | inr l =>
   obtain⟨b,rfl,_⟩:=hy
   exact absurd ((aW4 P w).byValue f _ hx) (by nofun)
 | inr l =>
  obtain⟨b,rfl,hb⟩:=hx
  cases y with
  | inl g=>exact absurd ((aW4 P w).byValue g _ hy) (by nofun)
  | inr m =>
   obtain⟨c,e,hc⟩:=hy
   cases e
   exact congrArg Sum.inr (hb.inj hc)
theorem NIs.all_inj:∀ {x y} {vs:yG},eY (NIs P w h) x vs->eY (NIs P w h) y vs->x=y
 | _,_,_,.nil,.nil=>rfl
 | _,_,_,.cons a p,.cons b q=>by rw[a.inj b,NIs.all_inj p q]
theorem cq9.inj (hx:cq9 P w h x a)(hy:cq9 P w h y a):x=y:=by
 obtain⟨o,i,n,e,_,d,p⟩:=hx
 obtain⟨Y,J,Z,e',_,d',G⟩:=hy
 rw[e]at e';cases e'
 rw[d]at d';cases d'
 exact NIs.all_inj p G
theorem NIs.keep (k:∀ b l,kN (aW4 P w) h l b->kN (aW4 P w) h' l b)(hx:NIs P w h x v):NIs P w h' x v:=by
 cases x with
 | inl f=>exact hx
 | inr l=>obtain⟨b,e,p⟩:=hx;exact⟨b,e,k _ _ p⟩
end
inductive V where
 | N|T (b:Bool)|int (i:Int)|str (x:Str)|byt (b:Array UInt8)|flt (b:UInt64)|ref (a:Addr)|ty (n:String)
 deriving DecidableEq
noncomputable def RelV:V->Value->Prop
 | .N,u=>u=Value.none
 | .T b,u=>u=Value.bool b
 | .int i,u=>∃ t,u=Value.int i t
 | .str x,u=>∃ t,u=Value.str x t
 | .byt b,u=>∃ t,u=Value.bytes b t
 | .flt b,u=>∃ t,u=Value.float b t
 | .ref a,u=>u=Value.ref a
 | .ty n,u=>u=Value.type n
abbrev Vals:List V->List Value->Prop:=eY RelV
theorem Vals.length {us:yG}(r:Vals h us):h.length=us.length:=lh r
theorem Vals.get:∀ {h} {us:yG} {i:Nat} {x},Vals h us->h[i]?=some x->∃ u,us[i]?=some u/\RelV x u
 | _,_,_,_,.nil,e=>by simp at e
 | _,_,0,_,.cons r _,e=>by simp at e;subst e;exact⟨_,rfl,r⟩
 | _,_,i+1,x,.cons _ t,e=>by
  obtain⟨u,y,G⟩:=Vals.get t (by simpa using e)
  exact⟨u,by simpa using y,G⟩
theorem Vals.set (r:RelV x u):∀ {h} {us:yG} i ,Vals h us->Vals (h.set i x) (us.set i u)
 | _,_,_,.nil=>.nil
 | _,_,0,.cons _ t=>.cons r t
 | _,_,i+1,.cons q t=>.cons q (Vals.set r i t)
theorem Vals.append:∀ {h ys} {us ws:yG},Vals h us->Vals ys ws->Vals (h++ys) (us++ws)
 | _,_,_,_,.nil,s=>s
 | _,_,_,_,.cons r t,s=>.cons r (Vals.append t s)
theorem Vals.take:∀ {h} {us:yG} n ,Vals h us->Vals (h.take n) (us.take n)
 | _,_,0,_=>.nil
 | _,_,_+1,.nil=>.nil
 | _,_,n+1,.cons r t=>.cons r (Vals.take n t)
theorem Vals.drop:∀ {h} {us:yG} n ,Vals h us->Vals (h.drop n) (us.drop n)
 | _,_,0,r=>r
 | _,_,_+1,.nil=>.nil
 | _,_,n+1,.cons _ t=>Vals.drop n t
def bq8:Option V->Option Value->Prop
 | some v,some u=>RelV v u
 | none,none=>True
 | _,_=>False
def KV :List (κ×V)->List (κ×Value)->Prop:=eY λ(p) (q)=>p.1=q.1/\RelV p.2 q.2
noncomputable def kV:Key->V
 | .inl i=>.int i
 | .inr x=>.str x
inductive HO where
 | J (xs:List V)
 | tp (xs:List V)
 | dK (kvs:List (Key×V))
 | own (x:Addr)
 | xd (fs:List (Str×V))
 | rng (lo hi:Int)
 | frz (o:Obj) (u:HO)
 | tbl (ps:yJ)
 | ext (C:Heap->Prop)
abbrev Hp:=Addr->Option HO
def fV:FK->V
 | none=>.N
 | some k=>kV k
def NAt (H:Hp):NI->V->Prop
 | .inl f,v=>v=fV f
 | .inr l,v=>∃ c,v=.ref c/\H c=some (.tp (l.map fV))
def NK (H:Hp)(k:List NI)(b:Addr):Prop:=∃ xs,H b=some (.tp xs)/\eY (NAt H) k xs
theorem NAt.mono (ht:∀ b y,H b=some (.tp y)->H' b=some (.tp y))(h:NAt H k v):NAt H' k v:=by
 cases k with
 | inl f=>exact h
 | inr l=>obtain⟨c,e,q⟩:=h;exact⟨c,e,ht _ _ q⟩
theorem NK.mono (ht:∀ b y,H b=some (.tp y)->H' b=some (.tp y))(h:NK H k b):NK H' k b:=let⟨y,e,p⟩:=h;⟨y,ht _ _ e,Paired.mono (λ _ _ z=>z.mono ht) p⟩
noncomputable def upd (H:Hp)(a:Addr)(o:HO):Hp:=λ b=>if b=a then some o else H b
theorem zo :upd H a o a=some o:=by unfold upd;rw[if_pos rfl]
theorem zm (h:b≠a):upd H a o b=H b:=by unfold upd;rw[if_neg h]
theorem zK {H:Hp}(h:H a=some o)(h':H b=none):a≠b:=by
 intro e;subst e;rw[h]at h';cases h'
section
variable (P:aK) (w:World)
def ag0 (H:Hp)(h:Heap)(a:Addr):HO->Prop
 | .J xs=>xs.length<=aQ/\∃ its   n ,Vals xs its/\h.get? a=some { cls:=.type "list",data:=.seq its.toArray n }
 | .tp xs=>xs.length<=aQ/\∃ its,Vals xs its/\IsTup h a its.toArray
 | .dK kvs=>kvs.length<=aQ/\(a==fy)=false/\∃ vs,KV kvs vs/\h.DictOf (qf P w) a vs
 | .own _=>∃ o,h.get? a=some o
 | .xd fs=>∃ mA,h.Ns1 a mA/\∀ f,bq8 (fs.lookup f) (mA f)
 | .rng lo hi=>∃ t u v,h.get? a=some { cls:=.type "range",data:=.fields #[.int lo t,.int hi u,.int 1 v] }
 | .frz o u=>h.get? a=some o/\ag0 H h a u
 | .tbl ps=>h.get? a=some { cls:=.none,data:=.fields ps }
 | .ext C=>C h/\(∃ o,h.get? a=some o)/\∀ h1 h2:Heap,C h1->(∀ o,h1.get? a=some o->h2.get? a=some o)->C h2
def HOk (H:Hp)(h:Heap):Prop:=∀ a o,H a=some o->ag0 P w H h a o
end
section
variable {P:aK} {w:World} {H H':Hp} {h h':Heap} {a:Addr} {o:HO}
theorem ag0.lt (x:ag0 P w H h a o):a<h.objs.size:=by
 cases o with
 | J xs=>obtain⟨_,_,_,_,e⟩:=x;exact aI e
 | tp xs=>obtain⟨_,_,_,p⟩:=x;exact p.lt
 | dK kvs=>obtain⟨_,_,_,_,o,_,_,e,_⟩:=x;exact aI e
 | own y=>obtain⟨_,e⟩:=x;exact aI e
 | xd fs=>obtain⟨_,⟨_,_,_,e,_⟩,_⟩:=x;exact aI e
 | rng lo hi=>obtain⟨_,_,_,e⟩:=x;exact aI e
 | frz ob u=>obtain⟨e,_⟩:=x;exact aI e
 | tbl ps=>exact aI (x)
 | ext C=>obtain⟨_,⟨_,e⟩,_⟩:=x;exact aI e
theorem eY.mapP :∀ {y} {h},eY F y h->(∀ a b,F a b->G a b)->eY G y h
 | _,_,.nil,_=>.nil
 | _,_,.cons r t,f=>.cons (f _ _ r) (eY.mapP t f)
theorem ag0.stay (x:ag0 P w H h a o)(k:∀ b u,(b=a\/H b=some (.own a))->h.get? b=some u->h'.get? b=some u)
  (ho:∀ b,H b=some (.own a)->H' b=some (.own a)) (ht:∀ b G,H b=some (.tp G)->H' b=some (.tp G)):ag0 P w H' h' a o:=by
 induction o with
 | J G=>obtain⟨z,its,n,r,e⟩:=x;exact⟨z,its,n,r,k _ _ (.inl rfl) e⟩
 | tp G=>obtain⟨z,its,r,ob,e,c⟩:=x;exact⟨z,its,r,ob,k _ _ (.inl rfl) e,c⟩
 | dK kvs=>obtain⟨z,y,vs,r,ob,es,J,e,c⟩:=x;exact⟨z,y,vs,r,ob,es,J,k _ _ (.inl rfl) e,c⟩
 | own y=>obtain⟨ob,e⟩:=x;exact⟨ob,k _ _ (.inl rfl) e⟩
 | xd fs=>obtain⟨Y,⟨od,es,J,e,c⟩,r⟩:=x;exact⟨Y,⟨od,es,J,k _ _ (.inl rfl) e,c⟩,r⟩
 | rng lo hi=>obtain⟨t,u,v,e⟩:=x;exact⟨t,u,v,k _ _ (.inl rfl) e⟩
 | frz ob u ih=>obtain⟨e,q⟩:=x;exact⟨k _ _ (.inl rfl) e,ih q⟩
 | tbl ps =>
  have e:=x
  exact k a _ (.inl rfl) e
 | ext C=>obtain⟨p,⟨o,e⟩,st⟩:=x;exact⟨st _ _ p λ o q=>k _ _ (.inl rfl) q,⟨o,k _ _ (.inl rfl) e⟩,st⟩
theorem HOk.lt (x:HOk P w H h)(e:H a=some o):a<h.objs.size:=(x a o e).lt
theorem HOk.fresh (x:HOk P w H h)(e:h.objs.size<=a):H a=none:=by
 cases q:H a with
 | none=>rfl
 | some u=>exact absurd (ar (x.lt q) e) (bE _)
theorem HOk.kept (x:HOk P w H h)(k:∀ b u,h.get? b=some u->h'.get? b=some u):HOk P w H h':=λ a o e =>
 (x a o e).stay (λ b u _ q=>k b u q) (λ _ q=>q) λ _ _ q=>q
theorem HOk.laid (x:HOk P w H h)(k:∀ b u,h.get? b=some u->h'.get? b=some u)(y:h.objs.size<=a)(new:ag0 P w (upd H a o) h' a o):HOk P w (upd H a o) h':=λ b u e=>by
 have hn:=x.fresh y
 by_cases hb:b=a
 .subst hb;rw[zo]at e;cases e;exact new
 .rw[zm hb]at e
  exact(x b u e).stay (λ c v _ q=>k c v q) (λ c q=>by rw[zm (zK q hn)];exact q) λ c G q=>by rw[zm (zK q hn)];exact q
end
def Rd (H:Hp)(a:Addr)(u:HO):Prop:=H a=some u\/∃ o,H a=some (.frz o u)
theorem Rd.ok (r:Rd H a u)(x:HOk P w H h):ag0 P w H h a u:=by
 rcases r with r|⟨o,r⟩
 .exact x a u r
 .obtain⟨_,q⟩:=x a _ r
  exact q
noncomputable def Mut:Option HO->Prop
 | some (.J _)=>True
 | some (.dK _)=>True
 | some (.ext _)=>True
 | _=>False
section
variable {P:aK} {w:World} {H:Hp} {h h':Heap} {x e:Addr} {o':HO}
theorem HOk.write (ok:HOk P w H h)(mu:Mut (H x))(he:e=x\/H e=some (.own x))(k:∀ b u,b≠e->h.get? b=some u->h'.get? b=some u)(Z:∃ u,h'.get? e=some u)
  (new:ag0 P w (upd H x o') h' x o'):HOk P w (upd H x o') h':=λ b u q=>by
 have G:∀ c y,H c=some (.own y)->c≠x:=λ c y r z=>by subst z;rw[r]at mu;exact mu
 have J:∀ c Y,H c=some (.tp Y)->c≠x:=λ c Y r z=>by subst z;rw[r]at mu;exact mu
 by_cases hb:b=x
 .subst hb;rw[zo]at q;cases q;exact new
 .rw[zm hb]at q
  by_cases hbe:b=e
  .have q':H b=some (.own x):=by
    rcases he with z|z
    .exact absurd (hbe.trans z) hb
    .rw[hbe];exact z
   rw[q]at q';cases q'
   obtain⟨v,hv⟩:=Z
   exact⟨v,by rw[hbe];exact hv⟩
  .refine(ok b u q).stay (λ c v hc r=>k c v ?_ r) (λ c r=>by rw[zm (G c b r)];exact r) λ c Y r=>by rw[zm (J c Y r)];exact r
   rcases hc with rfl|hc
   .exact hbe
   .rintro rfl
    rcases he with z|z
    .exact G c b hc z
    .rw[hc]at z;cases z;exact hb rfl
end
structure Un (fs ex:List Addr)(H H':Hp)(h h':Heap):Prop where
 keep:∀ b o,h.get? b=some o->H b=none->b ∉ fs->b ∉ ex->h'.get? b=some o
 slot:∀ b o,h.get? b=some o->H b=none->b∈fs->b ∉ ex->∃ sl,h'.get? b=some { o with slots:=sl }
 free:∀ b o,h.get? b=some o->H b=none->b ∉ ex->H' b=none
 there:∀ b o,h.get? b=some o->b ∉ ex->∃ o',h'.get? b=some o'
 tups:∀ b xs,H b=some (.tp xs)->H' b=some (.tp xs)
 frzs:∀ b o u,H b=some (.frz o u)->H' b=some (.frz o u)
 tbls:∀ b ps,H b=some (.tbl ps)->∃ more,H' b=some (.tbl (ps++more))
section
variable {fs fs' ex ex':List Addr} {H H1 H2:Hp} {h h1 h2 h':Heap} {a x e:Addr} {o:HO}
theorem Un.any (u:Un fs ex H H1 h h1)(q:h.get? b=some ob)(n:H b=none)(hx:b ∉ ex):∃ sl,h1.get? b=some { ob with slots:=sl }:=by
 by_cases hb:b∈fs
 .exact u.slot b ob q n hb hx
 .exact⟨ob.slots,u.keep b ob q n hb hx⟩
theorem Un.kept (k:∀ b u,h.get? b=some u->h'.get? b=some u):Un fs ex H H h h' :=
 ⟨λ b ob q _ _ _=>k b ob q,λ b ob q _ _ _=>⟨ob.slots,k b ob q⟩,λ _ _ _ n _=>n,λ b ob q _=>⟨ob,k b ob q⟩,λ _ _ q=>q,λ _ _ _ q=>q,λ _ ps q=>⟨#[],by rw[q];simp⟩⟩
theorem Un.refl:Un fs ex H H h h:=Un.kept λ _ _ q=>q
theorem Un.laid (k:∀ b u,h.get? b=some u->h'.get? b=some u)(y:h.objs.size<=a)(hn:H a=none):Un fs ex H (upd H a o) h h' where
 keep:=λ b u q _ _ _=>k b u q
 slot:=λ b u q _ _ _=>⟨u.slots,k b u q⟩
 free:=λ b u q n _=>by rw[zm (aA (ar (aI q) y))];exact n
 there:=λ b u q _=>⟨u,k b u q⟩
 tups:=λ b G q=>by rw[zm (zK q hn)];exact q
 frzs:=λ b u G q=>by rw[zm (zK q hn)];exact q
 tbls:=λ b ps q=>⟨#[],by rw[zm (zK q hn),q];simp⟩
theorem Un.write (mu:Mut (H x))(Z:e=x\/H e=some (.own x))(k:∀ b u,b≠e->h.get? b=some u->h'.get? b=some u)(y:∃ u,h'.get? e=some u):Un fs ex H (upd H x o) h h':=by
 have hx:∀ b,H b=none->b≠x:=λ b n z=>by subst z;rw[n]at mu;exact mu
 have hb:∀ b,H b=none->b≠e:=λ b n z=>by
  subst z
  rcases Z with r|r
  .exact hx b n r
  .rw[n]at r;cases r
 have G:∀ b u,H b=some u->¬ Mut (some u)->b≠x:=λ b u q J z=>by subst z;rw[q]at mu;exact J mu
 refine⟨λ b u q n _ _=>k b u (hb b n) q,λ b u q n _ _=>⟨u.slots,k b u (hb b n) q⟩,λ b u q n _=>by rw[zm (hx b n)];exact n,λ b u q _=>?_,
  λ b Y q=>by rw[zm (G b _ q λ z=>z)];exact q,λ b u Y q=>by rw[zm (G b _ q λ z=>z)];exact q,λ b ps q=>⟨#[],by rw[zm (G b _ q λ z=>z),q];simp⟩⟩
 by_cases hbe:b=e
 .subst hbe;exact y
 .exact⟨u,k b u hbe q⟩
end
noncomputable def trk (h:Heap)(H:Hp):List Addr:=(ai h.objs.size).filter λ a=>(H a).isSome
def bq7 (h:Heap)(H:Hp):Heap:=PySem.W.hideAll h (trk h H)
theorem be2 h H :(bq7 h H).objs.size=h.objs.size:=PySem.W.hideAll_size _ _
theorem an8 (e:h.get? b=some o)(n:H b=none):(bq7 h H).get? b=some o :=
 PySem.W.hideAll_get _ e λ y=>by
  have q:=(eZ.mp y).2
  rw[n]at q;simp at q
theorem bR7 (e:(bq7 h H).get? b=some o):h.get? b=some o/\H b=none:=by
 have e':=PySem.W.of_hideAll (trk h H) e
 refine⟨e',?_⟩
 cases q:H b with
 | none=>rfl
 | some x =>
  have y:b∈trk h H:=eZ.mpr ⟨bq.mpr (aI e'),by simp[q]⟩
  have z:(bq7 h H).get? b=none:=PySem.W.hideAll_none (trk h H) y
  rw[z]at e;cases e
noncomputable def bG0 (g h:Heap)(L:Addr):List (Addr×Obj):=(ai h.objs.size).filterMap λ a=>if a=L\/(g.get? a).isSome=true then none else(h.get? a).map λ o=>(a,o)
def rest (g h:Heap)(L d:Addr):List (Addr×Obj):=(bG0 g h L).filter λ p=>decide (p.1≠d)
structure Mod (K:af)(mg:yC)(base:Heap):Prop where
 kin:K.In base
 glob:base.Ns aY mg
 blt:∃ mb,base.Ns gD mb/\∀ x:Str,x ≠ "__name__"->mb x=bz x
 nolimit:base.NoLimit
structure Cx where
 prog:aK
 w:World
 K:af
 mg:Str->Option Value
 base:Heap
 A:aV
 N:List Str
 s₀:ah
 H₀:Hp
 env:Env
 outer:List Env
 stack:List Env
 ex:List Addr
 fn:Str->Bool
 calm:Bool
 pn:List (Addr×Obj)
 xe:Value->ah->Prop
noncomputable def frs (l:List Env):List Addr:=l.filterMap (·.frame)
abbrev Cx.fs (X:Cx):List Addr:=frs X.outer
def Vis (sc:Scope)(x:Str):Prop:=sc.names.lookup x=some .local\/sc.names.lookup x=some .cell\/sc.names.lookup x=some .free
def Loc (sc:Scope)(x:Str):Prop:=sc.names.lookup x=some .local\/sc.names.lookup x=some .cell
def Look (env:Env)(h:Heap)(m:yC)(x:Str)(u:Value):Prop :=
 (env.kindOf x=some .local/\m x=some u)\/((env.kindOf x=some .cell\/env.kindOf x=some .free)/\∃ c,env.cells.lookup x=some c/\h.IsCell c (some u))
structure Cx.Ok (X:Cx):Prop where
 mod:Mod X.K X.mg X.base
 kind:X.env.scope.kind=.function
 glob:X.env.globals=aY
 blt:X.env.builtins=gD
 above:X.s₀.heap.objs.size<=X.env.locals
 inj:∀ x y c,X.env.cells.lookup x=some c->X.env.cells.lookup y=some c->x=y
 has:∀ x,(X.env.kindOf x=some .cell\/X.env.kindOf x=some .free)->∃ c,X.env.cells.lookup x=some c
 cab:∀ x c,X.fn x=true->X.env.cells.lookup x=some c->X.s₀.heap.objs.size<=c
 hd:X.calm=true->X.A.handled=none
 frames:X.A.frames=some X.stack
 stk:X.stack=X.outer\/(X.stack=X.env::X.outer/\X.env.frame=some X.env.locals)
 exf:∀ b∈X.ex,b≠X.env.locals/\∀ x c,X.env.cells.lookup x=some c->c≠b
 bs:∀ b o,X.base.get? b=some o->X.s₀.heap.get? b=some o/\X.H₀ b=none
 bsz:X.base.objs.size<=X.s₀.heap.objs.size
 noex:∀ b o,X.base.get? b=some o->b ∉ X.ex
 exfs:∀ b∈X.ex,b ∉ X.fs
 funs:X.s₀.heap.FunFrames X.base X.outer
 frf:∀ b∈X.fs,X.H₀ b=none
structure Inv (X:Cx)(pins:yA)(W:List (Option V))(H:Hp)(s:ah):Prop where
 ok:X.Ok
 os:s.os=X.s₀.os
 bare:fO s.gens
 base:Un X.fs X.ex X.H₀ H X.s₀.heap s.heap
 loc:∃ m,s.heap.Ns X.env.locals m/\∀(i:Nat) (x:Str) (v:V),X.N[i]?=some x->W[i]?=some (some v)->Vis X.env.scope x->∃ u,RelV v u/\Look X.env s.heap m x u
 cell:∀ x c,X.env.cells.lookup x=some c->∃ v,s.heap.IsCell c v
 free:H X.env.locals=none
 freeC:∀ x c,X.env.cells.lookup x=some c->H c=none
 pin:∀ p∈X.pn++pins,s.heap.get? p.1=some p.2/\H p.1=none/\p.1≠X.env.locals/\p.1 ∉ X.fs/\∀ v,p.2.data≠.cell v
 hok:HOk X.prog X.w H s.heap
 len:W.length=X.N.length
section
variable {X:Cx} {pins:yA} {W:List (Option V)} {H H':Hp} {s:ah} {h':Heap}
theorem Cx.Ok.nofr (ok:X.Ok)(e:X.base.get? b=some o):b ∉ X.fs:=λ hb=>by
 have:=(ok.funs.mem hb).1
 rw[e]at this;cases this
theorem Inv.bs (I:Inv X pins W H s):∀ b o,X.base.get? b=some o->s.heap.get? b=some o/\H b=none:=λ b o e =>
 ⟨I.base.keep b o (I.ok.bs b o e).1 (I.ok.bs b o e).2 (I.ok.nofr e) (I.ok.noex b o e),I.base.free b o (I.ok.bs b o e).1 (I.ok.bs b o e).2 (I.ok.noex b o e)⟩
theorem Inv.bk (I:Inv X pins W H s):∀ b o,X.base.get? b=some o->s.heap.get? b=some o:=λ b o e=>(I.bs b o e).1
theorem Inv.mod (I:Inv X pins W H s):Mod X.K X.mg X.base:=I.ok.mod
theorem Inv.kIn (I:Inv X pins W H s):X.K.In s.heap:=I.ok.mod.kin.keeps I.bk
theorem Inv.nolimit (I:Inv X pins W H s):s.heap.NoLimit:=I.ok.mod.nolimit.keeps I.bk
theorem Inv.lt (I:Inv X pins W H s):X.env.locals<s.heap.objs.size:=let⟨_,hn,_⟩:=I.loc;hn.lt
theorem Inv.sz (I:Inv X pins W H s):X.s₀.heap.objs.size<=s.heap.objs.size:=ao I.ok.above (dE I.lt)
theorem Inv.nofs (I:Inv X pins W H s){a:Addr}(h:s.heap.objs.size<=a):a ∉ X.fs:=λ hb=>by
 obtain⟨_,o,ho,_⟩:=I.ok.funs.mem hb
 exact absurd (ar (aI ho) (ao I.sz h)) (bE _)
theorem Inv.cne (I:Inv X pins W H s):∀ x c,X.env.cells.lookup x=some c->c≠X.env.locals:=λ x c e z=>by
 obtain⟨v,o,ho,hd⟩:=I.cell x c e
 obtain⟨m,⟨G,es,J,y,h,_⟩,_⟩:=I.loc
 rw[z,y]at ho;cases ho;rw[h]at hd;cases hd
theorem Inv.funs (I:Inv X pins W H s):s.heap.FunFrames X.base X.outer:=by
 have all:∀ l ,(∀ b∈frs l,b∈X.fs)->X.s₀.heap.FunFrames X.base l->s.heap.FunFrames X.base l:=by
  intro l
  induction l with
  | nil=>intro _ _;trivial
  | cons env r ih =>
   intro hs hl
   obtain⟨hk,⟨L,o,h,hn,ho,hd⟩,G⟩:=hl
   have y:=hs L (by unfold frs;rw[bC,h];exact aG)
   obtain⟨sl,e⟩:=I.base.slot L o ho (I.ok.frf L y) y λ z=>I.ok.exfs L z y
   exact⟨hk,⟨L,_,h,hn,e,hd⟩,ih (λ b hb=>hs b (by unfold frs;rw[bC,h];exact aE _ hb)) G⟩
 exact all X.outer (λ _ hb=>hb) I.ok.funs
theorem Inv.stack (I:Inv X pins W H s):s.heap.FunFrames X.base X.stack:=by
 rcases I.ok.stk with e|⟨e,h⟩
 .rw[e];exact I.funs
 .rw[e]
  obtain⟨m,hn,_⟩:=I.loc
  refine .cons (by rw[I.ok.kind];decide) h hn ?_ I.funs
  exact Heap.get?_none_of_le (ao I.ok.bsz I.ok.above)
theorem Inv.stkSub (I:Inv X pins W H s):∀ b∈frs X.stack,b∈X.env.locals::X.fs:=λ b hb=>by
 rcases I.ok.stk with e|⟨e,h⟩
 .rw[e]at hb;exact aE _ hb
 .rw[e]at hb
  unfold frs at hb
  rw[bC,h]at hb
  exact hb
theorem Inv.stkFree (I:Inv X pins W H s):∀ b∈frs X.stack,H b=none:=λ b hb=>by
 rcases aB.mp (I.stkSub b hb)with e|hb
 .rw[e];exact I.free
 .obtain⟨_,o,ho,_⟩:=I.ok.funs.mem hb
  exact I.base.free b o ho (I.ok.frf b hb) λ z=>I.ok.exfs b z hb
theorem Inv.step {ch:List Addr}(I:Inv X pins W H s)
  (y:∀ b∈ch,(b∈X.ex\/X.s₀.heap.objs.size<=b)/\b≠X.env.locals/\(∀ x c,X.env.cells.lookup x=some c->c≠b)/\∀ p∈X.pn++pins,p.1≠b)
  (keep:∀ b o,b≠X.env.locals->b ∉ X.fs->b ∉ ch->s.heap.get? b=some o->H b=none->h'.get? b=some o)
  (slot:∀ b o,b≠X.env.locals->b∈X.fs->b ∉ ch->s.heap.get? b=some o->H b=none->∃ sl,h'.get? b=some { o with slots:=sl }) (free:∀ b o,b ∉ ch->s.heap.get? b=some o->H b=none->H' b=none)
  (there:∀ b o,b ∉ ch->s.heap.get? b=some o->∃ o',h'.get? b=some o')
  (tups:∀ b Y,H b=some (.tp Y)->H' b=some (.tp Y)) (frzs:∀ b o u,H b=some (.frz o u)->H' b=some (.frz o u)) (tbls:∀ b ps,H b=some (.tbl ps)->∃ Z,H' b=some (.tbl (ps++Z)))
  (ns:∀ m,s.heap.Ns X.env.locals m->h'.Ns X.env.locals m) (hok:HOk X.prog X.w H' h') (hg:fO g') :
  Inv X pins W H' { s with heap:=h',gens:=g',drawn:=d',toks:=t' }:=by
 have a0:∀ b o,X.s₀.heap.get? b=some o->b≠X.env.locals:=λ b o e=>aA (ar (aI e) I.ok.above)
 have J:∀ b o,X.s₀.heap.get? b=some o->b ∉ X.ex->b ∉ ch:=λ b o e hx hb=>by
  rcases(y b hb).1 with z|z
  .exact hx z
  .exact absurd (ar (aI e) z) (bE _)
 have h:∀ x c,X.env.cells.lookup x=some c->∀ v,s.heap.IsCell c v->h'.IsCell c v:=λ x c e v ⟨o,ho,hd⟩=>by
  have G:c ∉ ch:=λ z=>(y c z).2.2.1 x c e rfl
  by_cases hc:c∈X.fs
  .obtain⟨sl,q⟩:=slot c o (I.cne x c e) hc G ho (I.freeC x c e)
   exact⟨_,q,hd⟩
  .exact⟨o,keep c o (I.cne x c e) hc G ho (I.freeC x c e),hd⟩
 refine⟨I.ok,I.os,hg,⟨λ b o e n hb hx=>?_,λ b o e n hb hx=>?_,λ b o e n hx=>?_,λ b o e hx=>?_,λ b Y e=>tups b Y (I.base.tups b Y e),λ b o Y e=>frzs b o Y (I.base.frzs b o Y e),λ b ps e=>?_⟩,?_,λ x c e=>?_,?_,λ x c e=>?_,λ p hp=>?_,hok,I.len⟩
 .exact keep b o (a0 b o e) hb (J b o e hx) (I.base.keep b o e n hb hx) (I.base.free b o e n hx)
 .obtain⟨sl,e1⟩:=I.base.slot b o e n hb hx
  obtain⟨a1,e2⟩:=slot b _ (a0 b o e) hb (J b o e hx) e1 (I.base.free b o e n hx)
  exact⟨a1,e2⟩
 .obtain⟨o',e1⟩:=I.base.there b o e hx
  exact free b o' (J b o e hx) e1 (I.base.free b o e n hx)
 .obtain⟨o',e1⟩:=I.base.there b o e hx
  exact there b o' (J b o e hx) e1
 .obtain⟨m1,e1⟩:=I.base.tbls b ps e
  obtain⟨m2,e2⟩:=tbls b _ e1
  exact⟨m1++m2,by rw[e2,iX]⟩
 .obtain⟨m,hn,hl⟩:=I.loc
  refine⟨m,ns m hn,λ i x v e1 e2 e3=>?_⟩
  obtain⟨u,r,l⟩:=hl i x v e1 e2 e3
  refine⟨u,r,?_⟩
  rcases l with l|⟨k,c,e,z⟩
  .exact .inl l
  .exact .inr ⟨k,c,e,h x c e _ z⟩
 .obtain⟨v,z⟩:=I.cell x c e
  exact⟨v,h x c e v z⟩
 .obtain⟨m,⟨o,_,_,ho,_⟩,_⟩:=I.loc
  exact free _ o (λ z=>(y _ z).2.1 rfl) ho I.free
 .obtain⟨v,o,ho,hd⟩:=I.cell x c e
  exact free c o (λ z=>(y c z).2.2.1 x c e rfl) ho (I.freeC x c e)
 .obtain⟨e,n,ne,nf,d⟩:=I.pin p hp
  have G:p.1 ∉ ch:=λ z=>(y p.1 z).2.2.2 p hp rfl
  exact⟨keep p.1 p.2 ne nf G e n,free p.1 p.2 G e n,ne,nf,d⟩
theorem Inv.un (I:Inv X pins W H s)(u:Un X.fs [] H H' s.heap h')(hok:HOk X.prog X.w H' h'):Inv X pins W H' { s with heap:=h',toks:=t' }:=by
 obtain⟨m,⟨o,es,ep,ho,r⟩,_⟩:=id I.loc
 obtain⟨sl,Y⟩:=u.any ho I.free (by simp)
 exact I.step (ch:=[]) (λ _ z=>nomatch z) (λ b o _ hb _ e n=>u.keep b o e n hb (by simp)) (λ b o _ hb _ e n=>u.slot b o e n hb (by simp)) (λ b o _ e n=>u.free b o e n (by simp)) (λ b o _ e=>u.there b o e (by simp)) u.tups u.frzs u.tbls (λ m' Z=>by
  obtain⟨o',y,G,h,J⟩:=Z
  rw[ho]at h;cases h
  exact⟨_,y,G,Y,J⟩) hok I.bare
theorem Inv.call (I:Inv X pins W H s)(u:Un (frs X.stack) ch H H' s.heap h')(hok:HOk X.prog X.w H' h')(hg:fO g')
  (h:∀ b∈ch,(b∈X.ex\/X.s₀.heap.objs.size<=b)/\b≠X.env.locals/\(∀ x c,X.env.cells.lookup x=some c->c≠b)/\∀ p∈X.pn++pins,p.1≠b) :
  Inv X pins W H' { s with heap:=h',gens:=g',drawn:=d',toks:=t' }:=by
 obtain⟨m,⟨o,es,ep,ho,r⟩,_⟩:=id I.loc
 obtain⟨sl,G⟩:=u.any ho I.free λ z=>(h _ z).2.1 rfl
 exact I.step h (λ b o G hb hc e n=>u.keep b o e n (λ z=>(aB.mp (I.stkSub b z)).elim G hb) hc) (λ b o _ _ hc e n=>u.any e n hc) (λ b o hc e n=>u.free b o e n hc) (λ b o hc e=>u.there b o e hc) u.tups u.frzs u.tbls (λ m' hm=>by
  obtain⟨o',Y,J,y,Z⟩:=hm
  rw[ho]at y;cases y
  exact⟨_,Y,J,G,Z⟩) hok hg
theorem Inv.turned (I:Inv X pins W H s)(k:∀ b o,b≠it->s.heap.get? b=some o->h'.get? b=some o)(hn:H it=none)(y:it≠X.env.locals)
  (Z:it∈X.ex\/X.s₀.heap.objs.size<=it) (J:∀ x c,X.env.cells.lookup x=some c->c≠it) (h3:∀ p∈X.pn++pins,p.1≠it):Inv X pins W H { s with heap:=h',toks:=t' }:=by
 have h:∀ b u,H b=some u->b≠it:=λ b u e z=>by rw[z,hn]at e;cases e
 refine I.step (ch:=[it]) (λ b hb=>?_) (λ b o _ _ hc e _=>k b o (λ z=>hc (by simp[z])) e) (λ b o _ _ hc e _=>⟨o.slots,k b o (λ z=>hc (by simp[z])) e⟩) (λ _ _ _ _ n=>n)
  (λ b o hc e=>⟨o,k b o (λ z=>hc (by simp[z])) e⟩) (λ _ _ e=>e) (λ _ _ _ e=>e) (λ b ps e=>⟨#[],by rw[e];simp⟩) (λ m G=>?_) (λ b u e=>?_) I.bare
 .have e:=by simpa using hb
  subst e
  exact⟨Z,y,J,h3⟩
 .obtain⟨o,es,Y,ho,r⟩:=G
  exact⟨o,es,Y,k _ o (cb y) ho,r⟩
 .refine(I.hok b u e).stay (λ c v hc q=>k c v ?_ q) (λ _ q=>q) λ _ _ q=>q
  rcases hc with z|z
  .rw[z];exact h b u e
  .exact h c _ z
theorem Inv.tok (I:Inv X pins W H s) t :Inv X pins W H { s with toks:=t }:=I.un Un.refl I.hok
theorem Inv.kept (I:Inv X pins W H s)(k:∀ b u,s.heap.get? b=some u->h'.get? b=some u):Inv X pins W H { s with heap:=h',toks:=t' }:=I.un (Un.kept k) (I.hok.kept k)
theorem Inv.laid {a:Addr}(I:Inv X pins W H s)(k:∀ b u,s.heap.get? b=some u->h'.get? b=some u)(h:s.heap.objs.size<=a)(new:ag0 X.prog X.w (upd H a o) h' a o) :
  Inv X pins W (upd H a o) { s with heap:=h',toks:=t' }:=I.un (Un.laid k h (I.hok.fresh h)) (I.hok.laid k h new)
theorem Inv.write (I:Inv X pins W H s)(mu:Mut (H x))(y:e=x\/H e=some (.own x))(k:∀ b u,b≠e->s.heap.get? b=some u->h'.get? b=some u)(h:∃ u,h'.get? e=some u)
  (new:ag0 X.prog X.w (upd H x o) h' x o):Inv X pins W (upd H x o) { s with heap:=h',toks:=t' }:=I.un (Un.write mu y k h) (I.hok.write mu y k h new)
theorem Inv.pins_of (I:Inv X pins W H s)(h:∀ p∈y,s.heap.get? p.1=some p.2/\H p.1=none/\p.1≠X.env.locals/\p.1 ∉ X.fs/\∀ v,p.2.data≠.cell v):Inv X y W H s :=
 ⟨I.ok,I.os,I.bare,I.base,I.loc,I.cell,I.free,I.freeC,λ p G=>(bM.mp G).elim (λ z=>I.pin p (hV _ z)) (h p),I.hok,I.len⟩
theorem aP0 {N:yH}(hN:N.Nodup){ j:Nat}(a:N[i]?=some x)(b:N[j]?=some x):i=j:=by
 obtain⟨h,e1⟩:=ac.mp a
 obtain⟨y,e2⟩:=ac.mp b
 exact(List.getElem_inj hN).mp (e1.trans e2.symm)
theorem aI3 (I:Inv X pins W H s)(hN:X.N.Nodup)(hi:X.N[i]?=some x)(hx:Loc X.env.scope x)(r:RelV v u)
  (h:∀ s',Inv X pins (W.set i (some v)) H s'->(∃ a,cc a s.heap s'.heap/\(a=X.env.locals\/X.env.cells.lookup x=some a))->Q () s') (hf:X.fn x=true\/X.env.scope.names.lookup x=some .local:=by first|exact .inl rfl|exact .inr rfl|assumption):wpAny M A (gm X.env x u) Q E s:=by
 obtain⟨m,hn,hl⟩:=id I.loc
 have a1:(X.env.scope.kind==.class||(X.env.scope.kind==.module&&X.env.locals != X.env.globals))=false:=by rw[I.ok.kind];rfl
 have Z:i < W.length:=by rw[I.len];exact(ac.mp hi).1
 have cne:=I.cne
 have G:∀ {a} {h'},(∃ o,s.heap.get? a=some o/\H a=none)->cc a s.heap h'->HOk X.prog X.w H h':=λ {a h'} ha hs b ob e=>by
  obtain⟨_,_,J⟩:=ha
  refine(I.hok b ob e).stay (λ c w' hc q=>(hs.2 c ?_).trans q) (λ _ q=>q) λ _ _ q=>q
  rintro rfl
  rcases hc with rfl|hc
  .rw[J]at e;cases e
  .rw[J]at hc;cases hc
 rcases hx with hk|hk
 .refine g6 hk hn (λ h' a5 hs=>?_) a1
  obtain⟨oL,_,_,a4,_⟩:=id hn
  refine h _ ⟨I.ok,I.os,I.bare,⟨λ b o e n hb hx=>?_,λ b o e n hb hx=>?_,I.base.free,λ b o e hx=>?_,I.base.tups,I.base.frzs,I.base.tbls⟩,⟨_,a5,λ j y v' e1 e2 e3=>?_⟩,λ y c e=>?_,I.free,I.freeC,λ p hp=>?_,G ⟨oL,a4,I.free⟩ hs,by simpa using I.len⟩ ⟨_,hs,.inl rfl⟩
  .exact(hs.2 b (aA (ar (aI e) I.ok.above))).trans (I.base.keep b o e n hb hx)
  .obtain⟨sl,e1⟩:=I.base.slot b o e n hb hx
   exact⟨sl,(hs.2 b (aA (ar (aI e) I.ok.above))).trans e1⟩
  .obtain⟨o',e1⟩:=I.base.there b o e hx
   exact⟨o',(hs.2 b (aA (ar (aI e) I.ok.above))).trans e1⟩
  .by_cases hj:j=i
   .subst hj
    rw[hi]at e1;cases e1
    rw[aZ Z]at e2
    cases e2
    exact⟨u,r,.inl ⟨hk,by simp⟩⟩
   .rw[br (cb hj)]at e2
    obtain⟨u',r',q⟩:=hl j y v' e1 e2 e3
    refine⟨u',r',?_⟩
    rcases q with⟨k,e⟩|⟨k,c,e,z⟩
    .refine .inl ⟨k,?_⟩
     have:y≠x:=λ e=>hj (aP0 hN e1 (e▸hi))
     simp[this,e]
    .exact .inr ⟨k,c,e,z.sameBut hs (cne y c e)⟩
  .obtain⟨w',z⟩:=I.cell y c e
   exact⟨w',z.sameBut hs (cne y c e)⟩
  .obtain⟨e,n,ne,nf,d⟩:=I.pin p hp
   exact⟨(hs.2 p.1 ne).trans e,n,ne,nf,d⟩
 .have Y:X.fn x=true:=by
   rcases hf with z|z
   .exact z
   .rw[z]at hk;cases hk
  obtain⟨c,hc⟩:=I.ok.has x (.inl hk)
  obtain⟨w',z⟩:=I.cell x c hc
  refine hZ I.ok.kind hk hc z (λ h' a3 hs=>?_)
  obtain⟨oc,a0,a2⟩:=id z
  refine h { s with heap:=h' } ⟨I.ok,I.os,I.bare,⟨λ b o e n hb hx=>?_,λ b o e n hb hx=>?_,I.base.free,λ b o e hx=>?_,I.base.tups,I.base.frzs,I.base.tbls⟩,⟨m,hn.sameBut hs (cb (cne x c hc)),λ j y v' e1 e2 e3=>?_⟩,λ y c' e=>?_,I.free,I.freeC,λ p hp=>?_,G ⟨oc,a0,I.freeC x c hc⟩ hs,by simpa using I.len⟩ ⟨c,hs,.inr hc⟩
  .exact(hs.2 b (aA (ar (aI e) (I.ok.cab x c Y hc)))).trans (I.base.keep b o e n hb hx)
  .obtain⟨sl,e1⟩:=I.base.slot b o e n hb hx
   exact⟨sl,(hs.2 b (aA (ar (aI e) (I.ok.cab x c Y hc)))).trans e1⟩
  .obtain⟨o',e1⟩:=I.base.there b o e hx
   exact⟨o',(hs.2 b (aA (ar (aI e) (I.ok.cab x c Y hc)))).trans e1⟩
  .by_cases hj:j=i
   .subst hj
    rw[hi]at e1;cases e1
    rw[aZ Z]at e2
    cases e2
    exact⟨u,r,.inr ⟨.inl hk,c,hc,a3⟩⟩
   .rw[br (cb hj)]at e2
    obtain⟨u',r',q⟩:=hl j y v' e1 e2 e3
    refine⟨u',r',?_⟩
    rcases q with q|⟨k,c',e,z'⟩
    .exact .inl q
    .refine .inr ⟨k,c',e,z'.sameBut hs ?_⟩
     rintro rfl
     exact hj (aP0 hN e1 (I.ok.inj _ _ _ e hc▸hi))
  .by_cases hcc:c'=c
   .subst hcc;exact⟨_,a3⟩
   .obtain⟨w2,z2⟩:=I.cell y c' e
    exact⟨w2,z2.sameBut hs hcc⟩
  .obtain⟨e,n,ne,nf,d⟩:=I.pin p hp
   refine⟨(hs.2 p.1 ?_).trans e,n,ne,nf,d⟩
   intro q
   rw[q,a0]at e
   have q':=aw e
   exact d w' (by rw[<-q'];exact a2)
theorem ay1 (I:Inv X pins W H s)(hN:X.N.Nodup)(J:X.N[i]?=some x)(hx:Loc X.env.scope x)(r:RelV v u)
  (h:∀ s',Inv X pins (W.set i (some v)) H s'->Q () s') (y:X.fn x=true\/X.env.scope.names.lookup x=some .local:=by first|exact .inl rfl|exact .inr rfl|assumption):wpAny M A (gm X.env x u) Q E s :=
 aI3 I hN J hx r (λ s' G _=>h s' G) y
theorem Inv.call' (I:Inv X pins W H s)(ho:s'.os=s.os)(u:Un (frs X.stack) ch H H' s.heap s'.heap)(hok:HOk X.prog X.w H' s'.heap)(y:fO s'.gens)
  (h:∀ b∈ch,(b∈X.ex\/X.s₀.heap.objs.size<=b)/\b≠X.env.locals/\(∀ x c,X.env.cells.lookup x=some c->c≠b)/\∀ p∈X.pn++pins,p.1≠b):Inv X pins W H' s':=by
 obtain⟨h',g',d',t',G⟩:=s'
 have e:=ho
 subst e
 exact I.call u hok y h
end
abbrev XK:=Value->Option Addr->Hp->Prop
abbrev St:=List (Option V)
abbrev VK:=V->Hp->Prop
abbrev TE:=St->Hp->VK->Prop
abbrev TT:=St->Hp->(Bool->Hp->Prop)->Prop
abbrev TA:=St->Hp->(List V->Hp->Prop)->Prop
structure Ends where
 nx:St->Hp->Prop
 rt:VK
 bk:St->Hp->Prop:=λ _ _=>False
 ct:St->Hp->Prop:=λ _ _=>False
abbrev TS:=Ends->St->Hp->Prop
def EP (X:Cx)(pins:yA)(W:St)(Q:VK)(u:Value)(s':ah):Prop:=∃ v H',Inv X pins W H' s'/\RelV v u/\Q v H'
def TP (X:Cx)(pins:yA)(W:St)(Q:Bool->Hp->Prop)(b:Bool)(s':ah):Prop:=∃ H',Inv X pins W H' s'/\Q b H'
def AP (X:Cx)(pins:yA)(W:St)(Q:List V->Hp->Prop)(us:yG)(s':ah):Prop:=∃ vs H',Inv X pins W H' s'/\Vals vs us/\Q vs H'
def SP (X:Cx)(pins:yA)(D:Ends)(f:Flow)(s':ah):Prop :=
 match f with
 | .next=>∃ W' H',Inv X pins W' H' s'/\D.nx W' H'
 | .brk=>∃ W' H',Inv X pins W' H' s'/\D.bk W' H'
 | .cont=>∃ W' H',Inv X pins W' H' s'/\D.ct W' H'
 | .ret u=>∃ v W' H',Inv X pins W' H' s'/\RelV v u/\D.rt v H'
def PE (X:Cx)(e:Expr)(t:TE):Prop :=
 ∀ pins s (W:St) H Q ,Inv X pins W H s->t W H Q->wpAny (model X.prog X.w) X.A (eval e X.env) (EP X pins W Q) X.xe s
def PT (X:Cx)(e:Expr)(t:TT):Prop :=
 ∀ pins s (W:St) H Q ,Inv X pins W H s->t W H Q->wpAny (model X.prog X.w) X.A (dU e X.env (eval e X.env)) (TP X pins W Q) X.xe s
def PW (X:Cx)(e:Expr)(t:TT):Prop :=
 ∀ whole pins s (W:St) H Q ,Inv X pins W H s->t W H Q->wpAny (model X.prog X.w) X.A (dU e X.env whole) (TP X pins W Q) X.xe s
theorem PW.pt (h:PW X e t):PT X e t:=h _
def PA (X:Cx)(es:yK)(t:TA):Prop :=
 ∀ pos pins s (W:St) H Q ,Inv X pins W H s->t W H Q->wpAny (model X.prog X.w) X.A (spliced (d7 pos (bu es X.env))) (AP X pins W Q) X.xe s
def PS (X:Cx)(st:Stmt)(t:TS):Prop :=
 ∀ pins s (W:St) H D ,Inv X pins W H s->t D W H->wpAny (model X.prog X.w) X.A (exec st X.env) (SP X pins D) X.xe s
def PSs (X:Cx)(st:yL)(t:TS):Prop :=
 ∀ pins s (W:St) H D ,Inv X pins W H s->t D W H->wpAny (model X.prog X.w) X.A (execs st X.env) (SP X pins D) X.xe s
theorem thn {M}{A}{E}{s}(h:wpAny M A t Q E s)(G:∀ a s,Q a s->y a s):wpAny M A t y E s:=cj h G λ _ _ x=>x
section
variable {X:Cx}
theorem bin (ha:PE X a Y)(hb:PE X b tb){W:St}{R:V->V->Hp->Prop}(I:Inv X G W H s)(h:Y W H λ x J=>tb W J λ y H2=>R x y H2)
  {f:Value->Value->Sem α}
  (hf:∀ v u s2 x y H2,Inv X G W H2 s2->RelV x v->RelV y u->R x y H2->wpAny (model X.prog X.w) X.A (f v u) Q X.xe s2) :
  wpAny (model X.prog X.w) X.A (eval a X.env) (λ v s₁=>wpAny (model X.prog X.w) X.A (eval b X.env) (λ u Z=>wpAny (model X.prog X.w) X.A (f v u) Q X.xe Z) X.xe s₁) X.xe s:=by
 refine thn (ha G s W H _ I h) λ v s1 ⟨x,J,I1,r1,q1⟩=>?_
 refine thn (hb G s1 W J _ I1 q1) λ u s2 ⟨y,H2,I2,r2,q2⟩=>?_
 exact hf v u s2 x y H2 I2 r1 r2 q2
def bF3 (i:Nat):TE:=λ W H Q=>∃ v,W[i]?=some (some v)/\Q v H
def tC (v:V):TE:=λ _ H Q=>Q v H
theorem bj9 {pos}(hN:X.N[i]?=some x)(hv:Vis X.env.scope x)(hd:(x==("__debug__":Str))=false:=by decide)(G:(x==("__classdict__":Str))=false:=by decide):PE X (.Name x pos) (bF3 i):=by
 intro y s W H Q I h
 obtain⟨v,e,h⟩:=h
 obtain⟨m,hn,hl⟩:=I.loc
 obtain⟨u,r,l⟩:=hl i x v hN e hv
 have fin:EP X y W Q u s:=⟨v,H,I,r,h⟩
 rcases l with⟨hk,J⟩|⟨hk,c,hc,hcell⟩
 .exact kO (wpAny_loadName_local I.ok.kind hk hn J fin) hd
 .rcases hk with hk|hk
  .exact kO (wpAny_loadName_cell I.ok.kind hk hc hcell fin) hd
  .exact kO (wpAny_loadName_free I.ok.kind hk hc hcell fin G) hd
theorem ca0 :PE X (.Constant (.int i) j pos) (tC (.int i)):=λ _ _ _ H _ I h=>wpAny_Constant_int ⟨.int i,H,I.tok _,⟨_,rfl⟩,h⟩
theorem cm3 :PE X (.Constant (.bool b) j pos) (tC (.T b)):=λ _ _ _ H _ I h=>Constant_bool ⟨.T b,H,I,rfl,h⟩
theorem cj7 :PE X (.Constant .none j pos) (tC .N):=λ _ _ _ H _ I h=>iM ⟨.N,H,I,rfl,h⟩
theorem ci2 :PE X (.Constant (.str x) j pos) (tC (.str x)):=λ _ _ _ H _ I h=>Calls.Constant_str ⟨.str x,H,I.tok _,⟨_,rfl⟩,h⟩
def Gl (X:Cx)(x:Str):Prop:=X.env.kindOf x=some .globalImplicit
theorem ax8 {W:St}(I:Inv X y W H s)(G:Gl X x)(J:X.mg x=some u)(h:Q u s)
  (hd:(x==("__debug__":Str))=false:=by decide):wpAny (model X.prog X.w) X.A (eval (.Name x pos) X.env) Q E s :=
 fA I.ok.kind G (Calls.loadGlobal_global (by rw[I.ok.glob];exact I.mod.glob.keeps I.bk) J h) hd
theorem aw7 {E}{W:St}{pos}(I:Inv X y W H s)(G:Gl X x)(Z:X.mg x=none)(hv:bz x=some u)(h:Q u s)
  (hn:x ≠ "__name__":=by decide) (hd:(x==("__debug__":Str))=false:=by decide):wpAny (model X.prog X.w) X.A (eval (.Name x pos) X.env) Q E s:=by
 obtain⟨mb,J,Y⟩:=I.mod.blt
 exact fA I.ok.kind G (Calls.loadGlobal_builtin (by rw[I.ok.glob];exact I.mod.glob.keeps I.bk) Z (by rw[I.ok.blt];exact J.keeps I.bk) ((Y x hn).trans hv) h) hd
theorem bU1 (y:Gl X x)(G:X.mg x=some u)(r:RelV v u)(hd:(x==("__debug__":Str))=false:=by decide):PE X (.Name x pos) (tC v) :=
 λ _ _ _ H _ I h=>ax8 I y G ⟨v,H,I,r,h⟩ hd
theorem bI1 {pos}(y:Gl X x)(G:X.mg x=none)(hv:bz x=some u)(r:RelV v u)(hn:x ≠ "__name__":=by decide)(hd:(x==("__debug__":Str))=false:=by decide):PE X (.Name x pos) (tC v) :=
 λ _ _ _ H _ I h=>aw7 I y G hv ⟨v,H,I,r,h⟩ hn hd
variable {a b:Expr} {ta tb:TE} {pos:Pos}
def PC (X:Cx)(op:CmpOp)(a b:Expr)(t:TE):Prop :=
 ∀ pins s (W:St) H Q ,Inv X pins W H s->t W H Q ->
  wpAny (model X.prog X.w) X.A (eval a X.env) (λ v s₁=>wpAny (model X.prog X.w) X.A (eval b X.env) (λ u s₂=>wpAny (model X.prog X.w) X.A (cF op v u) (EP X pins W Q) X.xe s₂) X.xe s₁) X.xe s
theorem aU4 b (h:op≠.In)(y:op≠.NotIn):cY op b=false:=by
 have e1:(op==CmpOp.In)=false:=by cases op<;>first|rfl|exact absurd rfl h
 have e2:(op==CmpOp.NotIn)=false:=by cases op<;>first|rfl|exact absurd rfl y
 cases b<;>simp[cY,e1,e2]
def cv1 (ta:TE):TE:=λ W H Q=>ta W H λ x H1=>Q (.T (decide (x=.N))) H1
def bW3 (ta:TE):TE:=λ W H Q=>ta W H λ x H1=>Q (.T (!decide (x=.N))) H1
theorem RelV.none_iff (r:RelV x v):(v==Value.none)=decide (x=.N):=by
 cases x with
 | N=>cases r;rfl
 | T _=>cases r;rfl
 | int _=>obtain⟨t,rfl⟩:=r;rfl
 | str _=>obtain⟨t,rfl⟩:=r;rfl
 | byt _=>obtain⟨t,rfl⟩:=r;rfl
 | flt _=>obtain⟨t,rfl⟩:=r;rfl
 | ref _=>cases r;rfl
 | ty _=>cases r;rfl
theorem bB0 (ha:PE X a ta):PC X .Is a (.Constant .none j pos') (cv1 ta):=by
 intro y s W H Q I h
 refine thn (ha y s W H _ I h) λ v s1 ⟨x,J,G,r1,q1⟩=>?_
 exact iM (is_none_gen ⟨.T _,J,G,by rw[r1.none_iff];rfl,q1⟩)
theorem bc6 (ha:PE X a ta):PC X .IsNot a (.Constant .none j pos') (bW3 ta):=by
 intro y s W H Q I h
 refine thn (ha y s W H _ I h) λ v s1 ⟨x,J,G,r1,q1⟩=>?_
 exact iM (isnot_none_gen ⟨.T _,J,G,by rw[r1.none_iff];rfl,q1⟩)
def tB (t:TE):TT:=λ W H Q=>t W H λ x H1=>∃ c,x=.T c/\Q c H1
theorem bF1 (h:PC X op a b t)(G:cY op b=false:=by first|exact aU4 _ (by decide) (by decide)|rfl):PE X (.Compare a [op] [b] pos) t:=λ y s W H Q I hw=>wpAny_Compare1 (h y s W H Q I hw) G
theorem bD6 (h:PC X op a b t)(G:cY op b=false:=by first|exact aU4 _ (by decide) (by decide)|rfl):PT X (.Compare a [op] [b] pos) (tB t):=by
 intro y s W H Q I hw
 refine g7 (thn (h y s W H _ I hw) λ v s1 G=>thn G λ u s2 Y=>thn Y λ c s3 ⟨x,Z,J,r1,q1⟩=>?_) G
 obtain⟨d,rfl,q⟩:=q1
 cases r1
 exact bP ⟨Z,J,q⟩
theorem ca8 (h:PE X e t)(Z:∀ y,dU e X.env y=(do let v <- y;standAt e.pos;jZ [v] (truthy v)):=by intro _;rfl):PT X e (tB t):=by
 intro G s W H Q I hw
 refine isTrue_plain (thn (h G s W H _ I hw) λ v s1 ⟨x,J,Y,r1,q1⟩=>?_) (Z _)
 obtain⟨d,rfl,q⟩:=q1
 cases r1
 exact bP ⟨J,Y,q⟩
variable {tA tB':TT} {rest:yK}
def cu3 (t u:TT):TT:=λ W H Q=>t W H λ c H1=>if c=true then u W H1 Q else Q false H1
def tOr (t u:TT):TT:=λ W H Q=>t W H λ c H1=>if c=true then Q true H1 else u W H1 Q
def cu6 (t:TT):TT:=λ W H Q=>t W H λ c H1=>Q (!c) H1
theorem bP3 (ha:PT X a tA):PW X (.BoolOp .And [a] pos) tA:=by
 intro G y s W H Q I h
 refine isTrue_and (thn (ha y s W H Q I h) λ c s1 e=>?_)
 cases c with
 | true=>exact isTrue_and_nil e
 | false=>exact e
theorem cg5 (ha:PT X a tA):PW X (.BoolOp .Or [a] pos) tA:=by
 intro G y s W H Q I h
 refine isTrue_or (thn (ha y s W H Q I h) λ c s1 e=>?_)
 cases c with
 | false=>exact isTrue_or_nil e
 | true=>exact e
theorem bE3 (ha:PT X a tA)(hb:PW X (.BoolOp .And (b::rest) pos) tB'):PW X (.BoolOp .And (a::b::rest) pos) (cu3 tA tB'):=by
 intro Y y s W H Q I h
 refine isTrue_and (thn (ha y s W H _ I h) λ c s1 ⟨J,G,q1⟩=>?_)
 cases c with
 | true=>exact hb Y y s1 W J Q G q1
 | false=>exact⟨J,G,q1⟩
theorem cg2 (ha:PT X a tA)(hb:PW X (.BoolOp .Or (b::rest) pos) tB'):PW X (.BoolOp .Or (a::b::rest) pos) (tOr tA tB'):=by
 intro Y y s W H Q I h
 refine isTrue_or (thn (ha y s W H _ I h) λ c s1 ⟨J,G,q1⟩=>?_)
 cases c with
 | true=>exact⟨J,G,q1⟩
 | false=>exact hb Y y s1 W J Q G q1
theorem cb8 (ha:PT X a tA):PT X (.UnaryOp .Not a pos) (cu6 tA):=by
 intro y s W H Q I h
 exact isTrue_not (ha y s W H (λ c G=>Q (!c) G) I h)
def ca5 (ta tb:TE):TE:=λ W H Q=>ta W H λ x H1=>∃ c,x=.T c/\if c=true then tb W H1 Q else Q (.T false) H1
def cu1 (ta tb:TE):TE:=λ W H Q=>ta W H λ x H1=>∃ c,x=.T c/\if c=true then Q (.T true) H1 else tb W H1 Q
def bX5 (ta:TE):TE:=λ W H Q=>ta W H λ x H1=>∃ c,x=.T c/\Q (.T (!c)) H1
theorem bA7 (h:PE X a t):PE X (.BoolOp op [a] pos) t:=λ y s W H Q I hw=>BoolOp_one (h y s W H Q I hw)
theorem bE1 (ha:PE X a ta)(hb:PE X (.BoolOp .And (b::rest) pos) tb):PE X (.BoolOp .And (a::b::rest) pos) (ca5 ta tb):=by
 intro y s W H Q I h
 refine BoolOp_and (thn (ha y s W H _ I h) λ v s1 ⟨x,J,G,r1,q1⟩=>?_)
 obtain⟨c,rfl,q1⟩:=q1
 cases r1
 refine bP ?_
 cases c with
 | true=>exact hb y s1 W J Q G q1
 | false=>exact⟨.T false,J,G,rfl,q1⟩
theorem bY1 (ha:PE X a ta)(hb:PE X (.BoolOp .Or (b::rest) pos) tb):PE X (.BoolOp .Or (a::b::rest) pos) (cu1 ta tb):=by
 intro y s W H Q I h
 refine BoolOp_or (thn (ha y s W H _ I h) λ v s1 ⟨x,J,G,r1,q1⟩=>?_)
 obtain⟨c,rfl,q1⟩:=q1
 cases r1
 refine bP ?_
 cases c with
 | false=>exact hb y s1 W J Q G q1
 | true=>exact⟨.T true,J,G,rfl,q1⟩
theorem cd2 (ha:PE X a ta):PE X (.UnaryOp .Not a pos) (bX5 ta):=by
 intro y s W H Q I h
 refine UnaryOp_ (thn (ha y s W H _ I h) λ v s1 ⟨x,J,G,r1,q1⟩=>?_)
 obtain⟨c,rfl,q1⟩:=q1
 cases r1
 exact not_of (bP ⟨.T (!c),J,G,rfl,q1⟩)
def tIf (t:TT)(ta tb:TE):TE:=λ W H Q=>t W H λ c H1=>if c=true then ta W H1 Q else tb W H1 Q
theorem bx8 (hc:PT X c tA)(ha:PE X a ta)(hb:PE X b tb):PE X (.IfExp c a b pos) (tIf tA ta tb):=by
 intro y s W H Q I h
 refine wpAny_IfExp (thn (hc y s W H _ I h) λ d s1 ⟨J,G,q1⟩=>?_)
 cases d with
 | true=>exact ha y s1 W J Q G q1
 | false=>exact hb y s1 W J Q G q1
end
def SqL (K:af)(H:Hp)(a:Addr)(xs:List V):Prop :=
 Rd H a (.J xs) \/
  ∃(o:Obj) (its:yJ) (n:Nat),K.lookup a=some o/\o.cls=.type "list"/\o.dict=none/\o.data=.seq its n/\its.size<=aQ/\Vals xs its.toList
def SqT (K:af)(H:Hp)(a:Addr)(xs:List V):Prop :=
 Rd H a (.tp xs) \/
  ∃(o:Obj) (its:yJ) (n:Nat),K.lookup a=some o/\o.cls=.type "tuple"/\o.data=.seq its n/\its.size<=aQ/\Vals xs its.toList
noncomputable def cz4:Value->Option V
 | .none=>some .N
 | .bool b=>some (.T b)
 | .int i _=>some (.int i)
 | .str x _=>some (.str x)
 | .bytes b _=>some (.byt b)
 | .float b _=>some (.flt b)
 | .ref a=>some (.ref a)
 | .type n=>some (.ty n)
 | _=>none
theorem RelV.abs (r:RelV x u):cz4 u=some x:=by
 cases x with
 | N=>cases r;rfl
 | T _=>cases r;rfl
 | int _=>obtain⟨t,rfl⟩:=r;rfl
 | str _=>obtain⟨t,rfl⟩:=r;rfl
 | byt _=>obtain⟨t,rfl⟩:=r;rfl
 | flt _=>obtain⟨t,rfl⟩:=r;rfl
 | ref _=>cases r;rfl
 | ty _=>cases r;rfl
theorem RelV.inj (r:RelV x u)(q:RelV y u):x=y:=aw (r.abs.symm.trans q.abs)
theorem Vals.inj:∀ {h ys} {us:yG},Vals h us->Vals ys us->h=ys
 | _,_,_,.nil,.nil=>rfl
 | _,_,_,.cons r t,.cons r' t'=>by rw[r.inj r',Vals.inj t t']
section
variable {X:Cx} {pins:yA} {W:St} {H:Hp} {s:ah} {a:Addr} {xs ys:List V}
theorem SqL.of {K}(h:H a=some (.J xs)):SqL K H a xs:=.inl (.inl h)
theorem SqT.of {K}(h:H a=some (.tp xs)):SqT K H a xs:=.inl (.inl h)
theorem Inv.list (I:Inv X pins W H s)(h:SqL X.K H a xs):∃ its,Vals xs its/\PlainL s.heap a its.toArray/\xs.length<=aQ:=by
 rcases h with h|⟨o,its,n,hk,hc,hd,hs,hz,r⟩
 .obtain⟨z,its,n,r,e⟩:=h.ok I.hok
  exact⟨its,r,⟨_,n,e,rfl,rfl,rfl⟩,z⟩
 .refine⟨its.toList,r,⟨o,n,I.kIn a o hk,hc,hd,by simpa using hs⟩,?_⟩
  have e:=r.length
  simp only[fm]at e
  lia
theorem Inv.tuple (I:Inv X pins W H s)(h:SqT X.K H a xs):∃ its,Vals xs its/\IsTup s.heap a its.toArray/\xs.length<=aQ:=by
 rcases h with h|⟨o,its,n,hk,hc,hs,hz,r⟩
 .obtain⟨z,its,r,p⟩:=h.ok I.hok
  exact⟨its,r,p,z⟩
 .refine⟨its.toList,r,⟨o,I.kIn a o hk,hc,n,by simpa using hs⟩,?_⟩
  have e:=r.length
  simp only[fm]at e
  omega
theorem Inv.list_inj (I:Inv X pins W H s)(h:SqL X.K H a xs)(h':SqL X.K H a ys):xs=ys:=by
 obtain⟨its,r,⟨o,n,e,_,_,d⟩,_⟩:=I.list h
 obtain⟨its',y,⟨G,J,e',_,_,d'⟩,_⟩:=I.list h'
 rw[e]at e';cases e'
 rw[d]at d'
 injection d' with d1 _
 have:=by simpa using congrArg j0 d1
 subst this
 exact r.inj y
theorem Inv.tuple_inj (I:Inv X pins W H s)(h:SqT X.K H a xs)(h':SqT X.K H a ys):xs=ys:=by
 obtain⟨its,r,⟨o,e,_,n,d⟩,_⟩:=I.tuple h
 obtain⟨its',y,⟨G,e',_,J,d'⟩,_⟩:=I.tuple h'
 rw[e]at e';cases e'
 rw[d]at d'
 injection d' with d1 _
 have:=by simpa using congrArg j0 d1
 subst this
 exact r.inj y
end
noncomputable abbrev Cx.wish (X:Cx)(E:Value->ah->Prop):Cx:={ X with xe:=E }
noncomputable abbrev Cx.nox (X:Cx):Cx:=X.wish λ _ _=>False
theorem Cx.Ok.wish {X:Cx}(ok:X.Ok)(E:Value->ah->Prop):(X.wish E).Ok :=
 ⟨ok.mod,ok.kind,ok.glob,ok.blt,ok.above,ok.inj,ok.has,ok.cab,ok.hd,ok.frames,ok.stk,ok.exf,ok.bs,ok.bsz,ok.noex,ok.exfs,ok.funs,ok.frf⟩
theorem Cx.Ok.unwish {X:Cx}(ok:(X.wish E).Ok):X.Ok :=
 ⟨ok.mod,ok.kind,ok.glob,ok.blt,ok.above,ok.inj,ok.has,ok.cab,ok.hd,ok.frames,ok.stk,ok.exf,ok.bs,ok.bsz,ok.noex,ok.exfs,ok.funs,ok.frf⟩
section
variable {X:Cx} {pins:yA} {W:St} {H:Hp} {s:ah} {E:Value->ah->Prop}
theorem Inv.wish (I:Inv X pins W H s) E :Inv (X.wish E) pins W H s:=⟨I.ok.wish E,I.os,I.bare,I.base,I.loc,I.cell,I.free,I.freeC,I.pin,I.hok,I.len⟩
theorem Inv.unwish (I:Inv (X.wish E) pins W H s):Inv X pins W H s:=⟨I.ok.unwish,I.os,I.bare,I.base,I.loc,I.cell,I.free,I.freeC,I.pin,I.hok,I.len⟩
theorem SP.unwish (h:SP (X.wish E) pins D f s'):SP X pins D f s':=by
 cases f with
 | next=>obtain⟨W',H',I,q⟩:=h;exact⟨W',H',I.unwish,q⟩
 | brk=>obtain⟨W',H',I,q⟩:=h;exact⟨W',H',I.unwish,q⟩
 | cont=>obtain⟨W',H',I,q⟩:=h;exact⟨W',H',I.unwish,q⟩
 | ret u=>obtain⟨v,W',H',I,r,q⟩:=h;exact⟨v,W',H',I.unwish,r,q⟩
theorem PSs.nox {st}(h:PSs X.nox st t):PSs X st t:=λ y s W H D I hw =>
 cj (h y s W H D (I.wish _) hw) (λ _ _ q=>q.unwish) λ _ _ z=>bI z
end
section
variable {X:Cx} {st:Stmt} {rest:yL} {t u:TS} {e:Expr} {te:TE} {pos:Pos}
def cj1:TS:=λ D W H=>D.nx W H
noncomputable def cw2 (t u:TS):TS:=λ D W H=>t { D with nx:=u D } W H
theorem aK0:PSs X [] cj1:=λ _ _ W H _ I h=>gU ⟨W,H,I,h⟩
theorem ao0 (J:PS X st t)(Y:PSs X rest u):PSs X (st::rest) (cw2 t u):=by
 intro y s W H D I h
 refine wpAny_execs_cons (thn (J y s W H { D with nx:=u D } I h) λ f s1 q=>?_)
 cases f with
 | next =>
  obtain⟨W',H',G,q⟩:=q
  exact Y y s1 W' H' D G q
 | ret v=>exact q
 | brk=>exact q
 | cont=>exact q
theorem Inv.quiet {W:St}(I:Inv X h W H s):interactive X.env=false:=by simp[interactive,I.ok.kind]
def ch1 (te:TE):TS:=λ D W H=>te W H λ _ H1=>D.nx W H1
theorem bR9 (G:PE X e te)(hs:fx e none pos.line X.env=pure false:=by rfl):PS X (.Expr e pos) (ch1 te):=by
 intro y s W H D I h
 exact wpAny_Expr_any (thn (G y s W H _ I h) λ v s1 ⟨x,Y,J,r1,q1⟩=>⟨W,Y,J,q1⟩) I.quiet hs
def cw1 (te:TE):TS:=λ D W H=>te W H D.rt
theorem bk7 (G:PE X e te):PS X (.Return (some e) pos) (cw1 te):=by
 intro y s W H D I h
 exact wpAny_Return_some (thn (G y s W H _ I h) λ v s1 ⟨x,Y,J,r1,q1⟩=>⟨x,W,Y,J,r1,q1⟩)
def cu4 (c:TT)(t u:TS):TS:=λ D W H=>c W H λ b H1=>if b=true then t D W H1 else u D W H1
theorem cs1 (hc:PT X c G)(ha:PSs X a t)(hb:PSs X b u):PS X (.If c a b pos) (cu4 G t u):=by
 intro y s W H D I h
 refine wpAny_If (thn (hc y s W H _ I h) λ d s1 ⟨Y,J,q1⟩=>?_)
 cases d with
 | true=>exact ha y s1 W Y D J q1
 | false=>exact hb y s1 W Y D J q1
def bY8:TS:=λ _ _ _=>False
theorem bu7:PS X st bY8:=λ _ _ _ _ _ _ h=>h.elim
end
abbrev TG:=V->St->Hp->(St->Hp->Prop)->Prop
abbrev TGs:=List V->St->Hp->(St->Hp->Prop)->Prop
def PG (X:Cx)(target:Expr)(t:TG):Prop :=
 ∀ pins s (W:St) H v u Q ,Inv X pins W H s->RelV v u->t v W H Q ->
  wpAny (model X.prog X.w) X.A (gE target X.env u) (λ _ s'=>∃ W' H',Inv X pins W' H' s'/\Q W' H') X.xe s
def PGs (X:Cx)(ts:yK)(t:TGs):Prop :=
 ∀ pins s (W:St) H vs (us:yG) Q ,Inv X pins W H s->Vals vs us->t vs W H Q ->
  wpAny (model X.prog X.w) X.A (assignInOrder ((cN ts X.env).map (·.2)) us) (λ _ s'=>∃ W' H',Inv X pins W' H' s'/\Q W' H') X.xe s
abbrev cm2:=V->V->V->Hp->(Hp->Prop)->Prop
def cq2 (X:Cx)(t:cm2):Prop :=
 ∀ pins s (W:St) H o i v ov iv u Q ,Inv X pins W H s->RelV o ov->RelV i iv->RelV v u->t o i v H Q ->
  wpAny (model X.prog X.w) X.A (setItem ov iv u) (λ _ s'=>∃ H',Inv X pins W H' s'/\Q H') X.xe s
section
variable {X:Cx} {pos:Pos}
def aF4 (i:Nat):TG:=λ v W H Q=>Q (W.set i (some v)) H
theorem bb4 (hN:X.N.Nodup)(Y:X.N[i]?=some x)(hx:Loc X.env.scope x)(G:X.fn x=true\/X.env.scope.names.lookup x=some .local:=by first|exact .inl rfl|exact .inr rfl|assumption):PG X (.Name x pos) (aF4 i):=by
 intro y s W H v u Q I r h
 exact j2 (ay1 I hN Y hx r (λ s' J=>⟨_,H,J,h⟩) G)
def cx2:TGs:=λ vs W H Q=>vs=[]/\Q W H
def ce1 (t:TG)(u:TGs):TGs:=λ vs W H Q=>∃ v r,vs=v::r/\t v W H λ W' H'=>u r W' H' Q
theorem bR5:PGs X [] cx2:=by
 intro y s W H vs us Q I r h
 obtain⟨e,h⟩:=h
 subst e
 cases r
 exact assignInOrder_nil ⟨W,H,I,h⟩
theorem bw3 (Y:PG X e t)(G:PGs X es u)
  (hs:(cN (e::es) X.env).map (·.2)=gE e X.env::(cN es X.env).map (·.2):=by rfl):PGs X (e::es) (ce1 t u):=by
 intro y s W H vs us Q I r h
 obtain⟨v,vr,e1,h⟩:=h
 subst e1
 cases r with
 | cons r rr =>
  rw[hs]
  refine assignInOrder_cons (thn (Y y s W H _ _ _ I r h) λ _ s1 ⟨W1,Z,J,q1⟩=>?_)
  exact G y s1 W1 Z _ _ Q J rr q1
def cs5 (K:af)(n:Nat)(t:TGs):TG:=λ v W H Q=>∃ a xs,v=.ref a/\SqT K H a xs/\xs.length=n/\t xs W H Q
theorem cj0 {k}(hc:X.calm=true)(h:PGs X es t)
  (hn:(cN es X.env).length=n:=by rfl) (G:(cN es X.env).findIdx? (·.1)=none:=by rfl):PG X (.Tuple es k pos) (cs5 X.K n t):=by
 intro y s W H v u Q I r hw
 obtain⟨a,Z,e1,hq,hl,hw⟩:=hw
 subst e1
 cases r
 obtain⟨its,J,ht,hz⟩:=I.tuple hq
 refine assign_Tuple_tuple (I.ok.hd hc) ht (by simp[hn,<-hl,J.length]) G λ h' hx=>?_
 have Y:=I.kept (t':=s.toks) λ b o e=>hx b o (aA (aI e)) e
 exact h y _ W H Z _ Q Y (by simpa using J) hw
def cv3 (to ti:TE)(t:cm2):TG:=λ v W H Q=>to W H λ o H1=>ti W H1 λ i H2=>t o i v H2 λ H3=>Q W H3
theorem ca9 (ho:PE X o Z)(hi:PE X i ti)(hs:cq2 X t)
  (ha:∀ v,gE (.Subscript o i pos) X.env v=(do
   let J <- jZ [v] (eval o X.env)
   let Y <- jZ [v,J] (eval i X.env)
   standAt pos
   jZ [v,J,Y] (setItem J Y v)
   release [v,J,Y] []):=by intro _;rfl):PG X (.Subscript o i pos) (cv3 Z ti t):=by
 intro G s W H v u Q I r h
 rw[ha]
 refine ae (dq (thn (ho G s W H _ I h) λ J s1 ⟨x,H1,I1,r1,q1⟩=>?_))
 refine ae (dq (thn (hi G s1 W H1 _ I1 q1) λ Y s2 ⟨y,H2,I2,r2,q2⟩=>?_))
 refine ae (iO (ae (dq (thn (hs G s2 W H2 x y v J Y u _ I2 r1 r2 r q2) λ _ s3 ⟨H3,I3,q3⟩=>?_))))
 exact wpAny_release ⟨W,H3,I3,q3⟩
def bz8 (te:TE)(g:TG):TS:=λ D W H=>te W H λ x H1=>g x W H1 D.nx
theorem bC1 (he:PE X e G)(J:PG X tg g)(hs:swapsWithSole [tg] e pos.line X.env=pure false:=by rfl)(hw:iP [tg] e X.env=pure none:=by rfl)
  (h1:(cN [tg] X.env).map (·.2)=[gE tg X.env]:=by rfl):PS X (.Assign [tg] e pos) (bz8 G g):=by
 intro y s W H D I h
 refine wpAny_Assign_stores (thn (he y s W H _ I h) λ v s1 ⟨x,Y,Z,r1,q1⟩=>?_) hs hw
 rw[h1]
 exact thn (J y s1 W Y x v _ Z r1 q1) λ _ s2 q=>q
theorem bB4 (hN:X.N.Nodup)(hi:X.N[i]?=some x)(hx:Loc X.env.scope x)(he:PE X e Y)(hs:fx e (some (.Name x G)) pos.line X.env=pure false:=by rfl)(Z:X.fn x=true\/X.env.scope.names.lookup x=some .local:=by first|exact .inl rfl|exact .inr rfl|assumption) :
  PS X (.Assign [.Name x G] e pos) (bz8 Y (aF4 i)):=by
 intro J s W H D I h
 refine wpAny_Assign_Name (thn (he J s W H _ I h) λ v s1 ⟨y,H1,I1,r1,q1⟩=>?_) hs
 exact ay1 I1 hN hi hx r1 (λ s2 I2=>⟨_,H1,I2,q1⟩) Z
end
section
variable {X:Cx} {pos:Pos}
def bB6 (c:TT)(tb:TS):TS:=λ D W H=>∃ Ww:Nat->St->Hp->Prop,(∃ m,Ww m W H)/\∀ m W H,Ww m W H ->
 c W H λ b H1=>if b=true then ∃ N,(∀ W' H',N W' H'->∃ m',m'<m/\Ww m' W' H')/\tb { D with nx:=N,ct:=N,bk:=D.nx } W H1 else D.nx W H1
theorem by6 (hp:PassesOwn (model X.prog X.w) X.A X.env X.xe)(hc:PT X c tc)(hb:PSs X body tb):PS X (.While c body [] pos) (bB6 tc tb):=by
 intro y s W H D I h
 obtain⟨Ww,⟨m0,w0⟩,turn⟩:=h
 refine wpAny_While (codeAny_whileLoop (λ n s'=>∃ W' H',Inv X y W' H' s'/\Ww n W' H') ?_ m0 ⟨W,H,I,w0⟩)
 rintro n s1 ⟨W1,H1,I1,w1⟩
 refine cU hp (thn (hc y s1 W1 H1 _ I1 (turn n W1 H1 w1)) λ b s2 ⟨H2,I2,q2⟩=>?_)
 cases b with
 | true =>
  obtain⟨N,hN,q2⟩:=q2
  rw[if_pos rfl]
  refine cU hp (thn (hb y s2 W1 H2 _ I2 q2) λ f s3 q3=>?_)
  cases f with
  | next =>
   obtain⟨W3,G,I3,Y⟩:=q3
   obtain⟨m',J,Z⟩:=hN W3 G Y
   exact⟨m',J,W3,G,I3,Z⟩
  | cont =>
   obtain⟨W3,G,I3,Y⟩:=q3
   obtain⟨m',J,Z⟩:=hN W3 G Y
   exact⟨m',J,W3,G,I3,Z⟩
  | brk=>exact q3
  | ret v=>exact q3
 | false =>
  rw[if_neg aS]
  exact gU ⟨W1,H2,I2,q2⟩
end
structure It where
 go:Nat->Hp->Prop
 yld:Nat->Hp->V->Hp->Prop
 stop:Nat->Hp->Prop
def FpOk (X:Cx)(pins:yA)(H:Hp)(b:Addr):Prop :=
 H b=none/\b≠X.env.locals/\b ∉ X.fs/\(b∈X.ex\/X.s₀.heap.objs.size<=b)/\(∀ x c,X.env.cells.lookup x=some c->c≠b)/\∀ p∈X.pn++pins,p.1≠b
theorem Inv.fpOk {W:St}{b:Addr}(I:Inv X h W H s)(hb:s.heap.objs.size<=b)(hn:H' b=none):FpOk X h H' b:=by
 refine⟨hn,bV (ar I.lt hb),I.nofs hb,.inr (ao I.sz hb),λ x c e z=>?_,λ p y z=>?_⟩
 .obtain⟨v,q⟩:=I.cell x c e
  exact absurd (ar q.lt (by rw[z];exact hb)) (bE _)
 .exact absurd (ar (aI (I.pin p y).1) (by rw[z];exact hb)) (bE _)
structure Turn (P:aK)(w:World)(K:af)(tg:Expr)(J:It)(fp:List Addr)(it:Addr)(tn:Nat->Heap->Prop):Prop where
 mem:it∈fp
 obj:∀ i h,tn i h->∀ b∈fp,∃ o,h.get? b=some o/\∀ v,o.data≠.cell v
 keep:∀ i h h',tn i h->(∀ b∈fp,∀ o,h.get? b=some o->h'.get? b=some o)->tn i h'
 item:∀(X:Cx),X.prog=P->X.w=w->X.K=K->X.calm=true->∀(i:Nat) (pins:yA) (s:ah) (W:St) (H:Hp) (E:Value->ah->Prop),Inv X pins W H s->(∀ b∈fp,FpOk X pins H b)->tn i s.heap->J.go i H ->
  wpAny (model P w) X.A (ib (.ref it)) (λ r s1=>∃ u,r=some u /\
   wpAny (model P w) X.A (e8 tg (.ref it) u) (λ _ s2=>∃ x H',Inv X pins W H' s2/\RelV x u/\J.yld i H x H'/\tn (i+1) s2.heap/\∀ b∈fp,H' b=none) E s1) E s
 done:∀(X:Cx),X.prog=P->X.w=w->X.K=K->X.calm=true->∀(i:Nat) (pins:yA) (s:ah) (W:St) (H:Hp) (E:Value->ah->Prop),Inv X pins W H s->(∀ b∈fp,FpOk X pins H b)->tn i s.heap->J.stop i H ->
  wpAny (model P w) X.A (ib (.ref it)) (λ r s1=>r=none/\Inv X pins W H s1) E s
 self:∀(A:aV) (i:Nat) (s:ah) (Q:Value->ah->Prop) (E:Value->ah->Prop),tn i s.heap->Q (.ref it) s->wpAny (model P w) A (kg (.ref it)) Q E s
abbrev TI:=St->Hp->(It->Hp->Prop)->Prop
def PIE (X:Cx)(pins:yA)(W:St)(tg:Expr)(R:It->Hp->Prop)(itv:Value)(s2:ah):Prop :=
 ∃(it:Addr) (fp:List Addr) (tn:Nat->Heap->Prop) (J:It) (H':Hp),itv=.ref it/\Inv X pins W H' s2/\Turn X.prog X.w X.K tg J fp it tn/\tn 0 s2.heap/\(∀ b∈fp,FpOk X pins H' b)/\R J H'
def PI (X:Cx)(tg iter:Expr)(wi:TI):Prop :=
 ∀ pins s (W:St) H R ,Inv X pins W H s->wi W H R ->
  wpAny (model X.prog X.w) X.A (eval iter X.env) (λ v s1=>wpAny (model X.prog X.w) X.A (kg v) (PIE X pins W tg R) X.xe s1) X.xe s
theorem bA0 (ho : s.heap.get? it = some o) (hc : o.cls = .type n) (hd : o.data = .fields vs)
    (hn : ["enumerate", "zip", "dict_itemiterator", "dict_reverseitemiterator", "odict_iterator", "itertools.zip_longest", "itertools.pairwise"].contains n = false) (hQ : Q () s) : wpAny M A (e8 tg (.ref it) u) Q E s := by
  unfold e8
  cases tg <;> first
    | exact aC hQ
    | (cases u <;> first
        | exact aC hQ
        | (refine ae (wpAny_load ho ?_)
           rw[hc, hd]
           show wpAny M A (if(["enumerate", "zip", "dict_itemiterator", "dict_reverseitemiterator", "odict_iterator", "itertools.zip_longest", "itertools.pairwise"].contains n && vs[0]? == some (cO _)) = true then _ else _) Q E s
           rw[if_neg (by intro h; rw[hn, Bool.false_and]at h; cases h)]
           exact aC hQ))
noncomputable def Itl (K:af)(a:Addr):It :=
 ⟨λ i H=>∃ xs x,SqL K H a xs/\xs[i]?=some x,λ i H x H'=>H'=H/\∀ xs,SqL K H a xs->xs[i]?=some x,λ i H=>∃ xs,SqL K H a xs/\xs.length<=i⟩
noncomputable def Itt (K:af)(a:Addr):It :=
 ⟨λ i H=>∃ xs x,SqT K H a xs/\xs[i]?=some x,λ i H x H'=>H'=H/\∀ xs,SqT K H a xs->xs[i]?=some x,λ i H=>∃ xs,SqT K H a xs/\xs.length<=i⟩
noncomputable def Itr (lo:Int)(n:Nat):It:=⟨λ i _=>i<n,λ i H x H'=>H'=H/\x=.int (lo+i),λ i _=>n<=i⟩
theorem be9 {K} a it :Turn P w K tg (Itl K a) [it] it (λ i h=>h.IsListIter it a i) where
 mem:=by simp
 obj:=λ i h st b hb=>by
  have e:=by simpa using hb
  subst e
  obtain⟨o,e,c,d⟩:=st
  exact⟨o,e,λ v z=>by rw[d]at z;cases z⟩
 keep:=λ i h h' st k=>st.at λ o e=>k it (by simp) o e
 item:=by
  intro X Z hw hK hc i y s W H E I J st hg
  subst Z hw hK
  obtain⟨xs,x,hq,hx⟩:=hg
  obtain⟨its,rv,p,hz⟩:=I.list hq
  obtain⟨u,hu,ru⟩:=rv.get hx
  obtain⟨f0,f1,f2,Y,f4,f5⟩:=J it (by simp)
  refine wpAny_pyNext_list_item st p.isList (by simpa using hu) λ h' G sb=>?_
  have I1:=I.turned (t':=s.toks) (λ b o hb e=>(sb.2 b hb).trans e) f0 f1 Y f4 f5
  obtain⟨o,e,c,d⟩:=id G
  exact⟨u,rfl,bA0 e c d (by decide) ⟨x,H,I1,ru,⟨rfl,λ ys hy=>by rw[I.list_inj hy hq];exact hx⟩,G,λ b hb=>(J b hb).1⟩⟩
 done:=by
  intro X Z hw hK hc i y s W H E I J st hg
  subst Z hw hK
  obtain⟨xs,hq,hx⟩:=hg
  obtain⟨its,rv,p,hz⟩:=I.list hq
  obtain⟨f0,f1,f2,Y,f4,f5⟩:=J it (by simp)
  have hl:=rv.length
  exact wpAny_pyNext_list_end (I.ok.hd hc) st p.isList (by simp;lia) λ h' eb=>⟨rfl,I.turned (λ b o hb e=>eb b o hb e) f0 f1 Y f4 f5⟩
 self:=λ _ _ _ _ _ st h=>wpAny_pyIter_listiter st h
theorem aZ1 {K} a it :Turn P w K tg (Itt K a) [it] it (λ i h=>h.IsTupleIter it a i) where
 mem:=by simp
 obj:=λ i h st b hb=>by
  have e:=by simpa using hb
  subst e
  obtain⟨o,e,c,d⟩:=st
  exact⟨o,e,λ v z=>by rw[d]at z;cases z⟩
 keep:=λ i h h' st k=>st.at λ o e=>k it (by simp) o e
 item:=by
  intro X Z hw hK hc i y s W H E I J st hg
  subst Z hw hK
  obtain⟨xs,x,hq,hx⟩:=hg
  obtain⟨its,rv,p,hz⟩:=I.tuple hq
  obtain⟨u,hu,ru⟩:=rv.get hx
  obtain⟨f0,f1,f2,Y,f4,f5⟩:=J it (by simp)
  refine wpAny_pyNext_tuple_item st (p) (by simpa using hu) λ h' G sb=>?_
  have I1:=I.turned (t':=s.toks) (λ b o hb e=>(sb.2 b hb).trans e) f0 f1 Y f4 f5
  obtain⟨o,e,c,d⟩:=id G
  exact⟨u,rfl,bA0 e c d (by decide) ⟨x,H,I1,ru,⟨rfl,λ ys hy=>by rw[I.tuple_inj hy hq];exact hx⟩,G,λ b hb=>(J b hb).1⟩⟩
 done:=by
  intro X Z hw hK hc i y s W H E I J st hg
  subst Z hw hK
  obtain⟨xs,hq,hx⟩:=hg
  obtain⟨its,rv,p,hz⟩:=I.tuple hq
  obtain⟨f0,f1,f2,Y,f4,f5⟩:=J it (by simp)
  have hl:=rv.length
  exact wpAny_pyNext_tuple_end (I.ok.hd hc) st (p) (by simp;omega) λ h' eb=>⟨rfl,I.turned (λ b o hb e=>eb b o hb e) f0 f1 Y f4 f5⟩
 self:=λ _ _ _ _ _ st h=>wpAny_pyIter_tupleiter st h
theorem aV3 {K} it Y n :Turn P w K tg (Itr Y n) [it] it (λ i h=>IsRangeIter h it (Y+(i)*1) ((n) - (i)) 1) where
 mem:=by simp
 obj:=λ i h st b hb=>by
  have e:=by simpa using hb
  subst e
  exact⟨_,st,λ v z=>by
   have z':=z
   cases z'⟩
 keep:=λ i h h' st k=>k it (by simp) _ st
 item:=by
  intro X hP hw hK hc i y s W H E I J st hg
  subst hP hw hK
  obtain⟨f0,f1,f2,Z,f4,f5⟩:=J it (by simp)
  have Ww:=Walks.range (prog:=X.prog) (w:=X.w) (I.ok.hd hc) it Y 1 n
  refine Ww.item i s _ _ hg st λ v h' tk hv G kk=>?_
  obtain⟨t,rfl⟩:=hv
  have I1:Inv X y W H { s with heap:=h',toks:=tk }:=I.turned (λ b o hb e=>kk b o (by simpa using hb) e) f0 f1 Z f4 f5
  refine⟨_,rfl,bA0 G rfl rfl (by decide) ⟨.int (Y+i),H,I1,⟨t,?_⟩,⟨rfl,rfl⟩,G,λ b hb=>(J b hb).1⟩⟩
  rw[Int.mul_one]
 done:=by
  intro X hP hw hK hc i y s W H E I J st hg
  subst hP hw hK
  obtain⟨f0,f1,f2,Z,f4,f5⟩:=J it (by simp)
  exact wpAny_pyNext_range_end (I.ok.hd hc) st (by have:n<=i:=hg;lia) λ h' eb=>⟨rfl,I.turned (λ b o hb e=>eb b o hb e) f0 f1 Z f4 f5⟩
 self:=λ _ _ _ _ _ st h=>wpAny_pyIter_rangeiter st h
section
variable {X:Cx} {tg:Expr}
def bT9 (K:af)(tl:TE):TI:=λ W H R=>tl W H λ x H1=>∃ a,x=.ref a/\(∃ xs,SqL K H1 a xs)/\R (Itl K a) H1
def cn9 (K:af)(tl:TE):TI:=λ W H R=>tl W H λ x H1=>∃ a,x=.ref a/\(∃ xs,SqT K H1 a xs)/\R (Itt K a) H1
theorem bR4 (hl:PE X l J):PI X tg l (bT9 X.K J):=by
 intro y s W H R I h
 refine thn (hl y s W H _ I h) λ v s1 ⟨x,Y,G,r1,q1⟩=>?_
 obtain⟨a,e,⟨xs,hq⟩,q⟩:=q1
 subst e
 cases r1
 obtain⟨its,Z,p,hz⟩:=G.list hq
 refine d8 p.isList ?_
 refine⟨s1.heap.objs.size,[s1.heap.objs.size],_,_,Y,rfl,G.kept λ b o e=>ag _ e,be9 a _,⟨_,aH _ rfl,rfl,rfl⟩,λ b hb=>?_,q⟩
 have e:=by simpa using hb
 subst e
 exact G.fpOk (ak _) (G.hok.fresh (ak _))
theorem bV1 (hl:PE X l J):PI X tg l (cn9 X.K J):=by
 intro y s W H R I h
 refine thn (hl y s W H _ I h) λ v s1 ⟨x,Y,G,r1,q1⟩=>?_
 obtain⟨a,e,⟨xs,hq⟩,q⟩:=q1
 subst e
 cases r1
 obtain⟨its,Z,p,hz⟩:=G.tuple hq
 refine iY (p) ?_
 refine⟨s1.heap.objs.size,[s1.heap.objs.size],_,_,Y,rfl,G.kept λ b o e=>ag _ e,aZ1 a _,⟨_,aH _ rfl,rfl,rfl⟩,λ b hb=>?_,q⟩
 have e:=by simpa using hb
 subst e
 exact G.fpOk (ak _) (G.hok.fresh (ak _))
theorem bw5 {W:St}(I:Inv X G W H s)(h1:-(2^62)<=h)(Z:h<2^62)(h3:-(2^62)<=y)(Y:y<2^62)
  (q:R (Itr h (y - h).toNat) H):wpAny (model X.prog X.w) X.A (kg (.ref s.heap.objs.size)) (PIE X G W tg R) E { s with heap:=s.heap.push { cls:=.type "range",data:=.fields #[.int h t,.int y u,.int 1 v] },toks:=tk }:=by
 refine wpAny_pyIter_range (IsRange.new ..) (small_one h1 Z h3 Y) ?_
 have J:Inv X G W H { s with heap:=s.heap.push { cls:=.type "range",data:=.fields #[.int h t,.int y u,.int 1 v] },toks:=tk }:=I.kept λ b o e=>ag _ e
 refine⟨(s.heap.push { cls:=.type "range",data:=.fields #[.int h t,.int y u,.int 1 v] }).objs.size,[(s.heap.push { cls:=.type "range",data:=.fields #[.int h t,.int y u,.int 1 v] }).objs.size],_,_,H,rfl,
  J.kept λ b o e=>ag _ e,aV3 _ h (y - h).toNat,?_,λ b hb=>?_,q⟩
 .have e1:h+((0:Nat):Int)*1=h:=by simp
  have e2:(((y - h).toNat:Nat):Int) - ((0:Nat):Int)=lq h y 1:=by rw[rangeSize_one];split<;>lia
  show IsRangeIter _ _ (h+((0:Nat):Int)*1) ((((y - h).toNat:Nat):Int) - ((0:Nat):Int)) 1
  rw[e1,e2]
  exact aH _ rfl
 .have e:b=(s.heap.push { cls:=.type "range",data:=.fields #[.int h t,.int y u,.int 1 v] }).objs.size:=by simpa using hb
  subst e
  exact J.fpOk (ak _) (J.hok.fresh (ak _))
def cc4 (ta:TA):TI:=λ W H R=>ta W H λ vs H1=>∃ j,vs=[.int j]/\-(2^62)<=j/\j<2^62/\R (Itr 0 j.toNat) H1
theorem bh3 (J:Gl X "range")(Z:X.mg "range"=none)(ha:PA X [a] G)(hs:bu [a] X.env=[(false,eval a X.env)]:=by rfl):PI X tg (.Call (.Name "range" p) [a] [] pos) (cc4 G):=by
 intro y s W H R I h
 refine Call_ (aw7 I J Z boot_range (dv (thn (ha pos y s W H _ I h) λ us s1 ⟨vs,H1,Y,r1,q1⟩=>?_) hs rfl))
 obtain⟨j,e,q1,q2,q⟩:=q1
 subst e
 cases r1 with
 | cons r rr =>
  cases rr
  obtain⟨t,rfl⟩:=r
  exact call_range_1 (bw5 Y (by lia) (by lia) q1 q2 (by simpa using q))
def cu5 (wi:TI)(g:TG)(tb:TS):TS:=λ D W H=>wi W H λ J H1=>∃ Ww:Nat->Nat->St->Hp->Prop,(∃ m,Ww 0 m W H1)/\∀ i m W H,Ww i m W H ->
 (J.stop i H/\D.nx W H)\/(J.go i H/\∃ N,(∀ W' H',N W' H'->∃ m',m'<m/\Ww (i+1) m' W' H')/\∀ x H',J.yld i H x H'->g x W H' λ W2 H2=>tb { D with nx:=N,ct:=N,bk:=D.nx } W2 H2)
noncomputable def aG2 (fp:List Addr)(h:Heap):List (Addr×Obj):=fp.filterMap λ b=>(h.get? b).map λ o=>(b,o)
theorem jJ (hb:b∈y)(e:h.get? b=some o):(b,o)∈aG2 y h:=cB.mpr ⟨b,hb,by rw[e];rfl⟩
theorem bg7 (G:p∈aG2 y h):p.1∈y/\h.get? p.1=some p.2:=by
 obtain⟨b,hb,e⟩:=cB.mp G
 cases q:h.get? b with
 | none=>rw[q]at e;cases e
 | some o =>
  rw[q]at e
  have e':=aw e
  subst e'
  exact⟨hb,q⟩
theorem Inv.pinned {W:St}(I:Inv X h W H s)(G:∀ b∈y,FpOk X h H b)(ho:∀ b∈y,∃ o,s.heap.get? b=some o/\∀ v,o.data≠.cell v):Inv X (h++aG2 y s.heap) W H s :=
 I.pins_of λ p J=>(bM.mp J).elim (λ z=>I.pin p (bA _ z)) λ z=>by
  obtain⟨hb,e⟩:=bg7 z
  obtain⟨Z,f1,Y,_⟩:=G p.1 hb
  obtain⟨o,e',d⟩:=ho p.1 hb
  rw[e]at e';cases e'
  exact⟨e,Z,f1,Y,d⟩
theorem Inv.unpinned {W:St}(I:Inv X (h++G) W H s):Inv X h W H s:=I.pins_of λ p y=>I.pin p (bA _ (hV _ y))
theorem cg0 (hp:PassesOwn (model X.prog X.w) X.A X.env X.xe)(hc:X.calm=true)(hi:PI X tg iter wi)(hg:PG X tg g)(hb:PSs X body tb)
  (hs:∀ x,dw iter X.env x=pure x:=by intro _;rfl):PS X (.For tg iter body [] pos) (cu5 wi g tb):=by
 intro y s W H D I h
 refine wpAny_For (thn (hi y s W H _ I h) λ v s1 h1=>thn h1 λ a6 s2 h2=>?_) hs
 obtain⟨it,fp,tn,J,H2,e,I2,T,a4,f2,Ww,⟨m0,w0⟩,turn⟩:=h2
 subst e
 have Y:∀ {H'},(∀ b∈fp,H' b=none)->∀ b∈fp,FpOk X y H' b:=λ hn b hb=>⟨hn b hb,(f2 b hb).2⟩
 refine codeAny_forLoop_any (λ n s'=>∃ i W' H',Inv X y W' H' s'/\tn i s'.heap/\(∀ b∈fp,H' b=none)/\Ww i n W' H') ?_ m0 ⟨0,W,H2,I2,a4,λ b hb=>(f2 b hb).1,w0⟩
 rintro n s3 ⟨i,W3,H3,I3,a2,a1,w3⟩
 rcases turn i n W3 H3 w3 with⟨stop,qn⟩|⟨go,N,hN,step⟩
 .refine cU hp (thn (T.done X rfl rfl rfl hc i y s3 W3 H3 X.xe I3 (Y a1) a2 stop) λ r s4 ⟨hr,I4⟩=>?_)
  subst hr
  exact gU ⟨W3,H3,I4,qn⟩
 .refine cU hp (thn (T.item X rfl rfl rfl hc i y s3 W3 H3 X.xe I3 (Y a1) a2 go) λ r s4 ⟨u,hr,h4⟩=>?_)
  subst hr
  refine cU hp (thn h4 λ _ s5 ⟨x,H5,I5,r5,y5,a0,a3⟩=>?_)
  have a5:=I5.pinned (Y a3) (T.obj _ _ a0)
  refine cU hp (thn (hg _ s5 W3 H5 x u _ a5 r5 (step x H5 y5)) λ _ s6 ⟨W6,H6,I6,q6⟩=>?_)
  refine cU hp (thn (hb _ s6 W6 H6 _ I6 q6) λ f s7 q7=>?_)
  have G:∀ {W7} {Z},Inv X (y++aG2 fp s5.heap) W7 Z s7->N W7 Z->∃ m,m<n/\∃ i W' H',Inv X y W' H' s7/\tn i s7.heap/\(∀ b∈fp,H' b=none)/\Ww i m W' H':=λ {W7 Z} I7 n7=>by
   obtain⟨m',hm,w7⟩:=hN W7 Z n7
   refine⟨m',hm,i+1,W7,Z,I7.unpinned,T.keep _ _ _ a0 λ b hb o e=>(I7.pin (b,o) (bA _ (bA _ (jJ hb e)))).1,λ b hb=>?_,w7⟩
   obtain⟨o,e,d⟩:=T.obj _ _ a0 b hb
   exact(I7.pin (b,o) (bA _ (bA _ (jJ hb e)))).2.1
  cases f with
  | next=>obtain⟨W7,Z,I7,n7⟩:=q7;exact G I7 n7
  | cont=>obtain⟨W7,Z,I7,n7⟩:=q7;exact G I7 n7
  | brk=>obtain⟨W7,Z,I7,q7⟩:=q7;exact⟨W7,Z,I7.unpinned,q7⟩
  | ret v=>obtain⟨x7,W7,Z,I7,r7,q7⟩:=q7;exact⟨x7,W7,Z,I7.unpinned,r7,q7⟩
end
abbrev R2:=V->V->Hp->VK->Prop
def OpR (X:Cx)(f:Value->Value->Sem Value)(r:R2):Prop :=
 ∀ pins s (W:St) H x y v u Q ,Inv X pins W H s->RelV x v->RelV y u->r x y H Q ->
  wpAny (model X.prog X.w) X.A (f v u) (EP X pins W Q) X.xe s
def UnR (X:Cx)(f:Value->Sem Value)(r:V->Hp->VK->Prop):Prop :=
 ∀ pins s (W:St) H x v Q ,Inv X pins W H s->RelV x v->r x H Q ->
  wpAny (model X.prog X.w) X.A (f v) (EP X pins W Q) X.xe s
def af9 (X:Cx)(f:Value)(r:List V->Hp->VK->Prop):Prop :=
 ∀ pins s (W:St) H xs (us:yG) Q ,Inv X pins W H s->Vals xs us->r xs H Q ->
  wpAny (model X.prog X.w) X.A (call f us) (EP X pins W Q) X.xe s
def tOp (r:R2)(ta tb:TE):TE:=λ W H Q=>ta W H λ x H1=>tb W H1 λ y H2=>r x y H2 Q
def tUn (r:V->Hp->VK->Prop)(ta:TE):TE:=λ W H Q=>ta W H λ x H1=>r x H1 Q
def rI (Cc:Int->Int->Prop)(g:Int->Int->V):R2:=λ x y H Q=>∃ i j,x=.int i/\y=.int j/\Cc i j/\Q (g i j) H
def rI0 (g:Int->Int->V):R2:=λ x y H Q=>∃ i j,x=.int i/\y=.int j/\Q (g i j) H
def rU (g:Int->V):V->Hp->VK->Prop:=λ x H Q=>∃ i,x=.int i/\Q (g i) H
section
variable {X:Cx} {a b c:Expr} {ta tb tc:TE} {pos:Pos}
theorem co4 (ha:PE X a ta)(hb:PE X b tb){W:St}{R:V->V->Hp->Prop}(I:Inv X G W H s)
  (h:ta W H λ x J=>tb W J λ y H2=>R x y H2) {f:Value->Value->Sem Value}
  (hf:∀ v u s2 x y H2,Inv X G W H2 s2->RelV x v->RelV y u->R x y H2->wpAny (model X.prog X.w) X.A (f v u) Q X.xe s2) :
  wpAny (model X.prog X.w) X.A (eval a X.env) (λ v s₁=>wpAny (model X.prog X.w) X.A (eval b X.env) (λ u Y=>wpAny (model X.prog X.w) X.A (f v u) Q X.xe Y) X.xe s₁) X.xe s:=by
 refine thn (ha G s W H _ I h) λ v s1 ⟨x,J,Z,r1,q1⟩=>?_
 refine thn (hb G s1 W J _ Z q1) λ u s2 ⟨y,H2,I2,r2,q2⟩=>?_
 exact hf v u s2 x y H2 I2 r1 r2 q2
theorem cq4 (ho:OpR X (cz op) r)(ha:PE X a ta)(hb:PE X b tb):PE X (.BinOp a op b pos) (tOp r ta tb):=by
 intro G s W H Q I h
 exact wpAny_BinOp (co4 ha hb I h λ v u s2 x y H2 I2 Y J q=>ho G s2 W H2 x y v u Q I2 Y J q)
theorem co0 (ho:UnR X (unaryOp op) r)(ha:PE X a ta):PE X (.UnaryOp op a pos) (tUn r ta):=by
 intro y s W H Q I h
 exact UnaryOp_ (thn (ha y s W H _ I h) λ v s1 ⟨x,J,G,r1,q1⟩=>ho y s1 W J x v Q G r1 q1)
theorem opI {g:Int->Int->Int}
  (rule:∀(i j:Int) (t u:Tok) (s:ah) (Q:Value->ah->Prop) (E:Value->ah->Prop),Cc i j->Q (.int (g i j) s.toks) { s with toks:=s.toks+1 }->wpAny (model X.prog X.w) X.A (f (.int i t) (.int j u)) Q E s) :
  OpR X f (rI Cc λ i j=>.int (g i j)):=by
 intro G s W H x y v u Q I Y J h
 obtain⟨i,j,rfl,rfl,hc,q⟩:=h
 obtain⟨t,rfl⟩:=Y
 obtain⟨t',rfl⟩:=J
 exact rule i j t t' s _ _ hc ⟨.int (g i j),H,I.tok _,⟨_,rfl⟩,q⟩
theorem cv0 {g:Int->Int->Int}
  (rule:∀(i j:Int) (t u:Tok) (s:ah) (Q:Value->ah->Prop) (E:Value->ah->Prop),Q (.int (g i j) s.toks) { s with toks:=s.toks+1 }->wpAny (model X.prog X.w) X.A (f (.int i t) (.int j u)) Q E s) :
  OpR X f (rI0 λ i j=>.int (g i j)):=by
 intro G s W H x y v u Q I J Y h
 obtain⟨i,j,rfl,rfl,q⟩:=h
 obtain⟨t,rfl⟩:=J
 obtain⟨t',rfl⟩:=Y
 exact rule i j t t' s _ _ ⟨.int (g i j),H,I.tok _,⟨_,rfl⟩,q⟩
theorem cm1 {g:Int->Int->Bool}
  (rule:∀(i j:Int) (t u:Tok) (s:ah) (Q:Value->ah->Prop) (E:Value->ah->Prop),Q (.bool (g i j)) s->wpAny (model X.prog X.w) X.A (f (.int i t) (.int j u)) Q E s) :
  OpR X f (rI0 λ i j=>.T (g i j)):=by
 intro G s W H x y v u Q I J Y h
 obtain⟨i,j,rfl,rfl,q⟩:=h
 obtain⟨t,rfl⟩:=J
 obtain⟨t',rfl⟩:=Y
 exact rule i j t t' s _ _ ⟨.T (g i j),H,I,rfl,q⟩
def cu2 (i j:Int):Prop:=0<=j/\j<=1000000/\i.natAbs<2^64
def cl0 (i j:Int):Prop:=(-(2^64)<i/\i<2^64)\/(-(2^64)<j/\j<2^64)
theorem cl0.ok (h:cl0 i j):IntMulOk i j:=by
 rcases h with⟨y,G⟩|⟨y,G⟩
 .exact .of_left (intBits_le_64 y G)
 .exact .of_right (intBits_le_64 y G)
theorem aX8 k :(0:Int)<=2^k:=by
 rw[two_pow_cast]
 exact Int.natCast_nonneg _
theorem bX9:OpR X (cz .Add) (rI0 λ i j=>.int (i+j)):=cv0 λ _ _ _ _ _ _ _ q=>add_int q
theorem cb4:OpR X (cz .Sub) (rI0 λ i j=>.int (i - j)):=cv0 λ _ _ _ _ _ _ _ q=>sub_int q
theorem cf9:OpR X (cz .Mod) (rI (λ _ j=>0<j) λ i j=>.int (i % j)):=opI λ i j _ _ _ _ _ hc q=>by
 have h:=hc
 exact mod_int' (by lia) (by rw[Int.fmod_eq_emod_of_nonneg i (by lia)];exact q)
theorem bV8:OpR X (cz .Pow) (rI cu2 λ i j=>.int (i^j.toNat)):=opI λ _ _ _ _ _ _ _ hc q=>pow_int_small hc.1 hc.2.1 hc.2.2 q
theorem cc8:OpR X (cz .LShift) (rI cu2 λ i j=>.int (i*2^j.toNat)):=opI λ _ _ _ _ _ _ _ hc q=>lshift_int_small hc.1 hc.2.1 hc.2.2 q
theorem ch2:OpR X (cz .RShift) (rI (λ _ j=>0<=j) λ i j=>.int (i / 2^j.toNat)):=opI λ i j _ _ _ _ _ hc q =>
 rshift_int hc (by rw[fB i (aX8 _)];exact q)
theorem unI {g:Int->Int}
  (rule:∀(i:Int) (t:Tok) (s:ah) (Q:Value->ah->Prop) (E:Value->ah->Prop),Q (.int (g i) s.toks) { s with toks:=s.toks+1 }->wpAny (model X.prog X.w) X.A (f (.int i t)) Q E s) :
  UnR X f (rU λ i=>.int (g i)):=by
 intro y s W H x v Q I G h
 obtain⟨i,rfl,q⟩:=h
 obtain⟨t,rfl⟩:=G
 exact rule i t s _ _ ⟨.int (g i),H,I.tok _,⟨_,rfl⟩,q⟩
theorem ck4:UnR X (unaryOp .USub) (rU λ i=>.int (-i)):=unI λ _ _ _ _ _ q=>neg_int q
end
section
variable {X:Cx} {a b c:Expr} {ta tb tc:TE} {pos:Pos}
theorem cq8:OpR X (cF .Lt) (rI0 λ i j=>.T (decide (i<j))):=cm1 λ _ _ _ _ _ _ _ q=>lt_int q
theorem cn0:OpR X (cF .LtE) (rI0 λ i j=>.T (decide (i<=j))):=cm1 λ _ _ _ _ _ _ _ q=>le_int q
theorem cp0:OpR X (cF .Gt) (rI0 λ i j=>.T (decide (j<i))):=cm1 λ _ _ _ _ _ _ _ q=>gt_int q
theorem cs6:OpR X (cF .GtE) (rI0 λ i j=>.T (decide (j<=i))):=cm1 λ _ _ _ _ _ _ _ q=>ge_int q
theorem bP2 (ho:OpR X (cF op) r)(ha:PE X a ta)(hb:PE X b tb)(Z:cY op b=false):PE X (.Compare a [op] [b] pos) (tOp r ta tb):=by
 intro G s W H Q I h
 exact wpAny_Compare1 (co4 ha hb I h λ v u s2 x y H2 I2 Y J q=>ho G s2 W H2 x y v u Q I2 Y J q) Z
def bQ6 (t:TE):TT:=λ W H Q=>t W H λ x H'=>∃ k,x=.T k/\Q k H'
theorem bP0 (ho:OpR X (cF op) r)(ha:PE X a ta)(hb:PE X b tb)(hm:cY op b=false):PT X (.Compare a [op] [b] pos) (bQ6 (tOp r ta tb)):=by
 intro G s W H Q I h
 refine g7 (thn (ha G s W H _ I h) λ v s1 ⟨x,H1,J,r1,q1⟩=>thn (hb G s1 W H1 _ J q1) λ u s2 ⟨y,H2,I2,r2,q2⟩ =>
  thn (ho G s2 W H2 x y v u _ I2 r1 r2 q2) λ c s3 ⟨z,Y,I3,Z,k,e,q3⟩=>?_) hm
 subst e
 cases Z
 exact bP ⟨Y,I3,q3⟩
def bl8 (r r':R2)(ta tb tc:TE):TE:=λ W H Q=>ta W H λ x H1=>tb W H1 λ y H2=>r x y H2 λ z H3=>∃ k,z=.T k /\
 (if k=true then tc W H3 λ w' H4=>r' y w' H4 Q else Q (.T false) H3)
theorem br4 (ho:OpR X (cF op) r)(Y:OpR X (cF J) Z)(ha:PE X a ta)(hb:PE X b tb)(hc:PE X c tc)
  (hm:lr [op,J] [b,c]=false:=by with_unfolding_all rfl):PE X (.Compare a [op,J] [b,c] pos) (bl8 r Z ta tb tc):=by
 intro G s W H Q I h
 refine Compare_chain (thn (ha G s W H _ I h) λ v s1 ⟨x,H1,I1,r1,q1⟩=>chain_link (thn (hb G s1 W H1 _ I1 q1) λ u s2 ⟨y,H2,I2,r2,q2⟩ =>
  thn (ho G s2 W H2 x y v u _ I2 r1 r2 q2) λ d s3 ⟨z,H3,I3,r3,k,e,q3⟩=>?_)) hm
 subst e
 cases r3
 refine bP ?_
 cases k with
 | false=>exact ite_ff ⟨.T false,H3,I3,rfl,q3⟩
 | true=>exact ite_tt (chain_last (thn (hc G s3 W H3 _ I3 q3) λ w' s4 ⟨z',H4,I4,r4,q4⟩=>Y G s4 W H4 y z' u w' Q I4 r2 r4 q4))
theorem bw2 (ho:OpR X (cF op) r)(Y:OpR X (cF J) Z)(ha:PE X a ta)(hb:PE X b tb)(hc:PE X c tc)
  (hm:lr [op,J] [b,c]=false:=by with_unfolding_all rfl):PT X (.Compare a [op,J] [b,c] pos) (bQ6 (bl8 r Z ta tb tc)):=by
 intro G s W H Q I h
 refine isTrue_chain (thn (ha G s W H _ I h) λ v s1 ⟨x,H1,I1,r1,q1⟩=>test_link (thn (hb G s1 W H1 _ I1 q1) λ u s2 ⟨y,H2,I2,r2,q2⟩ =>
  thn (ho G s2 W H2 x y v u _ I2 r1 r2 q2) λ d s3 ⟨z,H3,I3,r3,k,e,q3⟩=>?_)) hm
 subst e
 cases r3
 refine bP ?_
 cases k with
 | false =>
  obtain⟨k',e',q'⟩:=q3
  cases e'
  exact ite_ff ⟨H3,I3,q'⟩
 | true =>
  refine ite_tt (test_last (thn (hc G s3 W H3 _ I3 q3) λ w' s4 ⟨z',H4,I4,r4,q4⟩=>thn (Y G s4 W H4 y z' u w' _ I4 r2 r4 q4) λ d' s5 ⟨z2,H5,I5,r5,k2,e2,q5⟩=>?_))
  subst e2
  cases r5
  exact bP ⟨H5,I5,q5⟩
theorem ar4:(aQ)<2^63:=by rw[fQ];decide
theorem aY7:OpR X (cz .Add) (λ x y H Q=>∃ i j,x=.str i/\y=.str j/\i.length+j.length<=aQ/\Q (.str (i++j)) H):=by
 intro G s W H x y v u Q I J Y h
 obtain⟨i,j,rfl,rfl,hz,q⟩:=h
 obtain⟨t,rfl⟩:=J
 obtain⟨t',rfl⟩:=Y
 exact add_str (λ t' tk=>⟨.str (i++j),H,I.tok _,⟨_,rfl⟩,q⟩) hz
theorem aj8 {us:yG}(r:Vals [x] us):∃ u,us=[u]/\RelV x u:=by
 cases r with
 | cons r1 r2=>cases r2;exact⟨_,rfl,r1⟩
theorem bK0 {us:yG}(r:Vals [x,y] us):∃ u w',us=[u,w']/\RelV x u/\RelV y w':=by
 cases r with
 | cons r1 r2 =>
  cases r2 with
  | cons r3 r4=>cases r4;exact⟨_,_,rfl,r1,r3⟩
theorem bw7:af9 X (.builtin "abs") (λ y H Q=>∃ i,y=[.int i]/\Q (.int (if i<0 then -i else i)) H):=by
 intro G s W H y us Q I r h
 obtain⟨i,rfl,q⟩:=h
 obtain⟨u,rfl,t,rfl⟩:=aj8 r
 exact call_abs_int λ u tk=>⟨.int (if i<0 then -i else i),H,I.tok _,⟨_,rfl⟩,q⟩
theorem bj1 (hc:X.calm=true):af9 X (.builtin "max") (λ y H Q=>∃ i j,y=[.int i,.int j]/\Q (.int (if j > i then j else i)) H):=by
 intro G s W H y us Q I r h
 obtain⟨i,j,rfl,q⟩:=h
 obtain⟨u,w',rfl,⟨t,rfl⟩,⟨t',rfl⟩⟩:=bK0 r
 refine max_two_ints (I.ok.hd hc) λ h' tk k=>⟨_,H,I.kept k,?_,q⟩
 by_cases hj:j > i
 .rw[if_pos hj,if_pos hj];exact⟨_,rfl⟩
 .rw[if_neg hj,if_neg hj];exact⟨_,rfl⟩
theorem bp0 (hc:X.calm=true):af9 X (.builtin "min") (λ y H Q=>∃ i j,y=[.int i,.int j]/\Q (.int (if j<i then j else i)) H):=by
 intro G s W H y us Q I r h
 obtain⟨i,j,rfl,q⟩:=h
 obtain⟨u,w',rfl,⟨t,rfl⟩,⟨t',rfl⟩⟩:=bK0 r
 refine min_two_ints (I.ok.hd hc) λ h' tk k=>⟨_,H,I.kept k,?_,q⟩
 by_cases hj:j<i
 .rw[if_pos hj,if_pos hj];exact⟨_,rfl⟩
 .rw[if_neg hj,if_neg hj];exact⟨_,rfl⟩
theorem bn5:af9 X (.type "int") (λ y H Q=>(∃ i,y=[.int i]/\Q (.int i) H)\/∃ k,y=[.T k]/\Q (.int (if k then 1 else 0)) H):=by
 intro G s W H y us Q I r h
 rcases h with⟨i,rfl,q⟩|⟨k,rfl,q⟩
 .obtain⟨u,rfl,t,rfl⟩:=aj8 r
  exact call_int_int ⟨.int i,H,I,⟨_,rfl⟩,q⟩
 .obtain⟨u,rfl,r1⟩:=aj8 r
  cases r1
  exact call_int_bool ⟨.int (if k then 1 else 0),H,I.tok _,⟨_,rfl⟩,q⟩
end
structure ObjM (h:Heap)(x dx Cc:Addr)(mA:yC):Prop where
 obj:h.get? x=some (kC Cc dx)
 ns:h.Ns1 dx mA
 ne:dx≠x
theorem bk9 {h:Heap}{Y:yC}(n:h.Ns1 J Y):∃ od,h.get? J=some od/\∀ name,ic name od=some (Y name):=by
 obtain⟨o,es,ep,ho,hd,hk,_,hm⟩:=n
 refine⟨o,ho,λ name=>?_⟩
 have e:=hm name
 unfold nsFind findBy at e
 rw[<-Array.find?_toList]at e
 unfold ic
 rw[hd]
 dsimp only
 split
 .rename_i y q
  rw[q]at e
  exact congrArg some e
 .rename_i q
  rw[q]at e
  have a:es.toList.any (·.refKey)=false:=by
   rw[List.any_eq_false]
   intro y hy
   obtain⟨z,t,G⟩:=hk y (Array.mem_toList_iff.mp hy)
   simp[DictEntry.refKey,G]
  have Z:¬ es.toList.any (·.refKey)=true:=by rw[a];exact aS
  rw[if_neg Z]
  exact congrArg some e
theorem ObjM.look (I:ObjM h x y Cc G):∃ od,PySem.W.InstAt h x (kC Cc y) Cc (some od)/\∀ name,ic name od=some (G name) :=
 let⟨od,ho,hl⟩:=bk9 I.ns
 ⟨od,⟨I.obj,rfl,rfl,ho⟩,hl⟩
section
variable {prog:aK} {w:World} {A:aV} {E:Value->ah->Prop} {s:ah} {K:af} {x dx Cc f:Addr} {mA:yC} {name:Str} {v:Value}
end
theorem bq8.some_of (r:bq8 (some v) o):∃ u,o=some u/\RelV v u:=by
 cases o with
 | none=>exact(r).elim
 | some u=>exact⟨u,rfl,r⟩
section
variable {P:aK} {w:World} {H H':Hp} {h h':Heap} {a Cc dx:Addr} {fs fs':List (Str×V)}
end
structure Cls (K:af)(Cc:Addr):Prop where
 pg:kh K Cc Str.empty=true
 hd:PySem.W.hasDictIn K Cc=true
 po:PySem.W.plainOver K Cc=true
 sa:d9 K (.ref Cc) "__setattr__"=some (some (.builtin "object.__setattr__"))
theorem Cls.get {K}(c:Cls K Cc) f :kh K Cc f=true:=c.pg
section
variable {X:Cx} {pins:yA} {W:St} {H:Hp} {s:ah} {a Cc dx:Addr} {fs:List (Str×V)} {f:Str} {v:V} {A:aV} {E:Value->ah->Prop}
end
section
variable {X:Cx} {o e value:Expr} {f:Str} {pos pos' tpos:Pos} {ta tv:TE}
end
section
variable {X:Cx} {pins:yA} {W:St} {H:Hp} {s:ah} {A:aV} {E:Value->ah->Prop} {Q:Value->ah->Prop} {c:Value} {b:Bool}
inductive TyOf (K:af)(H:Hp):V->Value->Prop where
 | N:TyOf K H .N (.type "NoneType")
 | T (x:Bool):TyOf K H (.T x) (.type "bool")
 | int (i:Int):TyOf K H (.int i) (.type "int")
 | str (x:Str):TyOf K H (.str x) (.type "str")
 | flt (x:UInt64):TyOf K H (.flt x) (.type "float")
 | J {a:Addr} {xs:List V} (e:H a=some (.J xs)):TyOf K H (.ref a) (.type "list")
 | frz {a:Addr} {o:Obj} {xs:List V} (e:H a=some (.frz o (.J xs))):TyOf K H (.ref a) (.type "list")
 | tp {a:Addr} {xs:List V} (e:H a=some (.tp xs)):TyOf K H (.ref a) (.type "tuple")
 | dK {a:Addr} {kvs:List (Key×V)} (e:H a=some (.dK kvs)):TyOf K H (.ref a) (.type "dict")
theorem jA (I:Inv X pins W H s)(G:RelV x u)(Z:TyOf X.K H x t)(e:cu X.K t c=some b)(h:∀ tk,Q (.bool b) { s with toks:=tk }) :
  wpAny (model X.prog X.w) A (call (.builtin "isinstance") [u,c]) Q E s:=by
 cases Z with
 | N=>cases(show u=Value.none from G);exact cf PySem.W.kitx_none I.kIn True.intro e (λ z=>nomatch z) h
 | T y=>cases(show u=Value.bool y from G);exact cf PySem.W.kitx_bool I.kIn True.intro e (λ z=>nomatch z) h
 | int i=>obtain⟨t,q⟩:=(show ∃ t,u=Value.int i t from G);cases q;exact cf PySem.W.kitx_int I.kIn True.intro e (λ z=>nomatch z) h
 | str y=>obtain⟨t,q⟩:=(show ∃ t,u=Value.str y t from G);cases q;exact cf PySem.W.kitx_str I.kIn True.intro e (λ z=>nomatch z) h
 | flt y=>obtain⟨t,q⟩:=(show ∃ t,u=Value.float y t from G);cases q;exact cf PySem.W.kitx_float I.kIn True.intro e (λ z=>nomatch z) h
 | @J a xs ea =>
  cases(show u=Value.ref a from G)
  obtain⟨_,_,n,_,J⟩:=(show ag0 X.prog X.w H s.heap a (.J xs)from I.hok a _ ea)
  exact cf j3 I.kIn ⟨_,J,rfl⟩ e (λ z=>nomatch z) h
 | @frz a ob xs ea =>
  cases(show u=Value.ref a from G)
  obtain⟨_,_,_,n,_,J⟩:=(show ag0 X.prog X.w H s.heap a (.frz ob (.J xs))from I.hok a _ ea)
  exact cf j3 I.kIn ⟨_,J,rfl⟩ e (λ z=>nomatch z) h
 | @tp a xs ea =>
  cases(show u=Value.ref a from G)
  obtain⟨_,_,_,p⟩:=(show ag0 X.prog X.w H s.heap a (.tp xs)from I.hok a _ ea)
  obtain⟨o,J,Y,_⟩:=p
  exact cf iZ I.kIn ⟨o,J,Y⟩ e (λ z=>nomatch z) h
 | @dK a kvs ea =>
  cases(show u=Value.ref a from G)
  obtain⟨_,_,vs,_,p⟩:=(show ag0 X.prog X.w H s.heap a (.dK kvs)from I.hok a _ ea)
  obtain⟨o,es,ep,J,Y,_⟩:=p
  exact cf PySem.W.kitx_dict I.kIn ⟨o,J,Y.1⟩ e (λ z=>nomatch z) h
end
structure Room (k:Nat)(A:aV):Prop where
 hd:A.handled=none
 dp:A.depth+3*k+5<recursionLimit
 un:A.units+16*k+200<cLine
theorem Room.mono (r:Room k A)(h:j<=k):Room j A:=⟨r.hd,by have:=r.dp;lia,by have:=r.un;lia⟩
theorem Room.deeper (r:Room (k+1) A) env :Room k (A.deeper env) :=
 ⟨r.hd,by have:=r.dp;show A.depth+1+3*k+5<_;lia,by have:=r.un;show A.units+3+16*k+200<_;lia⟩
theorem Room.in1 (r:Room (k+1) A):Room k A.in1 :=
 ⟨r.hd,by have:=r.dp;show A.depth+3*k+5<_;lia,by have:=r.un;show A.units+1+16*k+200<_;lia⟩
theorem Room.depth (r:Room k A):A.depth<recursionLimit:=by have:=r.dp;lia
theorem Room.units (r:Room k A):A.units+64<cLine:=by have:=r.un;lia
theorem Room.units0 (r:Room k A):A.units<cLine:=by have:=r.un;lia
def bq9:TA:=λ _ H Q=>Q [] H
def aq1 (ta:TE)(tr:TA):TA:=λ W H Q=>ta W H λ x H1=>tr W H1 λ xs H2=>Q (x::xs) H2
section
variable {X:Cx} {e:Expr} {es:yK} {te:TE} {t:TA} {pos:Pos}
theorem ah3:PA X [] bq9:=λ _ _ _ _ H Q I h=>Calls.spliced_nil ⟨[],H,I,.nil,h⟩
theorem qi (ha:PE X e te)(G:PA X es t)(hs:bu (e::es) X.env=(false,eval e X.env)::bu es X.env:=by rfl):PA X (e::es) (aq1 te t):=by
 intro pos y s W H Q I h
 rw[hs]
 refine Calls.spliced_cons (thn (ha y s W H _ I h) λ u s1 ⟨x,H1,Y,r1,q1⟩=>?_)
 exact thn (G pos y s1 W H1 _ Y q1) λ us s2 ⟨J,H2,I2,Z,q2⟩=>⟨x::J,H2,I2,.cons r1 Z,q2⟩
def cv9 (t:TA):TE:=λ W H Q=>t W H λ xs H1=>xs.length<=aQ/\∀ p,H1 p=none->Q (.ref p) (upd H1 p (.tp xs))
def cz6 (t:TA):TE:=λ W H Q=>t W H λ xs H1=>xs.length<=aQ/\∀ p,H1 p=none->Q (.ref p) (upd H1 p (.J xs))
theorem bZ2 (h:PA X es t):PE X (.Tuple es x1 pos) (cv9 t):=by
 intro y s W H Q I hq
 refine wpAny_Tuple_spliced (thn (h pos y s W H _ I hq) λ us s1 ⟨Z,G,J,r,z,q⟩=>⟨by rw[<-r.length];exact z,?_⟩)
 have Y:=J.hok.fresh (ak _)
 refine⟨.ref s1.heap.objs.size,upd G s1.heap.objs.size (.tp Z),J.laid (λ b u e=>ag _ e) (ak _) ?_,rfl,q _ Y⟩
 exact⟨z,us,r,⟨_,aH _ rfl,rfl,_,rfl⟩⟩
theorem bB3 (h:PA X es t):PE X (.List es pos) (cz6 t):=by
 intro y s W H Q I hq
 refine wpAny_List_spliced (thn (h pos y s W H _ I hq) λ us s1 ⟨Z,G,J,r,z,q⟩=>⟨by rw[<-r.length];exact z,?_⟩)
 have Y:=J.hok.fresh (ak _)
 refine⟨.ref s1.heap.objs.size,upd G s1.heap.objs.size (.J Z),J.laid (λ b u e=>ag _ e) (ak _) ?_,rfl,q _ Y⟩
 exact⟨z,us,0,r,aH _ rfl⟩
end
abbrev Sp:=List V->Hp->VK->XK->Prop
abbrev CXT:=List Env->Hp->ah->XK->Value->ah->Prop
structure Env0 (P:aK)(w:World)(K:af)(mg:yC)(base:Heap)(A:aV)(outer:List Env)(s:ah)(H:Hp):Prop where
 frames:A.frames=some outer
 mod:Mod K mg base
 bs:∀ b o,base.get? b=some o->s.heap.get? b=some o/\H b=none
 bsz:base.objs.size<=s.heap.objs.size
 funs:s.heap.FunFrames base outer
 frf:∀ b∈frs outer,H b=none
 hok:HOk P w H s.heap
 bare:fO s.gens
def CE (outer:List Env)(P:aK)(w:World)(H:Hp)(s:ah)(Q:VK)(u:Value)(s':ah):Prop :=
 ∃ v H',s'.os=s.os/\fO s'.gens/\Un (frs outer) [] H H' s.heap s'.heap/\HOk P w H' s'.heap/\RelV v u/\Q v H'
def CR (CX:CXT)(outer:List Env)(P:aK)(w:World)(H:Hp)(s:ah)(Q:VK)(E:XK)(r:kP)(s':ah):Prop :=
 match r with
 | .ok (.ret u)=>CE outer P w H s Q u s'
 | .ok _=>False
 | .error e=>CX outer H s E e s'
structure FnOk (P:aK)(w:World)(K:af)(mg:yC)(base:Heap)(CX:CXT)(k:Nat)(f:Addr)(fd:bJ)(ps:yH)(sp:Sp):Prop where
 len:∀ vs H Q E,sp vs H Q E->vs.length=ps.length
 run:∀(A:aV) (outer:List Env) (s:ah) (H:Hp) (args:Args) (us:yG) (vs:List V) (Q:VK) (E:XK),Room k A->Env0 P w K mg base A outer s H->kJ s fd args (ps.zip us)->Vals vs us->sp vs H Q E ->
  fR (model P w) A (.call (.ref f) args) (CR CX outer P w H s Q E) s
theorem FnOk.imp {K}(F:FnOk P w K mg base J k f Y ps sp)
  (h:∀ vs H Q E,G vs H Q E->sp vs H Q E):FnOk P w K mg base J k f Y ps G :=
 ⟨λ vs H Q E q=>F.len vs H Q E (h _ _ _ _ q),λ A y s H args us vs Q E Z he hb hv hs=>F.run A y s H args us vs Q E Z he hb hv (h _ _ _ _ hs)⟩
section
variable {X:Cx} {pins:yA} {W:St} {H:Hp} {s s':ah}
theorem Inv.env0 (I:Inv X pins W H s):Env0 X.prog X.w X.K X.mg X.base X.A X.stack s H :=
 ⟨I.ok.frames,I.ok.mod,I.bs,ao I.ok.bsz I.sz,I.stack,I.stkFree,I.hok,I.bare⟩
theorem Inv.after (I:Inv X pins W H s)(h:CE X.stack X.prog X.w H s Q u s'):EP X pins W Q u s':=by
 obtain⟨v,H',os,bare,un,hok,r,q⟩:=h
 obtain⟨G,g,d,t,y⟩:=s'
 obtain rfl:y=s.os:=os
 exact⟨v,H',I.call un hok bare (λ b z=>absurd z (by simp)),r,q⟩
end
def aX4 (sp:Sp)(dvs:List V)(E:XK)(t:TA):TE:=λ W H Q=>t W H λ vs H1=>sp (vs++dvs) H1 Q E
def Binds (K:af)(fd:bJ)(ps:yH)(ds:yG):Prop :=
 ∀ s us ,K.In s.heap->(us++ds).length=ps.length->kJ s fd ⟨us,[]⟩ (ps.zip (us++ds))
theorem Binds.all {K}(h:∀ us:List Value,us.length=ps.length->ee y ⟨us,[]⟩=pure (ps.zip us)):Binds K y ps []:=λ s us _ hl=>by
 rw[bf]at hl ⊢
 exact .of_eq (h us hl)
def aO5 (CX:CXT)(X:Cx)(E:XK):Prop:=∀ pins (W:St) H s e s' ,Inv X pins W H s->CX X.stack H s E e s'->X.xe e s'
section
variable {X:Cx} {CX:CXT} {k:Nat} {f Cc:Addr} {fd:bJ} {ps:yH} {sp:Sp} {dvs:List V} {ds:yG} {E:XK} {x m:Str} {p pos apos:Pos} {e o:Expr} {es:yK} {ta:TE} {t:TA}
theorem bF0 {W:St}{us:yG}(F:FnOk X.prog X.w X.K X.mg X.base CX k f fd ps sp)(J:Room k X.A)(hb:Binds X.K fd ps ds)(hd:Vals dvs ds)(hx:aO5 CX X E)
  (I:Inv X y W H s) (r:Vals vs us) (h:sp (vs++dvs) H Q E):wpAny (model X.prog X.w) X.A (call (.ref f) us) (EP X y W Q) X.xe s:=by
 have G:Vals (vs++dvs) (us++ds):=r.append hd
 have hl:(us++ds).length=ps.length:=by rw[<-G.length];exact F.len _ _ _ _ h
 refine kQ (fq (F.run X.A X.stack s H ⟨us,[]⟩ (us++ds) (vs++dvs) Q E J I.env0 (hb s us I.kIn hl) G h) λ r s' hq=>?_)
 cases r with
 | error e=>exact hx y W H s e s' I hq
 | ok fl =>
  cases fl with
  | ret u=>exact I.after hq
  | next=>exact bI hq
  | brk=>exact bI hq
  | cont=>exact bI hq
theorem bN1 (F:FnOk X.prog X.w X.K X.mg X.base CX k f fd ps sp)(hr:Room k X.A)(Z:Gl X x)(hm:X.mg x=some (.ref f))(hk:cE X.K (.ref f)=true)(hb:Binds X.K fd ps ds)(hd:Vals dvs ds)(hx:aO5 CX X E)
  (ha:PA X (e::es) t) (G:(x==("__debug__":Str))=false:=by decide) (he:bu (e::es) X.env=(false,eval e X.env)::bu es X.env:=by rfl) (J:(d7 pos (bu es X.env)).any (·.1)=false:=by rfl) :
  PE X (.Call (.Name x p) (e::es) [] pos) (aX4 sp dvs E t):=by
 intro y s W H Q I h
 refine cC (ax8 I Z hm ?_ G)
 refine i3 I.ok.mod.kin hk (thn (ha pos y s W H _ I h) λ us s1 ⟨vs,H1,Y,r,q⟩=>⟨Y.kIn,?_⟩) he J
 exact bF0 F hr hb hd hx Y r q
theorem bv1 (F:FnOk X.prog X.w X.K X.mg X.base CX k f fd ps sp)(Y:Room k X.A)(J:Gl X x)(Z:X.mg x=some (.ref f))(hk:cE X.K (.ref f)=true)(hb:Binds X.K fd ps ds)(hd:Vals dvs ds)(hx:aO5 CX X E)
  (y:(x==("__debug__":Str))=false:=by decide):PE X (.Call (.Name x p) [] [] pos) (aX4 sp dvs E bq9):=by
 intro G s W H Q I h
 refine cC (ax8 I J Z ?_ y)
 exact PySem.W.callWith_K0 I.kIn hk (bF0 F Y hb hd hx I .nil h)
structure Mk (K:af)(Cc f:Addr):Prop where
 makes:PySem.W.makesIn K Cc=true
 init:d9 K (.ref Cc) "__init__"=some (some (.ref f))
 fn:PySem.W.isFn K (.ref f)=true
 kp:cE K (.ref Cc)=true
end
section
variable {X:Cx} {CX:CXT} {k:Nat} {f Cc:Addr} {fd:bJ} {ps ks:yH} {sp:Sp} {E:XK} {x m:Str} {p pos apos kpos:Pos} {e o:Expr} {es:yK} {kws:List kK} {te ta:TE} {t tk:TA} {nm:Option Str}
variable {g:List Value->List Value->List Value} {gV:List V->List V->List V}
end
structure FnScope (N P:yH)(sc:Scope):Prop where
 kind:sc.kind=.function
 co:sc.isCoroutine=false
 gen:sc.isGenerator=false
 nd:N.Nodup
 pre:N.take P.length=P
 par:∀ x∈P,sc.names.lookup x=some .local\/sc.names.lookup x=some .cell
 nofree:∀ y∈sc.names,y.2≠.free
theorem aE5 {eK}:∀ {binds} {m:yC},(∀ v,(x,v) ∉ binds)->bindL eK binds m x=m x
 | [],_,_=>rfl
 | (n,v)::r,m,h=>by
  unfold bindL
  rw[aE5 λ w hw=>h w (aE _ hw)]
  split
  .have:x≠n:=by rintro rfl;exact h v aG
   simp[this]
  .rfl
theorem aF5 {eK}:∀ {binds} {m:yC},(∀ v,(x,v) ∉ binds)->bindC eK binds m x=m x
 | [],_,_=>rfl
 | (n,v)::r,m,h=>by
  unfold bindC
  rw[aF5 λ w hw=>h w (aE _ hw)]
  split
  .rfl
  .have:x≠n:=by rintro rfl;exact h v aG
   simp[this]
theorem as5 {eK}:∀ {P:yH} {vs:yG} {i:Nat} {m:yC},P.Nodup->P[i]?=some x->vs[i]?=some v->eK x=some .local ->
  bindL eK (P.zip vs) m x=some v
 | [],_,_,_,_,h,_,_=>by simp at h
 | _::_,[],_,_,_,_,h,_=>by simp at h
 | p::P,w::vs,0,m,nd,h1,h2,hk=>by
  simp at h1 h2;subst h1;subst h2
  show bindL eK ((p,w)::P.zip vs) m p=_
  unfold bindL
  rw[aE5 λ v hv=>(cI.mp nd).1 (dS hv).1,if_pos hk]
  simp
 | p::P,w::vs,i+1,m,nd,h1,h2,hk=>by
  unfold bindL
  exact as5 (cI.mp nd).2 (by simpa using h1) (by simpa using h2) hk
theorem ap1 {eK}:∀ {P:yH} {vs:yG} {i:Nat} {m:yC},P.Nodup->P[i]?=some x->vs[i]?=some v->eK x≠some .local ->
  bindC eK (P.zip vs) m x=some v
 | [],_,_,_,_,h,_,_=>by simp at h
 | _::_,[],_,_,_,_,h,_=>by simp at h
 | p::P,w::vs,0,m,nd,h1,h2,hk=>by
  simp at h1 h2;subst h1;subst h2
  show bindC eK ((p,w)::P.zip vs) m p=_
  unfold bindC
  rw[aF5 λ v hv=>(cI.mp nd).1 (dS hv).1,if_neg hk]
  simp
 | p::P,w::vs,i+1,m,nd,h1,h2,hk=>by
  unfold bindC
  exact ap1 (cI.mp nd).2 (by simpa using h1) (by simpa using h2) hk
noncomputable def al5 (N:yH)(vs:List V):St:=vs.map some++aq (N.length - vs.length) none
noncomputable def bv2 (CX:CXT)(P:aK)(w:World)(K:af)(mg:yC)(base:Heap)(N:yH)(qual:Str)(scope:Scope)(f:Addr)(cd:Value)(A:aV)(outer:List Env)(s:ah)(H:Hp)(E:XK):Cx where
 prog:=P
 w:=w
 K:=K
 mg:=mg
 base:=base
 A:=A.deeper (fC qual scope s.heap.objs.size f cd)
 N:=N
 s₀:=s
 H₀:=H
 env:=fC qual scope s.heap.objs.size f cd
 outer:=outer
 stack:=fC qual scope s.heap.objs.size f cd::outer
 ex:=[]
 calm:=true
 fn:=λ _=>true
 pn:=[]
 xe:=λ e s'=>wpAny (model P w) (A.deeper (fC qual scope s.heap.objs.size f cd)) (leaving (fC qual scope s.heap.objs.size f cd) e) (λ _ s''=>CX outer H s E e s'') (λ e' s''=>CX outer H s E e' s'') s'
theorem qu {sc:Scope}(h:sc.names.lookup x=some .cell):∃ c,(aP n sc.names []).lookup x=some c:=by
 have q:=gF sc.names n [] (.inl h)
 exact f8.mp q
theorem bh6 {K:af}{us:yG}{vs:List V}
  (S:FnScope N ps scope) (hd:A.handled=none) (Y:Env0 P w K mg base A G s H) (hl:vs.length=ps.length) (r:Vals vs us)
  (x:fS s s.heap.objs.size (bindL (fC qual scope s.heap.objs.size f cd).kindOf (ps.zip us) λ _=>none) (aP (s.heap.objs.size+1) scope.names []) (bindC (fC qual scope s.heap.objs.size f cd).kindOf (ps.zip us) λ _=>none) s1) :
  Inv (bv2 CX P w K mg base N qual scope f cd A G s H E) [] (al5 N vs) H s1:=by
 have a1:ps.length<=N.length:=by have:=congrArg ie S.pre;rw[bW]at this;lia
 obtain⟨h1,tk,rfl,hk⟩:=x.done
 have Z:∀ b:Addr,b ∉ (bv2 CX P w K mg base N qual scope f cd A G s H E).ex:=λ b z=>absurd (show b∈([]:List Addr)from z) (by simp)
 refine⟨⟨Y.mod,S.kind,rfl,rfl,ak _,λ y z c h1 J=>?_,λ y hy=>?_,λ y c _ h=>?_,λ _=>hd,ig Y.frames,.inr ⟨rfl,rfl⟩,λ b z=>absurd z (Z b),Y.bs,Y.bsz,λ b _ _=>Z b,λ b z=>absurd z (Z b),Y.funs,Y.frf⟩,
  rfl,Y.bare,Un.kept hk,⟨_,x.toInCall.ns,λ i y v h1 J h3=>?_⟩,λ y c h=>⟨_,x.cell y c h⟩,Y.hok.fresh (ak _),λ y c h=>?_,λ p hp=>absurd (show p∈([]:yA)from hp) (by simp),Y.hok.kept hk,?_⟩
 .exact gG x.apart (aF h1) (aF J)
 .have hy:scope.names.lookup y=some .cell\/scope.names.lookup y=some .free:=hy
  rcases hy with hy|hy
  .exact qu hy
  .exact absurd rfl (S.nofree _ (aF hy))
 .exact dE (x.above y c (aF h))
 .have hi:i<vs.length:=by
   unfold al5 at J
   by_cases hi:i<vs.length
   .exact hi
   .rw[am (by simpa using hi)]at J
    rw[gq]at J
    split at J<;>cases J
  have ha:vs[i]?=some v:=by
   unfold al5 at J
   rw[ax (by simpa using hi),av]at J
   cases e:vs[i]? with
   | none=>rw[e]at J;cases J
   | some a=>rw[e]at J;cases J;rfl
  obtain⟨u,hu,rv⟩:=r.get ha
  have hp:ps[i]?=some y:=by
   rw[<-S.pre,cZ (by lia)];exact h1
  have a0:ps.Nodup:=by rw[<-S.pre];exact S.nd.sublist (List.take_sublist _ _)
  refine⟨u,rv,?_⟩
  rcases S.par y (aL hp)with k|k
  .exact .inl ⟨k,as5 a0 hp hu k⟩
  .obtain⟨c,e⟩:=qu (n:=s.heap.objs.size+1) k
   refine .inr ⟨.inl k,c,e,?_⟩
   have q:=x.cell y c e
   rw[ap1 a0 hp hu (by show scope.names.lookup y≠_;rw[k];decide)]at q
   exact q
 .exact Y.hok.fresh (dE (x.above y c (aF h)))
 .unfold al5
  show _=N.length
  rw[aU,aD,List.length_replicate]
  lia
theorem cd3 {K:af}{body:yL}{ kV :Value}{an od:yI}
  {a2:yE} (lk:K.lookup f=some ⟨oc,od,.func (da name qual params body scope dV kV a0 pm an G ct),a2⟩) (a3:fD K G qual=true) (S:FnScope N ps scope)
  (len:∀ vs H Q E,sp vs H Q E->vs.length=ps.length)
  (Z:∀(A:aV) (h:List Env) (s:ah) (H:Hp) (vs:List V) (Q:VK) (E:XK),Room k (A.deeper (fC qual scope s.heap.objs.size f G))->sp vs H Q E ->
   ∃ t,PSs (bv2 CX P w K mg base N qual scope f G A h s H E) body t/\t { nx:=λ _ H'=>Q .N H',rt:=Q } (al5 N vs) H) :
  FnOk P w K mg base CX (k+1) f (da name qual params body scope dV kV a0 pm an G ct) ps sp:=by
 refine⟨len,λ A h s H args us vs Q E hr e0 hb r a1=>?_⟩
 have hl:=len _ _ _ _ a1
 have KX:K.In s.heap:=e0.mod.kin.keeps λ b o e=>(e0.bs b o e).1
 have a4:s.heap.NoLimit:=e0.mod.nolimit.keeps λ b o e=>(e0.bs b o e).1
 have Y:∀ y∈ps.zip us,scope.names.lookup y.1=some .local\/(scope.names.lookup y.1=some .cell/\((aP (s.heap.objs.size+1) scope.names []).lookup y.1).isSome=true):=λ⟨n,v⟩ hy=>by
  rcases S.par n (dS hy).1 with q|q
  .exact .inl q
  .exact .inr ⟨q,gF _ _ _ (.inl q)⟩
 refine g8 hr.depth (KX _ _ lk) rfl S.co S.gen rfl (PySem.W.codeRec_of KX a3) (hb _ _ _ _ ?_)
 refine wpAny_newFunctionEnv_cells S.kind Y λ env he s1 x=>?_
 subst he
 refine⟨a4.keeps x.toInCall.keep,codeAny_func ?_⟩
 obtain⟨t,ht,hq⟩:=Z A h s H vs Q E (hr.deeper _) a1
 have I:Inv (bv2 CX P w K mg base N qual scope f G A h s H E) [] (al5 N vs) H s1:=bh6 S hr.hd e0 hl r x
 refine cj (ht [] s1 (al5 N vs) H _ I hq) (λ fl s' hs=>?_) λ e s' hs=>hs
 have fin:∀ {W':St} {H':Hp} {v:V} {u:Value},Inv (bv2 CX P w K mg base N qual scope f G A h s H E) [] W' H' s'->RelV v u->Q v H'->CE h P w H s Q u s' :=
  λ {W' H' v u} J rv q=>⟨v,H',J.os,J.bare,J.base,J.hok,rv,q⟩
 cases fl with
 | ret u =>
  obtain⟨v,W',H',J,rv,q⟩:=hs
  exact fin J rv q
 | next =>
  obtain⟨W',H',J,q⟩:=hs
  exact fin (v:=V.N) (u:=Value.none) J rfl q
 | brk =>
  obtain⟨_,_,_,q⟩:=hs
  exact bI q
 | cont =>
  obtain⟨_,_,_,q⟩:=hs
  exact bI q
section
variable {X:Cx} {x:Str} {p pos:Pos} {e:Expr} {es:yK} {t:TA} {id T:String} {r:List V->Hp->VK->Prop}
def tCB (r:List V->Hp->VK->Prop)(t:TA):TE:=λ W H Q=>t W H λ vs H1=>r vs H1 Q
theorem az6 (hc:af9 X (.builtin id) r)(Y:Gl X x)(hm:X.mg x=none)(hv:bz x=some (.builtin id))(ha:PA X (e::es) t)(hn:x ≠ "__name__":=by decide)(G:(x==("__debug__":Str))=false:=by decide)
  (he:bu (e::es) X.env=(false,eval e X.env)::bu es X.env:=by rfl) (J:(d7 pos (bu es X.env)).any (·.1)=false:=by rfl):PE X (.Call (.Name x p) (e::es) [] pos) (tCB r t):=by
 intro y s W H Q I h
 refine cC (aw7 I Y hm hv ?_ hn G)
 exact PyProof.Rows.callWith_builtin1 (thn (ha pos y s W H _ I h) λ us s1 ⟨vs,Z,I1,r1,q1⟩=>hc y s1 W Z vs us Q I1 r1 q1) he J
theorem as3 (hc:af9 X (.type T) r)(Y:Gl X x)(hm:X.mg x=none)(hv:bz x=some (.type T))(ha:PA X (e::es) t)(hn:x ≠ "__name__":=by decide)(G:(x==("__debug__":Str))=false:=by decide)
  (he:bu (e::es) X.env=(false,eval e X.env)::bu es X.env:=by rfl) (J:(d7 pos (bu es X.env)).any (·.1)=false:=by rfl):PE X (.Call (.Name x p) (e::es) [] pos) (tCB r t):=by
 intro y s W H Q I h
 refine cC (aw7 I Y hm hv ?_ hn G)
 exact dv (thn (ha pos y s W H _ I h) λ us s1 ⟨vs,Z,I1,r1,q1⟩=>hc y s1 W Z vs us Q I1 r1 q1) he J
end
end L2
end
noncomputable section
namespace HT
open PySem PyProof.Rows
section
open PySem.SeqAt
open PySem.AutoSeq1 (wpAny_loadPart')
open PySem.MeetsSeq PySem.MeetsSeq2 PySem.MeetsSeq3
end
section
variable {prog:aK} {w:World} {A:aV} {E:Value->ah->Prop} {s:ah}
theorem cat_tup {vs ws:yG}(ht:IsTup s.heap t vs.toArray)(hb:IsTup s.heap b ws.toArray)(hv:vs≠[])
  (h1:ws=[]->Q (.ref t) s) (h2:ws≠[]->Q (.ref s.heap.objs.size) { s with heap:=s.heap.push { cls:=.type "tuple",data:=.seq (vs++ws).toArray } })
  (hsz:vs.length+ws.length<=aQ):wpAny (model prog w) A (cz .Add (.ref t) (.ref b)) Q E s:=by
 obtain⟨⟨cls,dd,data,sl⟩,ho,hc,n,hd⟩:=id ht
 obtain⟨⟨a0,G,Z,J⟩,h,y,n2,Y⟩:=id hb
 simp only at hc hd y Y
 subst hc hd y Y
 have e:vs.toArray++ws.toArray=(vs++ws).toArray:=by simp
 by_cases hw:ws=[]
 .exact j4 ⟨_,ho,rfl⟩ ⟨_,h,rfl⟩ gu iQ ef dZ (dM _ _)
   (tuple_addW1 t b vs.toArray ws.toArray n n2 dd G sl J (by simpa using hv) (by simp[hw])) ⟨ho,h,h1 hw⟩
 .refine j4 ⟨_,ho,rfl⟩ ⟨_,h,rfl⟩ gu iQ ef dZ (dM _ _)
   (tuple_addW2 t b vs.toArray ws.toArray n n2 dd G sl J (by simpa using hv) (by simpa using hw) (by rw[ay,ay];exact hsz)) ⟨ho,h,?_⟩
  rw[e]
  exact h2 hw
noncomputable def sIx (n d:Nat):Option Int->Nat
 | none=>d
 | some v=>if v<0 then(v+(n)).toNat else min v.toNat n
theorem sIx_le n d (hd:d<=n) o :sIx n d o<=n:=by
 cases o with
 | none=>exact hd
 | some v =>
  show(if v<0 then(v+(n)).toNat else min v.toNat n)<=n
  by_cases hv:v<0
  .rw[if_pos hv];lia
  .rw[if_neg hv];exact ki _ _
theorem clip_eq v (n d:Nat):(if v<0 then max (v+(n:Int)) 0 else min v (n))=((sIx n d (some v))):=by
 show(if v<0 then max (v+(n)) 0 else min v (n))=(((if v<0 then(v+(n)).toNat else min v.toNat n)))
 by_cases hv:v<0
 .simp only[if_pos hv];lia
 .simp only[if_neg hv];lia
theorem adjust_gen y h (n:Nat):dI y h 1 (n)=(((sIx n 0 y):Int),((sIx n n h):Int)):=by
 have G:=by omega
 unfold dI
 simp only[if_false]
 refine Prod.ext ?_ ?_
 .cases y with
  | none=>rfl
  | some v=>exact clip_eq v n 0
 .cases h with
  | none=>rfl
  | some v=>exact clip_eq v n n
theorem places_gen (i j:Nat):cS (i) (j) 1=j - i:=by
 unfold cS
 have h:=by omega
 simp only[Int.ediv_one]
 split<;>lia
theorem slicePart_ (p:f9 v o)(h:Q o s):wpAny (model prog w) A (kD v) Q E s:=by
 cases p with
 | none=>exact slicePart_none h
 | int i t=>exact slicePart_int h
theorem sliceApplied_gen {Q:Int×Int×Nat->ah->Prop}(hs:s.heap.IsSliceOf sl vl vu .none)(Z:f9 vl y)(pu:f9 vu Y)
  (h:Q (((sIx n 0 y:Nat):Int),1,sIx n n Y - sIx n 0 y) s):wpAny (model prog w) A (fF (.ref sl) (pure (n))) Q E s:=by
 obtain⟨os,G,a0,J⟩:=id hs
 unfold fF k8
 refine ae (ae (b7 G J rfl (ae (b7 G J rfl (ae (b7 G J rfl (aC ?_)))))))
 refine ae (slicePart_none ?_)
 rw[if_neg (by decide)]
 refine ae (slicePart_ Z (ae (slicePart_ pu (ae (aC ?_)))))
 show wpAny _ _ (match dI y Y 1 (n)with|(y,Y)=>pure (y,(1:Int),cS y Y 1)) _ _ s
 rw[adjust_gen y Y n]
 show wpAny _ _ (pure (((sIx n 0 y):Int),(1),cS ((sIx n 0 y)) ((sIx n n Y)) 1)) _ _ s
 rw[places_gen]
 exact aC h
theorem pick_gen (h:yJ)(i k:Nat):((ai k).filterMap λ(m:Nat)=>h[((i)+(m:Int)*1).toNat]?).toArray=((h.toList.drop i).take k).toArray:=by
 have e:(λ(m:Nat)=>h[((i)+(m:Int)*1).toNat]?)=λ m=>h[i+m]?:=by
  funext m
  have:((i)+(m:Int)*1).toNat=i+m:=by lia
  rw[this]
 rw[e]
 have:=pick_run h i k
 rw[dW]at this
 have e2:((λ x=>h[x]?) ∘ λ x=>i+x)=λ m=>h[i+m]?:=rfl
 rw[e2]at this
 rw[this]
theorem getItem_tuple_cut {y:yJ}(ht:IsTup s.heap t y)(hs:s.heap.IsSliceOf sl vl vu .none)(pl:f9 vl J)(pu:f9 vu Y)
  (hw:¬(sIx y.size 0 J=0/\sIx y.size y.size Y=y.size))
  (h:Q (.ref s.heap.objs.size) { s with heap:=s.heap.push { cls:=.type "tuple",data:=.seq ((y.toList.drop (sIx y.size 0 J)).take (sIx y.size y.size Y - sIx y.size 0 J)).toArray } })
  (hsz:y.size<=aQ):wpAny (model prog w) A (gH (.ref t) (.ref sl)) Q E s:=by
 have G:sizeOk (.seq ((y.toList.drop (sIx y.size 0 J)).take (sIx y.size y.size Y - sIx y.size 0 J)).toArray):=by
  show((y.toList.drop (sIx y.size 0 J)).take (sIx y.size y.size Y - sIx y.size 0 J)).toArray.size<=aQ
  rw[ay,bW,eM,fm]
  omega
 have hj:sIx y.size y.size Y<=y.size:=sIx_le _ _ (ak _) Y
 obtain⟨os,a0,a1,a3⟩:=id hs
 have Z:s.TypeIs (.ref sl) "slice":=⟨os,a0,a1⟩
 unfold gH
 try with_reducible refine dq ?_
 first|refine ae (aC ?_)|skip
 refine ae (j7 ht.typeIs (by decide) ?_)
 refine ae (cq (name:=bD "__getitem__") ht.typeIs bB
  (cA bB ht.typeIs iG ?_ (i4 _ _)))
 show wpAny _ _ (dB (.ref t) >>= _) _ _ s
 refine ae (iR ht ?_)
 refine ae (gI Z ?_)
 rw[if_pos (by decide)]
 refine ae (sliceApplied_gen hs pl pu ?_)
 have a2:¬((((sIx y.size 0 J:Nat):Int)==0&&(1:Int)==1&&(sIx y.size y.size Y - sIx y.size 0 J)==y.size)=true):=by
  intro q
  rw[au,au]at q
  have q1:((sIx y.size 0 J:Nat):Int)=0:=eq_of_beq q.1.1
  have q2:sIx y.size y.size Y - sIx y.size 0 J=y.size:=eq_of_beq q.2
  exact hw ⟨by lia,by omega⟩
 show wpAny _ _ (if(((sIx y.size 0 J:Nat):Int)==0&&(1:Int)==1&&(sIx y.size y.size Y - sIx y.size 0 J)==y.size)=true then _ else _) _ _ s
 rw[if_neg a2,pick_gen]
 first
  | exact ae (m:=c5 _) (bL (aC ⟨_,rfl,aC h⟩) G)
  | exact ae (m:=c5 _) (bL (ae (aC (aC ⟨_,rfl,aC h⟩))) G)
  | exact ae (ae (m:=c5 _) (bL (aC (aC ⟨_,rfl,aC h⟩)) G))
  | exact ae (ae (m:=c5 _) (bL (aC ⟨_,rfl,aC h⟩) G))
end
end HT
noncomputable section
namespace L2
open PySem PySem.Spec PyProof.Rows
abbrev TO:=St->Hp->(Option Int->Hp->Prop)->Prop
def PO (X:Cx)(e:Option Expr)(t:TO):Prop :=
 ∀ pins s (W:St) H Q ,Inv X pins W H s->t W H Q ->
  wpAny (model X.prog X.w) X.A (evalPart e X.env) (λ u s'=>∃ o H',Inv X pins W H' s'/\f9 u o/\Q o H') X.xe s
noncomputable def aM7:TO:=λ _ H Q=>Q none H
noncomputable def bk8 (t:TE):TO:=λ W H Q=>t W H λ x H1=>∃ i,x=.int i/\Q (some i) H1
section
variable {X:Cx} {e:Expr} {te:TE} {lo hi:Option Expr} {tl th:TO} {pos p2:Pos}
theorem bQ2:PO X none aM7:=by
 intro y s W H Q I h
 rw[evalPart_none]
 exact aC ⟨none,H,I,.none,h⟩
theorem bK2 (h:PE X e te):PO X (some e) (bk8 te):=by
 intro y s W H Q I hw
 rw[evalPart_some]
 refine thn (h y s W H _ I hw) λ u s1 ⟨x,J,G,r1,q1⟩=>?_
 obtain⟨i,rfl,q⟩:=q1
 obtain⟨t,rfl⟩:=r1
 exact⟨some i,J,G,.int i t,q⟩
def SlR (X:Cx)(r:V->Option Int->Option Int->Hp->VK->Prop):Prop :=
 ∀ pins s (W:St) H x v vl vu lo hi sl Q ,Inv X pins W H s->RelV x v->s.heap.IsSliceOf sl vl vu .none->f9 vl lo->f9 vu hi->r x lo hi H Q ->
  ∃ T id,typeLookup (.type T) "__getitem__"=pure (some (.builtin id))/\s.TypeIs v T/\wpAny (model X.prog X.w) X.A (gH v (.ref sl)) (EP X pins W Q) X.xe s
def tSl (r:V->Option Int->Option Int->Hp->VK->Prop)(te:TE)(tl th:TO):TE:=λ W H Q=>te W H λ x H1=>tl W H1 λ l H2=>th W H2 λ u H3=>r x l u H3 Q
theorem bs0 (J:SlR X r)(he:PE X e te)(hl:PO X lo tl)(hu:PO X hi th):PE X (.Subscript e (.Slice lo hi none p2) pos) (tSl r te tl th):=by
 intro y s W H Q I h
 refine Subscript_ (thn (he y s W H _ I h) λ v s1 ⟨x,H1,Y,r1,q1⟩=>?_)
 refine wpAny_Slice (thn (hl y s1 W H1 _ Y q1) λ vl s2 ⟨l,H2,I2,pl,q2⟩=>thn (hu y s2 W H2 _ I2 q2) λ vu s3 ⟨u,G,I3,pu,q3⟩=>?_)
 rw[evalPart_none]
 refine aC ?_
 have Z:Inv X y W G { s3 with heap:=s3.heap.push { cls:=.type "slice",data:=.fields #[vl,vu,.none] } }:=I3.kept λ b ob q=>ag _ q
 obtain⟨T,id,hT,ht,hg⟩:=J y { s3 with heap:=s3.heap.push { cls:=.type "slice",data:=.fields #[vl,vu,.none] } } W G x v vl vu l u s3.heap.objs.size Q Z r1 (lJ ..) pl pu q3
 exact tail_any ht hT hg (by with_unfolding_all rfl)
noncomputable def aZ9 (xs:List V)(lo hi:Option Int):List V:=(xs.drop (HT.sIx xs.length 0 lo)).take (HT.sIx xs.length xs.length hi - HT.sIx xs.length 0 lo)
theorem ar1 h G y :(aZ9 h G y).length<=h.length:=by
 unfold aZ9
 rw[bW,eM]
 lia
def cz9 (K:af):V->Option Int->Option Int->Hp->VK->Prop:=λ x lo hi H Q=>∃ a xs,x=.ref a/\SqT K H a xs /\
 ¬(HT.sIx xs.length 0 lo=0/\HT.sIx xs.length xs.length hi=xs.length)/\∀ p,H p=none->Q (.ref p) (upd H p (.tp (aZ9 xs lo hi)))
theorem bV2:SlR X (cz9 X.K):=by
 intro Y s W H x v vl vu G J sl Q I rx hs Z pu h
 obtain⟨a,y,rfl,hx,hw,q⟩:=h
 cases rx
 obtain⟨its,r,ht,hz⟩:=I.tuple hx
 have hlen:its.toArray.size=y.length:=by rw[ay];exact r.length.symm
 refine⟨"tuple",_,bB.lookup,ht.typeIs,?_⟩
 refine HT.getItem_tuple_cut ht hs Z pu (by rw[hlen];exact hw) ?_ (by rw[hlen];exact hz)
 rw[hlen]
 refine⟨.ref s.heap.objs.size,_,I.laid (λ b ob q=>ag _ q) (ak _) ?_,rfl,q _ (I.hok.fresh (ak _))⟩
 exact⟨ao (ar1 y G J) hz,_,(r.drop (HT.sIx y.length 0 G)).take (HT.sIx y.length y.length J - HT.sIx y.length 0 G),kj _ _⟩
def ct4 (K:af):R2:=λ x y H Q=>∃ a b xs ys,x=.ref a/\y=.ref b/\SqT K H a xs/\SqT K H b ys/\xs≠[]/\xs.length+ys.length<=aQ /\
 (ys=[]->Q (.ref a) H)/\(ys≠[]->∀ p,H p=none->Q (.ref p) (upd H p (.tp (xs++ys))))
theorem Vals.nil_iff {us:yG}(r:Vals h us):us=[]↔h=[]:=by
 cases r with
 | nil=>simp
 | cons _ _=>simp
theorem bS9:OpR X (cz .Add) (ct4 X.K):=by
 intro J s W H x y v u Q I rx Z h
 obtain⟨a,b,xs,ys,rfl,rfl,ha,hb,hx,hz,q1,q2⟩:=h
 cases rx
 cases Z
 obtain⟨its,r1,p1,_⟩:=I.tuple ha
 obtain⟨Y,G,p2,_⟩:=I.tuple hb
 refine HT.cat_tup p1 p2 (λ z=>hx (r1.nil_iff.mp z)) (λ z=>⟨.ref a,H,I,rfl,q1 (G.nil_iff.mp z)⟩) (λ z=>?_) (by rw[<-r1.length,<-G.length];exact hz)
 refine⟨.ref s.heap.objs.size,_,I.laid (λ b ob q=>ag _ q) (ak _) ?_,rfl,q2 (λ w=>z (G.nil_iff.mpr w)) _ (I.hok.fresh (ak _))⟩
 exact⟨by rw[aU];exact hz,_,r1.append G,kj _ _⟩
end
noncomputable def ixN (n:Nat)(i:Int):Option Nat:=if 0<=i then(if i<n then some i.toNat else none)else if -(n)<=i then some (i+n).toNat else none
def atI {α:Type}(xs:List α)(i:Int):Option α:=(ixN xs.length i).bind λ j=>xs[j]?
theorem bp2 (h:ixN n i=some j):seqIndex? i n=some j/\j<n/\-(n)<=i/\i<n:=by
 unfold ixN at h
 by_cases h0:0<=i
 .rw[if_pos h0]at h
  by_cases h1:i<n
  .rw[if_pos h1]at h
   have e:=aw h
   exact⟨by rw[kA h0 h1,e],by lia,by lia,h1⟩
  .rw[if_neg h1]at h;cases h
 .rw[if_neg h0]at h
  by_cases h1:-(n)<=i
  .rw[if_pos h1]at h
   have e:=aw h
   exact⟨by rw[j8 (by lia) h1,e],by lia,h1,by lia⟩
  .rw[if_neg h1]at h;cases h
theorem aM8 (h:atI y i=some v):∃ j,seqIndex? i y.length=some j/\y[j]?=some v/\j<y.length/\-(y.length)<=i/\i<y.length:=by
 unfold atI at h
 cases e:ixN y.length i with
 | none=>rw[e]at h;cases h
 | some j =>
  rw[e]at h
  obtain⟨G,Y,h3,J⟩:=bp2 e
  exact⟨j,G,h,Y,h3,J⟩
def bj6 (b:Expr):Prop:=∀ o i,subscripted b false o i=operate [o,i] (gH o i)
def IxR (X:Cx)(r:R2):Prop :=
 ∀ value slice pins s (W:St) H x y v u Q ,Inv X pins W H s->RelV x v->RelV y u->r x y H Q ->
  subscripted slice false v u=operate [v,u] (gH v u)->wpAny (model X.prog X.w) X.A (subscriptTail value slice v u) (EP X pins W Q) X.xe s
def MtR (X:Cx)(id:String)(r:V->List V->Hp->VK->Prop):Prop :=
 ∀ pins s (W:St) H x xs v (us:yG) Q ,Inv X pins W H s->RelV x v->Vals xs us->r x xs H Q ->
  wpAny (model X.prog X.w) X.A (call (.builtin id) (v::us)) (EP X pins W Q) X.xe s
section
variable {X:Cx} {a b:Expr} {ta tb:TE} {pos:Pos}
theorem cq6 (Z:IxR X r)(ha:PE X a ta)(hb:PE X b tb)(hs:bj6 b):PE X (.Subscript a b pos) (tOp r ta tb):=by
 intro G s W H Q I h
 exact Subscript_ (co4 ha hb I h λ v u s2 x y H2 I2 Y J q=>Z a b G s2 W H2 x y v u Q I2 Y J q (hs _ _))
def cv8 (K:af):R2:=λ x y H Q=>∃ p xs i v,x=.ref p/\y=.int i/\SqL K H p xs/\atI xs i=some v/\Q v H
def cw5 (K:af):R2:=λ x y H Q=>∃ p xs i v,x=.ref p/\y=.int i/\SqT K H p xs/\atI xs i=some v/\Q v H
def cz8:R2:=λ x y H Q=>∃ z i c,x=.str z/\y=.int i/\z.length<=aQ/\atI z.cps.toList i=some c/\Q (.str ⟨#[c]⟩) H
theorem bQ5:IxR X (cv8 X.K):=by
 intro a0 Z G s W H x y v u Q I rx ry h hs
 obtain⟨p,xs,i,z,rfl,rfl,hq,he,q⟩:=h
 cases rx
 obtain⟨t,rfl⟩:=ry
 obtain⟨its,r,pl,hz⟩:=I.list hq
 obtain⟨j,J,h2,h3,h4,h5⟩:=aM8 he
 obtain⟨w,ew,Y⟩:=r.get h2
 have hl:=r.length
 have hn:=ar4
 have fin:EP X G W Q w s:=⟨z,H,I,Y,q⟩
 by_cases h0:0<=i
 .have hj:=by
   rw[kA h0 h5]at J
   exact aw J
  exact item_listR pl.isList h0 (by lia) (by rw[hj];simpa using ew) fin hs
 .have hj:(i+(its.toArray.size)).toNat=j:=by
   rw[j8 (by lia) h4]at J
   rw[ay,<-hl]
   exact aw J
  exact gJ pl.isList.typeIs j9.lookup
   (wpAny_getItem_list_neg pl.isList (by omega) (by rw[ay]<;>lia) (by lia) (by rw[hj];simpa using ew) ⟨rfl,fin⟩) hs
theorem ix_tup:IxR X (cw5 X.K):=by
 intro Z Y G s W H x y v u Q I rx ry h hs
 obtain⟨p,xs,i,z,rfl,rfl,hq,he,q⟩:=h
 cases rx
 obtain⟨t,rfl⟩:=ry
 obtain⟨its,r,pl,hz⟩:=I.tuple hq
 obtain⟨j,h1,h2,h3,h4,h5⟩:=aM8 he
 obtain⟨w,ew,J⟩:=r.get h2
 have hl:=r.length
 have hn:=ar4
 have fin:EP X G W Q w s:=⟨z,H,I,J,q⟩
 exact gJ pl.typeIs bB.lookup
  (getItem_tuple pl (by lia) (by lia) (by rw[ay,<-hl];exact h1) (by simpa using ew) ⟨rfl,fin⟩) hs
theorem ix_str:IxR X cz8:=by
 intro J G Y s W H x y v u Q I rx ry h hs
 obtain⟨z,i,c,rfl,rfl,hz,he,q⟩:=h
 obtain⟨t,rfl⟩:=rx
 obtain⟨t',rfl⟩:=ry
 obtain⟨j,Z,h2,h3,h4,h5⟩:=aM8 he
 have hl:z.cps.toList.length=z.length:=by simp[Str.length]
 rw[hl]at Z h4 h5
 have hn:=ar4
 exact tail_any (kR s z t) slot_str_getitem.lookup (getItem_str (by
  have e1:decide (i < -(2^63))=false:=decide_eq_false (by lia)
  have e2:decide (i ≥ 2^63)=false:=decide_eq_false (by lia)
  rw[e1,e2,Bool.or_false]) (by rw[Z];simpa using h2) ⟨.str ⟨#[c]⟩,H,I.tok _,⟨_,rfl⟩,q⟩) hs
theorem aW9 (its:yG) n j  u :gK (·.setIfInBounds j u) { cls:=.type "list",data:=.seq its.toArray n }={ cls:=.type "list",data:=.seq (its.set j u).toArray n }:=by
 simp[gK]
theorem Inv.lst {W:St}(I:Inv X y W H s)(h:H p=some (.J G)) :
  ∃(its:yG) (n:Nat),Vals G its/\s.heap.get? p=some { cls:=.type "list",data:=.seq its.toArray n }/\G.length<=aQ:=by
 obtain⟨z,its,n,r,e⟩:=I.hok p _ h
 exact⟨its,n,r,e,z⟩
theorem Inv.lstUpd {W:St}{its its':yG}(I:Inv X y W H s)(h:H p=some (.J Y))
  (ho:s.heap.get? p=some { cls:=.type "list",data:=.seq its.toArray n }) (J:f { cls:=.type "list",data:=.seq its.toArray n }={ cls:=.type "list",data:=.seq its'.toArray G }) (r:Vals ys its') (hz:ys.length<=aQ)  t  :
  Inv X y W (upd H p (.J ys)) { s with heap:=s.heap.update p f,toks:=t }:=by
 have e:(s.heap.update p f).get? p=some { cls:=.type "list",data:=.seq its'.toArray G }:=by
  rw[dr f ho (by rw[J]<;>rfl),J]
 refine I.write (by rw[h];trivial) (.inl rfl) (λ b u hb q=>(bX _ _ (cb hb)).trans q) ⟨_,e⟩ ?_
 exact⟨hz,its',G,r,e⟩
def cp9:V->V->V->Hp->(Hp->Prop)->Prop:=λ o i v H Q=>∃ p xs k j,o=.ref p/\i=.int k/\H p=some (.J xs)/\ixN xs.length k=some j/\Q (upd H p (.J (xs.set j v)))
theorem bu9:cq2 X cp9:=by
 intro y s W H o i v ov iv u Q I ro ri rv h
 obtain⟨p,xs,k,j,rfl,rfl,J,hj,q⟩:=h
 cases ro
 obtain⟨t,rfl⟩:=ri
 obtain⟨its,n,r,ho,hz⟩:=I.lst J
 obtain⟨G,h2,h3,Y⟩:=bp2 hj
 have hl:=r.length
 have hn:=ar4
 have Z :=
  I.lstUpd J ho (aW9 its n j u) (r.set rv j) (by rw[bN];exact hz) s.toks
 by_cases h0:0<=k
 .have hk:=by
   rw[kA h0 Y]at G
   exact aw G
  exact PySem.W.ki_setAt ho h0 (by lia) (by rw[ay,<-hl];exact Y) (by rw[hk];exact⟨_,Z,q⟩)
 .have hk:(k+(its.toArray.size)).toNat=j:=by
   rw[j8 (by lia) h3]at G
   rw[ay,<-hl]
   exact aw G
  exact PySem.W.ki_setBack ho (by omega) (by rw[ay,<-hl];exact h3) (by lia) (by rw[hk];exact⟨_,Z,q⟩)
theorem aI5 G y n :(d4 G y none n).1=((HT.sIx n 0 G))/\(d4 G y none n).2.1=((HT.sIx n n y))/\(d4 G y none n).2.2=1:=by
 refine⟨?_,?_,rfl⟩
 .cases G with
  | none=>simp[d4,HT.sIx]
  | some i =>
   simp only[d4,HT.sIx,km,if_true]
   by_cases h:i<0
   .simp only[h,if_true]<;>lia
   .simp only[h,if_false]<;>lia
 .cases y with
  | none=>simp[d4,HT.sIx]
  | some i =>
   simp only[d4,HT.sIx,km,if_true]
   by_cases h:i<0
   .simp only[h,if_true]<;>omega
   .simp only[h,if_false]<;>omega
theorem ay3 (its:yG) h y :slicePick its.toArray h y none=((its.drop (HT.sIx its.length 0 h)).take (HT.sIx its.length its.length y - HT.sIx its.length 0 h)).toArray:=by
 obtain⟨G,J,h3⟩:=aI5 h y its.toArray.size
 unfold slicePick
 rw[G,J,h3]
 simp only[sliceRange_one,pick_run]<;>rfl
def cw0 (K:af):V->Option Int->Option Int->Hp->VK->Prop:=λ x lo hi H Q=>∃ a xs,x=.ref a/\SqL K H a xs/\∀ p,H p=none->Q (.ref p) (upd H p (.J (aZ9 xs lo hi)))
theorem bH0:SlR X (cw0 X.K):=by
 intro Y s W H x v vl vu G J sl Q I rx hs Z pu h
 obtain⟨a,y,rfl,hx,q⟩:=h
 cases rx
 obtain⟨its,r,ht,hz⟩:=I.list hx
 have hlen:=r.length
 refine⟨"list",_,j9.lookup,ht.isList.typeIs,?_⟩
 refine wpAny_getItem_list_slice ht.isList hs Z pu .none (by simp) ?_ (by rw[ay]<;>lia)
 rw[ay3,<-hlen]
 refine⟨.ref s.heap.objs.size,_,I.laid (λ b ob q=>ag _ q) (ak _) ?_,rfl,q _ (I.hok.fresh (ak _))⟩
 exact⟨ao (ar1 y G J) hz,_,0,(r.drop (HT.sIx y.length 0 G)).take (HT.sIx y.length y.length J - HT.sIx y.length 0 G),aH _ rfl⟩
theorem aD7:af9 X (.builtin "len") (λ J H Q=>∃ p ys,J=[.ref p]/\(SqL X.K H p ys\/SqT X.K H p ys)/\Q (.int ys.length) H):=by
 intro Y s W H J us Q I r h
 obtain⟨p,ys,rfl,hq,q⟩:=h
 obtain⟨u,rfl,Z⟩:=aj8 r
 cases Z
 have hn:=ar4
 rcases hq with hq|hq
 .obtain⟨its,G,y,hz⟩:=I.list hq
  have hlen:=G.length
  exact Calls.call_len_list y.isList (by simp only[ay]<;>lia) ⟨.int ys.length,H,I.tok _,⟨s.toks+1,by rw[ay,hlen]⟩,q⟩
 .obtain⟨its,G,y,hz⟩:=I.tuple hq
  have hlen:=G.length
  exact len_tuple y (by simp only[ay]<;>omega) ⟨.int ys.length,H,I.tok _,⟨s.toks+1,by rw[ay,hlen]⟩,q⟩
theorem aJ0:af9 X (.builtin "len") (λ y H Q=>∃ z,y=[.str z]/\z.length<=aQ/\Q (.int z.length) H):=by
 intro G s W H y us Q I r h
 obtain⟨z,rfl,hz,q⟩:=h
 obtain⟨u,rfl,t,rfl⟩:=aj8 r
 have hn:=ar4
 exact len_str (by lia) ⟨.int z.length,H,I.tok _,⟨_,rfl⟩,q⟩
theorem af9.or (h:af9 X f r)(h':af9 X f Y):af9 X f (λ G H Q=>r G H Q\/Y G H Q):=by
 intro y s W H G us Q I J q
 rcases q with q|q
 .exact h y s W H G us Q I J q
 .exact h' y s W H G us Q I J q
theorem aE7:af9 X (.type "list") (λ Z H Q=>∃ p ys,Z=[.ref p]/\(SqL X.K H p ys\/SqT X.K H p ys)/\∀ l,H l=none->Q (.ref l) (upd H l (.J ys))):=by
 intro J s W H Z us Q I r h
 obtain⟨p,ys,rfl,hq,q⟩:=h
 obtain⟨u,rfl,rx⟩:=aj8 r
 cases rx
 have fin:∀ its ,Vals ys its->ys.length<=aQ->∀ h' y ,(∀ b o',s.heap.get? b=some o'->h'.get? b=some o') ->
   h'.get? s.heap.objs.size=some { cls:=.type "list",dict:=none,data:=.seq its.toArray y,slots:=#[] }->EP X J W Q (.ref s.heap.objs.size) { s with heap:=h' }:=λ its G hz h' y kp e =>
  ⟨.ref s.heap.objs.size,_,I.laid kp (ak _) (show ag0 X.prog X.w _ h' _ (.J ys)from⟨hz,its,y,G,e⟩),rfl,q _ (I.hok.fresh (ak _))⟩
 rcases hq with hq|hq
 .obtain⟨its,G,Y,hz⟩:=I.list hq
  have hlen:=G.length
  obtain⟨o,ho,hc,n,hd⟩:=Y.isList
  exact call_list_seq p (.inl rfl) ho hc hd (λ h' y kp e=>fin its G hz h' y kp e) (by simp only[ay]<;>omega)
 .obtain⟨its,G,Y,hz⟩:=I.tuple hq
  have hlen:=G.length
  obtain⟨o,ho,hc,n,hd⟩:=Y
  exact call_list_seq p (.inr rfl) ho hc hd (λ h' y kp e=>fin its G hz h' y kp e) (by simp only[ay]<;>omega)
theorem aB2:af9 X (.type "tuple") (λ Z H Q=>∃ p ys,Z=[.ref p]/\((SqL X.K H p ys/\∀ l,H l=none->Q (.ref l) (upd H l (.tp ys)))\/(SqT X.K H p ys/\Q (.ref p) H))):=by
 intro y s W H Z us Q I r h
 obtain⟨p,ys,rfl,h⟩:=h
 obtain⟨u,rfl,rx⟩:=aj8 r
 cases rx
 rcases h with⟨hq,q⟩|⟨hq,q⟩
 .obtain⟨its,J,G,hz⟩:=I.list hq
  have hlen:=J.length
  refine call_tuple_list G.isList (λ h' kp=>?_) (by simp only[ay]<;>omega)
  have Y:=I.kept (t':=s.toks) kp
  have I2 :=
   Y.laid (t':=s.toks) (λ b o e=>ag _ e) (ak _) (show ag0 X.prog X.w _ _ _ (.tp ys)from⟨hz,its,J,kj _ _⟩)
  exact⟨.ref h'.objs.size,_,I2,rfl,q _ (Y.hok.fresh (ak _))⟩
 .obtain⟨its,J,G,hz⟩:=I.tuple hq
  exact call_tuple_same G ⟨.ref p,H,I,rfl,q⟩
def tyV (K:af)(T:String)(x:V)(H:Hp):Prop:=match x with
 | .str _=>T = "str"
 | .int _=>T = "int"
 | .ref p=>(T = "list"/\∃ xs,SqL K H p xs)\/(T = "tuple"/\∃ o,K.lookup p=some o/\o.cls=.type "tuple"/\o.dict=none) \/
   (T = "dict"/\((∃ kvs,H p=some (.dK kvs))))
 | _=>False
theorem bE2 {W:St}(I:Inv X h W H s)(r:RelV x v)(y:tyV X.K T x H) :
  s.TypeIs v T/\∀ a,v=.ref a->∃ ob,s.heap.get? a=some ob/\ob.dict=none:=by
 cases x with
 | str z =>
  obtain⟨t,rfl⟩:=r
  cases(y)
  exact⟨kR s z t,λ _ e=>nomatch e⟩
 | int i =>
  obtain⟨t,rfl⟩:=r
  cases(y)
  exact⟨gM s i t,λ _ e=>nomatch e⟩
 | ref p =>
  cases r
  rcases y with⟨rfl,J,hq⟩|⟨rfl,o,hk,hc,hd⟩|⟨rfl,kvs,hk⟩
  .obtain⟨its,_,G,_⟩:=I.list hq
   refine⟨G.isList.typeIs,λ a e=>?_⟩
   cases e
   obtain⟨o,n,e,c,hd,_⟩:=G
   exact⟨o,e,hd⟩
  .refine⟨⟨o,I.kIn p o hk,hc⟩,λ a e=>?_⟩
   cases e
   exact⟨o,I.kIn _ o hk,hd⟩
  .obtain⟨_,_,_,_,o,_,_,e,ex,_⟩:=I.hok p _ hk
   refine⟨⟨o,e,ex.1⟩,λ a e2=>?_⟩
   cases e2
   exact⟨o,e,ex.2.1⟩
 | _=>exact bI y
def cu9 (K:af)(T:String)(r:V->List V->Hp->VK->Prop)(to:TE):TE:=λ W H Q=>to W H λ x H1=>tyV K T x H1/\r x [] H1 Q
def tBM (K:af)(T:String)(r:V->List V->Hp->VK->Prop)(to:TE)(t:TA):TE:=λ W H Q=>to W H λ x H1=>tyV K T x H1/\t W H1 λ xs H2=>r x xs H2 Q
variable {o e:Expr} {es:yK} {to:TE} {t:TA} {name:Str} {apos cpos:Pos} {T id:String} {r:V->List V->Hp->VK->Prop}
theorem cb2 (pa:kS T)(slot:Slot T name id)(Y:typeOf (.builtin id)=pure (.type "method_descriptor"))(hm:MtR X id r)(ho:PE X o to)
  (G:ga o name X.env (eval o X.env)=eval o X.env:=by rfl) (J:(apos.endLine==cpos.line)=true:=by rfl):PE X (.Call (.Attribute o name apos) [] [] cpos) (cu9 X.K T r to):=by
 intro y s W H Q I h
 refine wpAny_Call_method0_late G J (thn (ho y s W H _ I h) λ v s1 ⟨x,H1,Z,r1,ty,q1⟩=>?_)
 obtain⟨h1,h2⟩:=bE2 Z r1 ty
 exact⟨T,id,pa,slot,Y,h1,h2,gN rfl (PySem.evalArgs_none (hm y s1 W H1 x [] v [] Q Z r1 .nil q1))⟩
theorem cr2 (pa:kS T)(slot:Slot T name id)(a0:typeOf (.builtin id)=pure (.type "method_descriptor"))(hm:MtR X id r)(ho:PE X o to)(ha:PA X (e::es) t)
  (J:ga o name X.env (eval o X.env)=eval o X.env:=by rfl)
  (Z:((d7 cpos (bu (e::es) X.env)).all (λ x=>!x.1)&&(backToKw cpos (keywordEach [] X.env)).all (λ x=>x.1.isSome)
   && decide ((e::es).length+([]:List kK).length+(if([]:List kK).isEmpty then 0 else 1)<30))=true:=by rfl)
  (Y:(apos.endLine==cpos.line)=true:=by rfl) (hs:bu (e::es) X.env=(false,eval e X.env)::bu es X.env:=by rfl) (G:(d7 cpos (bu es X.env)).any (·.1)=false:=by rfl) :
  PE X (.Call (.Attribute o name apos) (e::es) [] cpos) (tBM X.K T r to t):=by
 intro y s W H Q I h
 refine wpAny_Call_method_late J Z Y rfl (thn (ho y s W H _ I h) λ v s1 ⟨x,H1,I1,r1,ty,q1⟩=>?_)
 obtain⟨h1,h2⟩:=bE2 I1 r1 ty
 refine⟨T,id,pa,slot,a0,h1,h2,?_⟩
 have hA:=ha cpos y s1 W H1 _ I1 q1
 rw[hs]at hA ⊢
 refine gN (by show(false||(d7 cpos (bu es X.env)).any (·.1))=false;rw[G]<;>rfl) (Calls.evalArgs_plain ?_)
 exact thn hA λ us s2 ⟨vs,H2,I2,r2,q2⟩=>hm y s2 W H2 x vs v us Q I2 r1 r2 q2
end
def MtM (X:Cx)(id:String)(r:V->List V->Hp->VK->Prop):Prop :=
 ∀ pins s (W:St) H x xs v (us:yG) Q ,Inv X pins W H s->RelV x v->Vals xs us->r x xs H Q ->
  wpAny (model X.prog X.w) X.A (call (.builtin id) (v::us)) (EP X pins W Q) X.xe s
theorem Vals.one:∀ {x} {us:yG},Vals [x] us->∃ u,us=[u]/\RelV x u
 | _,_,.cons r .nil=>⟨_,rfl,r⟩
theorem Vals.zero:∀ {us:yG},Vals [] us->us=[]
 | _,.nil=>rfl
theorem Vals.rep {us:yG}(h:Vals y us):∀ k:Nat,Vals (aq k y).flatten (aq k us).flatten
 | 0=>.nil
 | k+1=>by
  rw[bO,bO,cW,cW]
  exact Vals.append h (Vals.rep h k)
theorem aJ1 (its:yG):∀ k (h:yG),
  kT (λ x1 y=>x1++y) h.toArray (aq k its.toArray)=(h++(aq k its).flatten).toArray
 | 0,h=>by simp
 | k+1,h=>by
  have e:h.toArray++its.toArray=(h++its).toArray:=by simp
  have e2:(h++its)++(aq k its).flatten=h++(aq (k+1) its).flatten:=by
   rw[bO,cW,cG]
  rw[<-e2,<-aJ1 its k (h++its),<-e,bO,cx]
section
variable {X:Cx} {pins:yA} {W:St} {H:Hp} {s:ah} {l b:Addr} {xs ys zs:List V}
theorem Inv.lset {its its':yG}(I:Inv X pins W H s)(y:H l=some (.J xs))
  (e:s.heap.get? l=some { cls:=.type "list",data:=.seq its.toArray n }) (h:f its.toArray=its'.toArray) (hv:Vals ys its') (hz:ys.length<=aQ) :
  Inv X pins W (upd H l (.J ys)) { s with heap:=s.heap.update l (gK f),toks:=t' }:=by
 have q:=PySem.IsL.update e f
 rw[h]at q
 refine I.write (by rw[y];exact trivial) (.inl rfl) (λ G u hb hu=>(bX s.heap (gK f) (cb hb)).trans hu) ⟨_,q⟩ ?_
 exact⟨hz,its',_,hv,q⟩
theorem Inv.lnew {its:yG}(I:Inv X pins W H s)(hv:Vals ys its)(hz:ys.length<=aQ) :
  Inv X pins W (upd H s.heap.objs.size (.J ys)) { s with heap:=s.heap.push { cls:=.type "list",data:=.seq its.toArray },toks:=t' } :=
 I.laid (λ _ _ q=>ag _ q) (ak _) ⟨hz,its,0,hv,aH _ rfl⟩
theorem Inv.fresh (I:Inv X pins W H s):H s.heap.objs.size=none:=I.hok.fresh (ak _)
theorem Inv.lstM (I:Inv X pins W H s)(h:H l=some (.J xs)):xs.length<=aQ/\∃(its:yG) (n:Nat),Vals xs its/\xs.length=its.length/\s.heap.get? l=some { cls:=.type "list",data:=.seq its.toArray n }:=by
 obtain⟨z,its,n,r,e⟩:=I.hok l _ h
 exact⟨z,its,n,r,r.length,e⟩
theorem bw6 (h:n<=aQ):dN n=false:=by
 unfold dN
 exact decide_eq_false (by lia)
end
section
variable {X:Cx}
def bL1:V->List V->Hp->VK->Prop:=λ x vs H Q=>∃ l xs y,x=.ref l/\vs=[y]/\H l=some (.J xs)/\xs.length<aQ/\Q .N (upd H l (.J (xs++[y])))
theorem aD3:MtM X "list.append" bL1:=by
 intro J s W H x vs v us Q I Z Y h
 obtain⟨l,xs,y,rfl,rfl,G,hz,q⟩:=h
 cases Z
 obtain⟨u,rfl,ru⟩:=Y.one
 obtain⟨z,its,n,r,hl,e⟩:=I.lstM G
 refine i6 g9 ⟨_,e,rfl⟩ F.entry_list_append (F.args_list_append_2 _ _) (PySem.list_append l its.toArray n u (by rw[ay];lia)) ⟨e,?_⟩
 refine⟨.N,_,I.lset G e (by simp) (r.append (.cons ru .nil)) ?_,rfl,q⟩
 rw[aU,dt]
 lia
def cy8:R2:=λ x y H Q=>∃ l b xs zs,x=.ref l/\y=.ref b/\H l=some (.J xs)/\H b=some (.J zs)/\xs.length+zs.length<=aQ/\∀ p,H p=none->Q (.ref p) (upd H p (.J (xs++zs)))
theorem ch0:OpR X (cz .Add) cy8:=by
 intro J s W H x y v u Q I rx Z h
 obtain⟨l,b,xs,zs,rfl,rfl,Y,hB,hz,q⟩:=h
 cases rx
 cases Z
 obtain⟨z,its,n,r,hl,e⟩:=I.lstM Y
 obtain⟨z2,G,n2,r2,hl2,e2⟩:=I.lstM hB
 refine PySem.P.add_list e e2 ?_ (by rw[ay,ay];lia)
 have ea:its.toArray++G.toArray=(its++G).toArray:=by simp
 rw[ea]
 exact⟨.ref _,_,I.lnew (r.append r2) (by rw[aU];omega),rfl,q _ I.fresh⟩
def cz5:R2:=λ x y H Q=>∃ l k xs,x=.ref l/\y=.int k/\H l=some (.J xs)/\-(2^63)<=k/\k<2^63/\xs.length*k.toNat<=aQ /\
 ∀ p,H p=none->Q (.ref p) (upd H p (.J (aq k.toNat xs).flatten))
theorem bK8 {α:Type}(h:List α) k :(aq k h).flatten.length=k*h.length:=by
 induction k with
 | zero=>simp
 | succ k ih=>rw[bO,cW,aU,ih,lv,gO]
theorem cc6:OpR X (cz .Mult) cz5:=by
 intro a0 s W H x y v u Q I rx ry h
 obtain⟨l,k,xs,rfl,rfl,hH,h1,h2,hz,q⟩:=h
 cases rx
 obtain⟨t,rfl⟩:=ry
 obtain⟨z,its,n,r,hl,e⟩:=I.lstM hH
 have hlen:its.toArray.size*k.toNat<=aQ:=by rw[ay,<-hl];exact hz
 have J:¬ its.toArray.size*k.toNat > (2^63 - 1) / 8:=by
  have:(aQ)<=(2^63 - 1) / 8:=by decide
  lia
 have Z:¬(!Builtin.List.listFitsIndex k)=true:=by
  rw[fitsIndex_both h1 h2]
  exact aS
 have G:¬ dN (its.toArray.size*k.toNat)=true:=by
  rw[bw6 hlen]
  exact aS
 have Y:kT (λ x1 x2=>x1++x2) #[] (aq (if its.toArray.isEmpty=true then 0 else k.toNat) its.toArray)=(aq k.toNat its).flatten.toArray:=by
  have f0:=λ m=>by
   have:=aJ1 its m []
   rw[dT]at this
   exact this
  rw[f0]
  cases its with
  | nil=>simp
  | cons a r'=>rw[if_neg (by simp)]
 refine fL (by decide) ⟨_,e,rfl⟩ (λ s'=>gM s' k t) noFill_list_mul i7 dX repeat_list iH.lookup
  (i6 dX (gM s k t) iI (ii _ _) (int___rmul___int_list k t l its.toArray n)
   ⟨e,rfl,⟨_,e,rfl⟩,i6 F.slot_list_mul ⟨_,e,rfl⟩ F.entry_list_mul (F.args_list_mul_2 _ _) (AutoListH.list___mul___list_int_3 l its.toArray n k t Z J G) ⟨e,?_⟩⟩)
 rw[Y]
 exact⟨.ref _,_,I.lnew (r.rep k.toNat) (by rw[bK8,lw];exact hz),rfl,q _ I.fresh⟩
end
section
variable {prog:aK} {w:World} {A:aV} {E:Value->ah->Prop} {s:ah}
end
section
variable {X:Cx}
end
end L2
end
noncomputable section
namespace Att
open PySem PySem.W PySem.Calls PyProof.Rows
theorem ints_of_wellAll :∀ ns (vs:yG),WellAll P h vs (ns.map WData.int)->kL vs ns:=by
 intro ns
 induction ns with
 | nil =>
  intro vs w
  rw[dF]at w
  cases w
  exact .nil
 | cons n ns ih =>
  intro vs w
  rw[aM]at w
  cases w with
  | cons a b =>
   cases a
   exact .cons _ _ (ih _ b)
theorem script_of {l:OpenLaw}(hn:l.most=some n){y:yG}
  (G:l.row.toRowW.claim.pre args=true) (Z:WellAll P h y args) :
  ∃ a vs ns,y=[Value.ref a]/\args=[WData.list (ns.map WData.int)]/\h.get? a=some { cls:=.type "list",data:=.seq vs.toArray }/\kL vs ns/\ns.length<=n:=by
 have a0:=(pre_splitW G).1
 have hc:l.pre.holds [] { args:=args }=true:=(pre_splitW G).2
 obtain⟨d,r,rfl,h1,h2⟩:=hasAllW_cons a0
 obtain rfl:=hasAllW_nil h2
 obtain⟨xs,rfl,h3⟩:=hasW_list h1
 obtain⟨ns,rfl⟩:=items_int h3
 have hlen:ns.length<=n:=by
  unfold OpenLaw.pre at hc
  have Y:=by
   have Y:=(holds_andW hc).1
   rw[hn]at Y
   exact Y
  have J:=condW_of Y (w_not (w_lt w_lit (w_len_list (w_arg rfl))))
  rw[aD]at J
  refine ko λ q=>?_
  have q':=by omega
  first
   | (rw[decide_eq_true q']at J;exact absurd J (by decide))
   | (simp at J;omega)
 cases Z with
 | cons w1 w2 =>
  cases w2
  cases w1 with
  | list ho hall=>exact⟨_,_,ns,rfl,rfl,ho,ints_of_wellAll ns _ hall,hlen⟩
theorem post_true (l:OpenLaw) args :l.row.toRowW.claim.post args (.bool true) args=true :=
 postW_of 
  (show WShape.has [] (.bool true) .bool=true by first|rfl|decide|simp[WShape.armsAll])
  (w_eq_bool (w_res rfl) w_lit) rfl
theorem attach_call {l:OpenLaw}{loose:yH}
  (hn:l.most=some n) (a3:d.params.defaults=[])
  (call:∀(w:World) (s₀ h:ah) (mg mb:yC) (fa:Addr) (o:Obj) (pm cd y:Value) (a:Addr) (vs:yG) (ns:List Int),
   Ground q loose [] XP w s₀ mg mb h.heap->YP w h.heap ->
   h.heap.get? fa=some o->o.data=.func (docDef d.name d.params d.body d.scope pm cd y)->h.heap.CodeRec cd d.name->mg d.name=some (.ref fa) ->
   h.heap.get? a=some { cls:=.type "list",data:=.seq vs.toArray }->kL vs ns->ns.length<=n->h.gens=#[] ->
   fR (model l.prog w) iu (.call (.ref fa) ⟨[.ref a],[]⟩) (λ r s'=>r=.ok (.ret (.bool true))/\OldK h.heap s'.heap/\s'.os=h.os/\fO s'.gens) h) :
  WalkO q loose XP YP l.row.toRowW d [] (λ f vs=>kM f vs):=by
 intro w s₀ h mg mb G Y fa o pm cd y dV kV ho hd a2 hD a1 hg args a5 as a0 a6 a8 a4 a7
 obtain rfl:dV=.none:=Dflts.none hD a3
 obtain rfl:kV=.none:=Dflts.noKw hD
 obtain⟨a,vs,ns,rfl,rfl,Z,J,hlen⟩:=script_of hn a0 a4
 refine enter_call (fq (call w s₀ h mg mb fa o pm cd y a vs ns G Y ho (fd_plain hd) a2 a1 Z J hlen hg) λ r s' hq=>?_)
 obtain⟨rfl,h2,h3,h4⟩:=hq
 exact⟨.inl ⟨.bool true,.bool true,[],rfl,λ _=>rfl,.bool true,post_true l _,λ _=>⟨List.Pairwise.nil,λ _ hm=>(nomatch hm)⟩⟩,h2,h3,h4⟩
section
variable {prog:aK} {w:World} {A:aV} {E:Value->ah->Prop} {s:ah} {K:Frag}
end
end Att
noncomputable section
namespace L2
open PySem PySem.Spec PyProof.Rows
theorem aI8:∀ {vs:yG} {ns},kL vs ns->Vals (ns.map V.int) vs
 | _,_,.nil=>.nil
 | _,_,.cons n t h=>.cons ⟨t,rfl⟩ (aI8 h)
noncomputable def defArgs (s:Stmt):bp:=match s with
 | .FunctionDef _ a _ _ _ _ _ _ _ _=>a
 | _=>{ posonlyargs:=[],args:=[],vararg:=none,kwonlyargs:=[],kw_defaults:=[],kwarg:=none,defaults:=[] }
noncomputable def qc (s:Stmt):List Stmt:=match s with
 | .FunctionDef _ _ b _ _ _ _ _ _ _=>b
 | _=>[]
noncomputable def defScope (s:Stmt):Scope:=match s with
 | .FunctionDef _ _ _ _ _ _ sc _ _ _=>sc
 | _=>{ kind:=.function,names:=[],isGenerator:=false,isCoroutine:=false }
noncomputable abbrev CX0:CXT:=λ _ _ _ _ _ _=>False
abbrev E0:XK:=λ _ _ _=>False
theorem bY5 :aO5 CX0 X E0:=λ _ _ _ _ _ _ _ h=>h.elim
structure Fun (K:af)(x qual:Str)(st:Stmt)(f:Addr)(fd:bJ):Prop where
 ex:∃(oc:Value) (od:yI) (kV doc pm:Value) (an:yI) (cdv ct:Value) (osl:yE),
  fd=da x qual (defArgs st) (qc st) (defScope st) .none kV doc pm an cdv ct/\K.lookup f=some ⟨oc,od,.func fd,osl⟩/\fD K cdv qual=true
 kp:cE K (.ref f)=true
section
variable {P:aK} {w:World} {K:af} {mg:yC} {base:Heap}
theorem Fun.ok {st}(F:Fun K x qual st f fd)(S:FnScope N ps (defScope st))(len:∀ vs H Q E,sp vs H Q E->vs.length=ps.length)
  (J:∀(G:Value) (A:aV) (y:List Env) (s:ah) (H:Hp) (vs:List V) (Q:VK) (E:XK),Room k (A.deeper (fC qual (defScope st) s.heap.objs.size f G))->sp vs H Q E ->
   ∃ t,PSs (bv2 CX0 P w K mg base N qual (defScope st) f G A y s H E).nox (qc st) t/\t { nx:=λ _ H'=>Q .N H',rt:=Q } (al5 N vs) H):FnOk P w K mg base CX0 (k+1) f fd ps sp:=by
 obtain⟨oc,od,kV,a1,pm,an,G,ct,a0,rfl,lk,Y⟩:=F.ex
 refine cd3 lk Y S len λ A y s H vs Q E hr Z=>?_
 obtain⟨t,h,q⟩:=J G A y s H vs Q E hr Z
 exact⟨t,h.nox,q⟩
theorem Fun.binds {st}(F:Fun K x qual st f Z)
  (h:∀(kV y J:Value) (Y:yI) (G ct:Value) (us:yG),us.length=ps.length->ee (da x qual (defArgs st) (qc st) (defScope st) .none kV y J Y G ct) ⟨us,[]⟩=pure (ps.zip us)):Binds K Z ps []:=by
 obtain⟨oc,od,kV,y,J,Y,G,ct,a1,rfl,lk,a0⟩:=F.ex
 exact .all (h kV y J Y G ct)
theorem bD4 {st}{od Y:yI}{G:yE}{kV }(l:K.lookup f=some ⟨oc,od,.func (da x qual (defArgs st) (qc st) (defScope st) .none kV y J Y h ct),G⟩)
  (c:fD K h qual=true) (k:cE K (.ref f)=true):Fun K x qual st f (da x qual (defArgs st) (qc st) (defScope st) .none kV y J Y h ct):=⟨⟨oc,od,kV,y,J,Y,h,ct,G,rfl,l,c⟩,k⟩
end
section
variable {X:Cx}
theorem pv  i {pos}(hN:X.N[i]?=some x:=by rfl)(hv:Vis X.env.scope x:=by first|exact Or.inl rfl|exact Or.inr (Or.inl rfl)|exact Or.inr (Or.inr rfl))(hd:(x==("__debug__":Str))=false:=by decide)
  (h:(x==("__classdict__":Str))=false:=by decide):PE X (.Name x pos) (bF3 i):=bj9 hN hv hd h
end
theorem cx8 { B:Prop}(h:B):if false=true then A else B:=by
 rw[if_neg aS]
 exact h
theorem iteT { B:Prop}(h:A):if true=true then A else B:=by
 rw[if_pos rfl]
 exact h
def ai0 (H H':Hp):Prop:=∀ b o,H b=some o->H' b=some o
theorem ai0.refl H :ai0 H H:=λ _ _ h=>h
theorem bl9 {G:yK}(I:Nat->ah->Prop)
  (turn:∀ n s,I n s->wpAny (model prog w) A (ib it) (λ r s₁=>match r with
   | none=>R (.ok .next) s₁
   | some v=>wpAny (model prog w) A (e8 y it v) (λ _ Z=>wpAny (model prog w) A (gE y env v) (λ _ s₂ =>
     wpAny (model prog w) A (forIn G true λ c r=>if r=true then do let ok <- dU c env (eval c env);pure (ForInStep.yield ok)else pure (ForInStep.yield r)) (λ ok s₃ =>
      if ok=true then wpAny (model prog w) A (eval J env) (λ x s₄ =>
       wpAny (model prog w) A (call (.builtin "list.append") [Y,x]) (λ _ s₅=>∃ m,m<n/\I m s₅) (ka (model prog w) A env λ e s'=>R (.error e) s') s₄) (ka (model prog w) A env λ e s'=>R (.error e) s') s₃
      else ∃ m,m<n/\I m s₃) (ka (model prog w) A env λ e s'=>R (.error e) s') s₂) (ka (model prog w) A env λ e s'=>R (.error e) s') Z) (ka (model prog w) A env λ e s'=>R (.error e) s') s₁) (ka (model prog w) A env λ e s'=>R (.error e) s') s)
   n (h:I n s) :
  fR (model prog w) A (.compLoop (.ListComp J [⟨y,iter,G,0⟩] scope pos) 0 it Y env) R s:=by
 refine codeAny_loop rfl I (λ n s hI=>?_) n h
 refine wpAny_noted ?_
 rw[compTurn_list]
 refine ae (iO (ae (cj (turn n s hI) (λ r s₁ h₁=>?_) λ _ _ h'=>h')))
 cases r with
 | none=>exact aC h₁
 | some v =>
  refine ae (cj h₁ (λ _ Z a0=>?_) λ _ _ h'=>h')
  refine ae (cj a0 (λ _ s₂ h₂=>ae (cj h₂ (λ ok s₃ h₃=>?_) λ _ _ h'=>h')) λ _ _ h'=>h')
  cases ok with
  | false=>exact aC ⟨rfl,h₃⟩
  | true =>
   exact ae (ae (cj h₃ (λ x s₄ h₄=>ae (cj h₄ (λ _ s₅ h₅=>aC (aC ⟨rfl,h₅⟩)) λ _ _ h'=>h')) λ _ _ h'=>h'))
noncomputable def ag5 (cells:yB):List (Str×bQ)->List (Str×Addr)->List (Str×Addr)
 | [],acc=>acc
 | (n,k)::r,acc=>ag5 cells r (if k==.free then(match cells.lookup n with|some c=>(n,c)::acc|none=>acc)else acc)
theorem ak8 :∀ names G ,(∀ y∈names,y.2=.free->∃ c,env.cells.lookup y.1=some c) ->
  (forIn names G λ(x) (cs:yB)=>(if x.2==.free then do let c <- cellOf env x.1;pure (ForInStep.yield ((x.1,c)::cs))else pure (ForInStep.yield cs):Sem (ForInStep (List (Str×Addr)))))=pure (ag5 env.cells names G)
 | [],G,_=>by rw[et];rfl
 | (n,k)::r,G,h=>by
  have J:=λ a=>ak8 r a λ y hy=>h y (aE _ hy)
  rw[e9]
  unfold ag5
  cases e:(k==NameKind.free)with
  | false =>
   simp only[if_false]
   exact J G
  | true =>
   have hk:=by simpa using e
   obtain⟨c,hc⟩:=h (n,k) aG hk
   have e1:cellOf env n=pure c:=by unfold cellOf;rw[hc]
   simp only[e1,hc]
   exact J _
theorem qK (h:∀ y∈scope.names,y.2=.free->∃ c,env.cells.lookup y.1=some c):closureFor scope env=pure (ag5 env.cells scope.names []):=by
 have:=ak8 scope.names [] h
 show(forIn scope.names [] (λ(x) (cs)=>(if x.2==.free then do let c <- cellOf env x.1;pure (ForInStep.yield ((x.1,c)::cs))else pure (ForInStep.yield cs):Sem (ForInStep (List (Str×Addr))))) >>= λ cs=>pure cs)=_
 rw[this]
 rfl
theorem clOf_mem :∀ {names} {G:yB},(n,c)∈ag5 cells names G->cells.lookup n=some c\/(n,c)∈G
 | [],_,h=>.inr h
 | (m,k)::r,G,h=>by
  unfold ag5 at h
  rcases clOf_mem h with z|z
  .exact .inl z
  .cases e:(k==NameKind.free)with
   | false=>simp only[e,if_false]at z;exact .inr z
   | true =>
    simp only[e]at z
    cases q:cells.lookup m with
    | none=>rw[q]at z;exact .inr z
    | some d =>
     rw[q]at z
     rcases aB.mp z with y|y
     .cases y;exact .inl q
     .exact .inr y
theorem aO8 (hc:cells.lookup n=some c):∀ {names} {y:yB},((n,NameKind.free)∈names\/(n,c)∈y)->(n,c)∈ag5 cells names y
 | [],_,h=>by rcases h with h|h;(exact absurd h (by simp));exact h
 | (m,k)::r,y,h=>by
  unfold ag5
  refine aO8 hc ?_
  rcases h with h|h
  .rcases aB.mp h with e|h
   .cases e
    right
    simp[hc]
   .exact .inl h
  .right
   cases e:(k==NameKind.free)with
   | false=>simpa using h
   | true =>
    simp only[]
    cases q:cells.lookup m with
    | none=>exact h
    | some d=>exact aE _ h
theorem ak1 {α:Type}{c}:∀ {l:List (Str×α)},(n,c)∈l->(∀ d,(n,d)∈l->d=c)->l.lookup n=some c
 | (m,d)::r,h,u=>by
  rw[bj]
  cases e:n==m with
  | true =>
   have e':=beq_iff_eq.mp e
   subst e'
   rw[u d aG]
  | false =>
   rcases aB.mp h with z|z
   .cases z;simp at e
   .exact ak1 z λ d' h'=>u d' (aE _ h')
theorem qQ (hc:cells.lookup n=some c)(h:(n,NameKind.free)∈names):(ag5 cells names []).lookup n=some c:=by
 refine ak1 (aO8 hc (.inl h)) λ d hd=>?_
 rcases clOf_mem hd with z|z
 .rw[hc]at z;exact(aw z).symm
 .exact absurd z (by simp)
theorem zx:∀ names n (h:yB),aP n names h=aP n names []++h
 | [],_,h=>by simp[aP]
 | (x,k)::r,n,h=>by
  unfold aP
  split
  .rw[zx r (n+1) ((x,n)::h),zx r (n+1) [(x,n)]]
   simp
  .exact zx r n h
theorem zS:∀ {names} {n} {G:yB} {x} {c},(x,c)∈aP n names G->(x,NameKind.cell)∈names\/(x,c)∈G
 | [],_,_,_,_,h=>.inr h
 | (y,k)::r,n,G,x,c,h=>by
  unfold aP at h
  split at h
  .rename_i hk
   rcases zS h with z|z
   .exact .inl (aE _ z)
   .rcases aB.mp z with e|z
    .cases e
     have:=by simpa using hk
     subst this
     exact .inl aG
    .exact .inr z
  .rcases zS h with z|z
   .exact .inl (aE _ z)
   .exact .inr z
theorem zZ {α:Type} x :∀(l r:List (Str×α)),(l++r).lookup x=(l.lookup x).or (r.lookup x)
 | [],r=>by simp
 | (y,v)::l,r=>by
  rw[c6,bj,bj]
  cases x==y with
  | true=>rfl
  | false=>exact zZ x l r
noncomputable def qB (N':yH)(src:yD)(scope:Scope)(XN:yH)(xs:Scope):Bool :=
 (scope.kind==.function) &&
 (scope.names.all λ y=>!(y.2==.free)||(xs.names.lookup y.1==some .cell||xs.names.lookup y.1==some .free)) &&
 (scope.names.all λ y=>!(y.2==.local)||scope.names.lookup y.1==some .local) &&
 (scope.names.all λ y=>!(y.2==.cell)||(scope.names.all λ z=>!(z.1==y.1)||z.2==.cell)) &&
 (src.length==N'.length) &&
 ((N'.zip src).all λ y=>match y.2 with|none=>true|some j=>XN[j]?==some y.1&&scope.names.lookup y.1==some .free)
structure CompCk (N':yH)(src:yD)(scope:Scope)(XN:yH)(xs:Scope):Prop where
 kind:scope.kind=.function
 fr:∀ y∈scope.names,y.2=.free->xs.names.lookup y.1=some .cell\/xs.names.lookup y.1=some .free
 loc:∀ y∈scope.names,y.2=.local->scope.names.lookup y.1=some .local
 cel:∀ y∈scope.names,y.2=.cell->∀ z∈scope.names,z.1=y.1->z.2=.cell
 len:src.length=N'.length
 sr:∀(i j:Nat) (x:Str),src[i]?=some (some j)->N'[i]?=some x->XN[j]?=some x/\scope.names.lookup x=some .free
theorem bD0 (h:qB G src scope Y J=true):CompCk G src scope Y J:=by
 unfold qB at h
 simp only[au]at h
 obtain⟨⟨⟨⟨⟨h1,h2⟩,h3⟩,h4⟩,h5⟩,Z⟩:=h
 refine⟨by simpa using h1,λ y hy e=>?_,λ y hy e=>?_,λ y hy e z hz ez=>?_,by simpa using h5,λ i j x e1 e2=>?_⟩
 .have:=aX.mp h2 y hy
  simpa [e]using this
 .have:=aX.mp h3 y hy
  simpa [e]using this
 .have:=aX.mp h4 y hy
  simp only[e,lj]at this
  have:=aX.mp this z hz
  simpa [ez]using this
 .have hm:(x,some j)∈G.zip src:=by
   refine aL (i:=i) ?_
   rw[List.getElem?_zip_eq_some]
   exact⟨e2,e1⟩
  have:=aX.mp Z _ hm
  simpa using this
noncomputable abbrev z9 (X:Cx)(N':yH)(scope:Scope)(Cc:Addr)(cells:yB)(s:ah)(H:Hp)(ex:List Addr):Cx where
 prog:=X.prog
 w:=X.w
 K:=X.K
 mg:=X.mg
 base:=X.base
 A:=X.A
 N:=N'
 s₀:=s
 H₀:=H
 env:={ scope:=eP scope X.env,locals:=Cc,globals:=X.env.globals,cells:=cells,qual:=X.env.qual,func:=none,code:=X.env.code,frame:=X.env.frame,builtins:=X.env.builtins }
 outer:=X.stack
 stack:=X.stack
 ex:=ex
 fn:=λ x=>scope.names.lookup x==some .cell
 calm:=X.calm
 pn:=[]
 xe:=λ _ _=>False
def PIf (X:Cx)(ifs:yK)(t:TT):Prop :=
 ∀ pins s (W:St) H Q ,Inv X pins W H s->t W H Q ->
  wpAny (model X.prog X.w) X.A (forIn ifs true λ c r=>if r=true then do let ok <- dU c X.env (eval c X.env);pure (ForInStep.yield ok)else pure (ForInStep.yield r)) (TP X pins W Q) X.xe s
def cy4:TT:=λ _ H Q=>Q true H
theorem bM2 :PIf X [] cy4:=λ _ _ _ H _ I h=>wpAny_tests_nil ⟨H,I,h⟩
theorem bP9 (h:PT X c t):PIf X [c] t:=λ y s W H Q I hw=>wpAny_tests_one (h y s W H Q I hw)
noncomputable def aF2 (src:yD)(W:St):St:=src.map λ o=>match o with|none=>none|some j=>(W[j]?).join
def tComp (src:yD)(wi:TI)(g:TG)(tc:TT)(te:TE):TE:=λ W H Q=>wi W H λ J H1=>∀ D,H1 D=none ->
 ∃ Ww:Nat->Nat->St->Hp->Prop,(∃ m,Ww 0 m (aF2 src W) (upd H1 D (.J [])))/\∀ i m W' H',Ww i m W' H' ->
  (J.stop i H'/\Q (.ref D) H')\/(J.go i H'/\∃ N:St->Hp->Prop,(∀ W2 H2,N W2 H2->∃ m',m'<m/\Ww (i+1) m' W2 H2) /\
   ∀ x H2,J.yld i H' x H2->g x W' H2 λ W3 H3=>tc W3 H3 λ b H4=>if b=true then te W3 H4 λ v H5=>∃ ys,H5 D=some (.J ys)/\ys.length<aQ/\N W3 (upd H5 D (.J (ys++[v])))else N W3 H4)
theorem jf {env:Env}:∀ {names:List (Str×bQ)} {x:Str} {k:bQ},names.lookup x=some k ->
  (names.map λ(n,k)=>if(k==NameKind.free&&env.scope.kind==.function&&env.kindOf n==some .cell)then(n,NameKind.cell)else(n,k)).lookup x =
   some (if(k==NameKind.free&&env.scope.kind==.function&&env.kindOf x==some .cell)then NameKind.cell else k)
 | [],_,_,h=>by simp at h
 | (n,k)::r,x,k',h=>by
  have y:=@jf env r x k'
  show lF x ((if(k==NameKind.free&&env.scope.kind==.function&&env.kindOf n==some .cell)=true then(n,NameKind.cell)else(n,k))::_)=_
  cases hx:x==n with
  | true =>
   have e:=beq_iff_eq.mp hx
   subst e
   simp only[bj,hx]at h
   cases h
   by_cases hc:(k==NameKind.free&&env.scope.kind==.function&&env.kindOf x==some .cell)=true
   .rw[if_pos hc,if_pos hc];simp only[bj,hx]
   .rw[if_neg hc,if_neg hc];simp only[bj,hx]
  | false =>
   simp only[bj,hx]at h
   by_cases hc:(k==NameKind.free&&env.scope.kind==.function&&env.kindOf n==some .cell)=true
   .rw[if_pos hc];simp only[bj,hx];exact y h
   .rw[if_neg hc];simp only[bj,hx];exact y h
theorem qW {env:Env}:∀ {names:List (Str×bQ)} {x},names.lookup x=none ->
  (names.map λ(n,k)=>if(k==NameKind.free&&env.scope.kind==.function&&env.kindOf n==some .cell)then(n,NameKind.cell)else(n,k)).lookup x=none
 | [],_,_=>rfl
 | (n,k)::r,x,h=>by
  have y:=@qW env r x
  show lF x ((if(k==NameKind.free&&env.scope.kind==.function&&env.kindOf n==some .cell)=true then(n,NameKind.cell)else(n,k))::_)=_
  cases hx:x==n with
  | true=>simp only[bj,hx]at h;cases h
  | false =>
   simp only[bj,hx]at h
   by_cases hc:(k==NameKind.free&&env.scope.kind==.function&&env.kindOf n==some .cell)=true
   .rw[if_pos hc];simp only[bj,hx];exact y h
   .rw[if_neg hc];simp only[bj,hx];exact y h
theorem av7 {W:St}{fp:List Addr}
  (Y:CompCk N' src scope X.N X.env.scope) (I:Inv X a6 W H s) (hf:∀ b∈fp,FpOk X a6 H b) (a9:∀ b∈fp,b<s.heap.objs.size)
  (e4:∃ tk,s4={ s with heap:=eN (s.heap.push { cls:=.type "dict",data:=.dict #[] }) scope.names,toks:=tk }) :
  Inv (z9 X N' scope s.heap.objs.size (aP (s.heap.objs.size+1) scope.names (ag5 X.env.cells scope.names [])) s H fp) [] (aF2 src W) H s4:=by
 obtain⟨tk,rfl⟩:=e4
 have hk:∀ b o,s.heap.get? b=some o->(eN (s.heap.push { cls:=.type "dict",data:=.dict #[] }) scope.names).get? b=some o:=λ b o e=>dj _ _ b o (ag _ e)
 have ok:=cellsFrom_ok scope.names (s.heap.push { cls:=.type "dict",data:=.dict #[] }) (s.heap.objs.size+1) [] ⟨λ _ _ hm=>(nomatch hm),List.Pairwise.nil⟩ (by rw[bK];exact ak _)
 rw[bK]at ok
 have a3:=zx scope.names (s.heap.objs.size+1) (ag5 X.env.cells scope.names [])
 have lk:∀ x c,(aP (s.heap.objs.size+1) scope.names (ag5 X.env.cells scope.names [])).lookup x=some c ->
   ((x,c)∈aP (s.heap.objs.size+1) scope.names []/\(x,NameKind.cell)∈scope.names)\/(X.env.cells.lookup x=some c/\(aP (s.heap.objs.size+1) scope.names []).lookup x=none):=λ x c e=>by
  rw[a3,zZ]at e
  cases q:(aP (s.heap.objs.size+1) scope.names []).lookup x with
  | some d =>
   rw[q]at e
   have e':d=c:=aw e
   subst e'
   have hm:=aF q
   refine .inl ⟨hm,?_⟩
   rcases zS hm with z|z
   .exact z
   .exact absurd z (by simp)
  | none =>
   rw[q]at e
   have e':(ag5 X.env.cells scope.names []).lookup x=some c:=e
   rcases clOf_mem (aF e')with z|z
   .exact .inr ⟨z,rfl⟩
   .exact absurd z (by simp)
 have up:∀ x c,(x,c)∈aP (s.heap.objs.size+1) scope.names []->s.heap.objs.size+1<=c:=λ x c h=>(ok.empty x c h).2
 have a8:∀ x c,X.env.cells.lookup x=some c->c<s.heap.objs.size:=λ x c h=>by
  obtain⟨v,q⟩:=I.cell x c h
  exact q.lt
 have a4:∀ b,b<s.heap.objs.size->b≠s.heap.objs.size:=λ b h=>aA h
 have b2:∀ b∈fp,H b=none/\b≠X.env.locals/\b ∉ X.fs:=λ b hb=>⟨(hf b hb).1,(hf b hb).2.1,(hf b hb).2.2.1⟩
 have b4:(eN (s.heap.push { cls:=.type "dict",data:=.dict #[] }) scope.names).Ns s.heap.objs.size (λ _=>none):=(lG s.heap (.type "dict")).keeps (dj _ _)
 have a0:∀ x k,scope.names.lookup x=some k->(eP scope X.env).names.lookup x=some (if(k==NameKind.free&&X.env.scope.kind==.function&&X.env.kindOf x==some .cell)then NameKind.cell else k):=λ x k e=>jf (env:=X.env) e
 have a5:∀ x,scope.names.lookup x=none->(eP scope X.env).names.lookup x=none:=λ x e=>qW (env:=X.env) e
 have b1:∀ x c,(x,NameKind.free)∈scope.names->X.env.cells.lookup x=some c->(aP (s.heap.objs.size+1) scope.names (ag5 X.env.cells scope.names [])).lookup x=some c:=λ x c hx hc=>by
  rw[a3,zZ]
  cases q:(aP (s.heap.objs.size+1) scope.names []).lookup x with
  | some d =>
   rcases zS (aF q)with z|z
   .have:=Y.cel _ z rfl _ hx rfl
    cases this
   .exact absurd z (by simp)
  | none=>exact qQ hc hx
 have a7:∀ x,(x,NameKind.free)∈scope.names->∃ c,X.env.cells.lookup x=some c:=λ x hx=>I.ok.has x (Y.fr _ hx rfl)
 refine⟨⟨I.ok.mod,Y.kind,I.ok.glob,I.ok.blt,ak _,λ x y c e1 e2=>?_,λ x hx=>?_,λ x c hx e=>?_,I.ok.hd,I.ok.frames,.inl rfl,λ b hb=>⟨a4 b (a9 b hb),λ x c e z=>?_⟩,I.bs,ao I.ok.bsz I.sz,λ b o e hb=>?_,λ b hb z=>?_,I.stack,I.stkFree⟩,
  rfl,I.bare,Un.kept hk,⟨_,b4,λ i x v e1 e2 e3=>?_⟩,λ x c e=>?_,I.hok.fresh (ak _),λ x c e=>?_,λ p hp=>absurd (show p∈([]:yA)from hp) (by simp),I.hok.kept hk,by unfold aF2;rw[aD];exact Y.len⟩
 .rcases lk x c e1 with⟨a1,_⟩|⟨a1,_⟩<;>rcases lk y c e2 with⟨a2,_⟩|⟨a2,_⟩
  .exact gG ok.apart a1 a2
  .exact absurd (ar (a8 _ _ a2) (fT (up _ _ a1))) (bE _)
  .exact absurd (ar (a8 _ _ a1) (fT (up _ _ a2))) (bE _)
  .exact I.ok.inj x y c a1 a2
 .cases q:scope.names.lookup x with
  | none =>
   have G:(eP scope X.env).names.lookup x=some .cell\/(eP scope X.env).names.lookup x=some .free:=hx
   rw[a5 x q]at G
   rcases G with z|z<;>cases z
  | some k =>
   have G:(eP scope X.env).names.lookup x=some .cell\/(eP scope X.env).names.lookup x=some .free:=hx
   rw[a0 x k q]at G
   cases k with
   | free =>
    obtain⟨c,hc⟩:=a7 x (aF q)
    exact⟨c,b1 x c (aF q) hc⟩
   | cell =>
    obtain⟨c,hc⟩:=qu (n:=s.heap.objs.size+1) q
    exact⟨c,by show(aP _ _ _).lookup x=_;rw[a3,zZ,hc];rfl⟩
   | _=>rcases G with z|z<;>cases z
 .have G:(scope.names.lookup x==some .cell)=true:=hx
  have q:scope.names.lookup x=some .cell:=by simpa using G
  rcases lk x c e with⟨a,_⟩|⟨a,b⟩
  .have:=up _ _ a;show s.heap.objs.size<=c;lia
  .obtain⟨d,hd⟩:=qu (n:=s.heap.objs.size+1) q
   rw[hd]at b;cases b
 .subst z
  rcases lk x c e with⟨a,_⟩|⟨a,_⟩
  .exact absurd (ar (a9 c hb) (fT (up _ _ a))) (bE _)
  .exact(hf c hb).2.2.2.2.1 x c a rfl
 .rcases(hf b hb).2.2.2.1 with z|z
  .exact I.ok.noex b o e z
  .exact absurd (ar (aI e) (ao I.ok.bsz z)) (bE _)
 .rcases aB.mp (I.stkSub b z)with y|y
  .exact(b2 b hb).2.1 y
  .exact(b2 b hb).2.2 y
 .have J:(aF2 src W)[i]?=some (some v):=e2
  unfold aF2 at J
  rw[av]at J
  cases q:src[i]? with
  | none=>rw[q]at J;cases J
  | some o =>
   rw[q]at J
   cases o with
   | none=>cases J
   | some j =>
    have Z:(W[j]?).join=some v:=aw J
    have ej:W[j]?=some (some v):=by
     cases q2:W[j]? with
     | none=>rw[q2]at Z;cases Z
     | some o2=>rw[q2]at Z;exact congrArg some Z
    obtain⟨h1,h2⟩:=Y.sr i j x q e1
    have hm:=aF h2
    obtain⟨mX,b5,b3⟩:=I.loc
    have b0:Vis X.env.scope x:=by
     rcases Y.fr _ hm rfl with z|z
     .exact .inr (.inl z)
     .exact .inr (.inr z)
    obtain⟨u,ru,look⟩:=b3 j x v h1 ej b0
    refine⟨u,ru,.inr ?_⟩
    have hcell:∃ c,X.env.cells.lookup x=some c/\s.heap.IsCell c (some u):=by
     rcases look with⟨z,_⟩|⟨_,c,z1,z2⟩
     .have z':X.env.scope.names.lookup x=some .local:=z
      rcases Y.fr _ hm rfl with y|y<;>(rw[z']at y;cases y)
     .exact⟨c,z1,z2⟩
    obtain⟨c,c1,c2⟩:=hcell
    refine⟨?_,c,b1 x c hm c1,c2.keeps hk⟩
    show(eP scope X.env).names.lookup x=some .cell\/(eP scope X.env).names.lookup x=some .free
    rw[a0 x _ h2]
    by_cases hc:(NameKind.free==NameKind.free&&X.env.scope.kind==.function&&X.env.kindOf x==some .cell)=true
    .rw[if_pos hc];exact .inl rfl
    .rw[if_neg hc];exact .inr rfl
 .rcases lk x c e with⟨a,_⟩|⟨a,_⟩
  .exact⟨_,(ok.empty x c a).1⟩
  .obtain⟨v,q⟩:=I.cell x c a
   exact⟨v,q.keeps hk⟩
 .rcases lk x c e with⟨a,_⟩|⟨a,_⟩
  .exact I.hok.fresh (by have:=up _ _ a;lia)
  .exact I.freeC x c a
theorem aS4 {W W':St}
  (I:Inv X h W H s) (Y:∀ b∈G,FpOk X h H b) (J:Inv (z9 X N' scope s.heap.objs.size cells s H G) [] W' Z s5) (hs:cc s.heap.objs.size s5.heap h') :
  Inv X h W Z { s5 with heap:=h' }:=by
 have y:∀ b o,s.heap.get? b=some o->b≠s.heap.objs.size:=λ b o e=>aA (aI e)
 have u:=J.base
 refine I.call' J.os ⟨λ b o e n hb hx=>?_,λ b o e n hb hx=>?_,λ b o e n hx=>u.free b o e n hx,λ b o e hx=>?_,u.tups,u.frzs,u.tbls⟩ (λ b o e=>?_) J.bare λ b hb=>⟨(Y b hb).2.2.2.1,(Y b hb).2.1,(Y b hb).2.2.2.2.1,(Y b hb).2.2.2.2.2⟩
 .exact(hs.2 b (y b o e)).trans (u.keep b o e n hb hx)
 .obtain⟨sl,q⟩:=u.slot b o e n hb hx
  exact⟨sl,(hs.2 b (y b o e)).trans q⟩
 .obtain⟨o',q⟩:=u.there b o e hx
  exact⟨o',(hs.2 b (y b o e)).trans q⟩
 .have fr:=J.free
  refine(J.hok b o e).stay (λ c w' hc q=>(hs.2 c ?_).trans q) (λ _ q=>q) λ _ _ q=>q
  rintro rfl
  rcases hc with z|hc
  .rw[<-z,fr]at e;cases e
  .rw[fr]at hc;cases hc
theorem ak6 {G:yB}
  (h:Q { scope:=scope,locals:=s.heap.objs.size,globals:=globals,cells:=aP (s.heap.objs.size+1) scope.names G,qual:=qual,func:=none,code:=y.code,frame:=y.frame,builtins:=y.builtins }
   { s with heap:=eN (s.heap.push { cls:=.type "dict",data:=.dict #[] }) scope.names }) :
  wpAny M A (fG scope globals G [] qual none .none (some y)) Q E s:=by
 simp only[fG,fI]
 refine ae (wpAny_alloc ?_)
 refine ae (wpAny_layCells _ (λ name kind cells=>by cases hkc:kind==NameKind.cell<;>simp[]) _ _ _ _ ?_)
 rw[bK ..]
 refine ae ?_
 rw[et]
 exact aC (aC h)
theorem aG9 {Ww:Nat->Nat->St->Hp->Prop}
  {QD:Hp->Prop} {W0:St} (hx:X'.xe=λ _ _=>False) (Z:X'.calm=true) (I4:Inv X' [] W0 H0 s4) (T:Turn X'.prog X'.w X'.K tg J fp it tn) (a9:tn 0 s4.heap)
  (Y:∀ H':Hp,(∀ b∈fp,H' b=none)->∀ b∈fp,FpOk X' [] H' b) (a6:∀ b∈fp,H0 b=none) (w0:Ww 0 m0 W0 H0)
  (turn:∀ i m W' H',Ww i m W' H'->(J.stop i H'/\QD H')\/(J.go i H'/\∃ N:St->Hp->Prop,(∀ W2 H2,N W2 H2->∃ m',m'<m/\Ww (i+1) m' W2 H2) /\
   ∀ x H2,J.yld i H' x H2->g x W' H2 λ W3 H3=>tc W3 H3 λ b H4=>if b=true then te W3 H4 λ v H5=>∃ ys,H5 D=some (.J ys)/\ys.length<aQ/\N W3 (upd H5 D (.J (ys++[v])))else N W3 H4))
  (hg:PG X' tg g) (hif:PIf X' a5 tc) (he:PE X' a2 te) (a4:∀ W' H' s',Inv X' [] W' H' s'->QD H'->R (.ok .next) s') :
  fR (model X'.prog X'.w) X'.A (.compLoop (.ListComp a2 [⟨tg,iter,a5,0⟩] scope pos) 0 (.ref it) (.ref D) X'.env) R s4:=by
 have nox:∀ {α:Type} {t:Sem α} {Q Q':α->ah->Prop} {E:Value->ah->Prop} {s:ah},wpAny (model X'.prog X'.w) X'.A t Q X'.xe s->(∀ a s,Q a s->Q' a s)->wpAny (model X'.prog X'.w) X'.A t Q' E s :=
  λ h hQ=>cj h hQ λ _ _ z=>by rw[hx]at z;exact z.elim
 refine bl9 (λ n s'=>∃ i W' H',Inv X' [] W' H' s'/\tn i s'.heap/\(∀ b∈fp,H' b=none)/\Ww i n W' H') ?_ m0 ⟨0,W0,H0,I4,a9,a6,w0⟩
 rintro n s3 ⟨i,W3,H3,I3,a3,a1,w3⟩
 rcases turn i n W3 H3 w3 with⟨stop,qn⟩|⟨go,N,hN,step⟩
 .refine nox (T.done X' rfl rfl rfl Z i [] s3 W3 H3 X'.xe I3 (Y H3 a1) a3 stop) λ r s4 ⟨hr,I4⟩=>?_
  subst hr
  exact a4 W3 H3 s4 I4 qn
 .refine nox (T.item X' rfl rfl rfl Z i [] s3 W3 H3 X'.xe I3 (Y H3 a1) a3 go) λ r s4 ⟨u,hr,h4⟩=>?_
  subst hr
  refine nox h4 λ _ s5 ⟨x,H5,I5,r5,y5,a0,a8⟩=>?_
  have a7:=I5.pinned (Y H5 a8) (T.obj _ _ a0)
  refine nox (hg _ s5 W3 H5 x u _ a7 r5 (step x H5 y5)) λ _ s6 ⟨W6,H6,I6,q6⟩=>?_
  have G:∀ {W7:St} {H7:Hp} {s7:ah},Inv X' ([]++aG2 fp s5.heap) W7 H7 s7->N W7 H7->∃ m,m<n/\∃ i W' H',Inv X' [] W' H' s7/\tn i s7.heap/\(∀ b∈fp,H' b=none)/\Ww i m W' H':=λ {W7 H7 s7} I7 n7=>by
   obtain⟨m',hm,w7⟩:=hN W7 H7 n7
   refine⟨m',hm,i+1,W7,H7,I7.unpinned,T.keep _ _ _ a0 λ b hb o e=>(I7.pin (b,o) (bA _ (bA _ (jJ hb e)))).1,λ b hb=>?_,w7⟩
   obtain⟨o,e,d⟩:=T.obj _ _ a0 b hb
   exact(I7.pin (b,o) (bA _ (bA _ (jJ hb e)))).2.1
  refine nox (hif _ s6 W6 H6 _ I6 q6) λ b s7 ⟨H7,I7,q7⟩=>?_
  cases b with
  | false =>
   rw[if_neg aS]at q7 ⊢
   exact G I7 q7
  | true =>
   rw[if_pos rfl]at q7 ⊢
   refine nox (he _ s7 W6 H7 _ I7 q7) λ v s8 ⟨y,H8,I8,r8,ys,hy,hz,q8⟩=>?_
   refine nox (aD3 _ s8 W6 H8 (.ref D) [y] (.ref D) [v] (λ _ H9=>N W6 H9) I8 rfl (.cons r8 .nil) ⟨D,ys,y,rfl,rfl,hy,hz,q8⟩) λ v9 s9 ⟨_,H9,I9,_,q9⟩=>?_
   exact G I9 q9
theorem bb2 N' src 
  (b1:qB N' src scope X.N X.env.scope=true) (hi:PI X tg iter wi) (a0:X.calm=true)
  (b2:∀(Cc:Addr) (cells:yB) (s:ah) (H:Hp) (ex:List Addr),PG (z9 X N' scope Cc cells s H ex) tg g/\PIf (z9 X N' scope Cc cells s H ex) a1 tc/\PE (z9 X N' scope Cc cells s H ex) a4 te)
  (hs:∀ x,dw iter X.env x=pure x:=by intro _;rfl):PE X (.ListComp a4 [⟨tg,iter,a1,0⟩] scope pos) (tComp src wi g tc te):=by
 intro G s W H Q I h
 have ck:=bD0 b1
 rw[eval_ListComp]
 have a9:=qK λ y hy e=>I.ok.has y.1 (ck.fr y hy e)
 refine gf rfl hs a9 ck.kind ck.loc (thn (hi G s W H _ I h) λ v s1 h1=>thn h1 λ b4 s2 h2=>?_)
 obtain⟨it,Y,tn,J,H2,e,I2,T,a5,f2,Ww⟩:=h2
 subst e
 have hD:=I2.fresh
 obtain⟨Ww,⟨m0,w0⟩,turn⟩:=Ww _ hD
 have I3:=I2.lnew (t':=s2.toks) .nil (c8 _)
 have a3:∀ b∈Y,b<s2.heap.objs.size:=λ b hb=>by obtain⟨o,q,_⟩:=T.obj _ _ a5 b hb;exact aI q
 have f3:∀ b∈Y,FpOk X G (upd H2 s2.heap.objs.size (.J [])) b:=λ b hb=>⟨by rw[zm (aA (a3 b hb))];exact(f2 b hb).1,(f2 b hb).2⟩
 refine bL (ak6 ?_)
 generalize Z:({ s2 with heap:=s2.heap.push { cls:=.type "list",data:=.seq ([]).toArray },toks:=s2.toks })=s3 at I3
 have b3:=Z
 have a7:∀ b∈Y,b<s3.heap.objs.size:=λ b hb=>by
  rw[<-Z]
  rw[bK]
  exact fU (a3 b hb)
 have I4:=av7 (s4:={ s3 with heap:=eN (s3.heap.push { cls:=.type "dict",data:=.dict #[] }) scope.names }) ck I3 f3 a7 ⟨_,rfl⟩
 have a6:tn 0 (eN (s3.heap.push { cls:=.type "dict",data:=.dict #[] }) scope.names):=T.keep _ _ _ a5 λ b hb o e=>dj _ _ b o (ag _ (by rw[<-Z];exact ag _ e))
 obtain⟨hg,hif,he⟩:=b2 s3.heap.objs.size (aP (s3.heap.objs.size+1) scope.names (ag5 X.env.cells scope.names [])) s3 (upd H2 s2.heap.objs.size (.J [])) Y
 have a2:∀ H':Hp,(∀ b∈Y,H' b=none)->∀ b∈Y,FpOk (z9 X N' scope s3.heap.objs.size (aP (s3.heap.objs.size+1) scope.names (ag5 X.env.cells scope.names [])) s3 (upd H2 s2.heap.objs.size (.J [])) Y) [] H' b:=λ H' hn b hb =>
  ⟨hn b hb,(I4.ok.exf b hb).1,I4.ok.exfs b hb,.inl hb,λ x c e=>(I4.ok.exf b hb).2 x c e,λ p hp=>absurd (hp) (by simp)⟩
 have T':=T
 have a8:=λ b hb=>(f3 b hb).1
 have L:=aG9 (X':=z9 X N' scope s3.heap.objs.size (aP (s3.heap.objs.size+1) scope.names (ag5 X.env.cells scope.names [])) s3 (upd H2 s2.heap.objs.size (.J [])) Y) (R:=compPost (model X.prog X.w) X.A X.xe none (EP X G W Q) (Value.ref s2.heap.objs.size) s3.heap.objs.size) (iter:=iter) (scope:=scope) (pos:=pos) rfl a0 I4 T' a6 a2 a8 w0 turn hg hif he
  (λ W' H' s' J' q=>by
   obtain⟨mm,hn,_⟩:=J'.loc
   exact⟨mm,hn,λ h' b0=>⟨.ref s2.heap.objs.size,H',aS4 I3 f3 J' b0,rfl,q⟩⟩)
 exact gP L (T.self _ _ _ _ _ a6 L)
section
variable {X:Cx}
theorem cs2:bz "abs"=some (.builtin "abs"):=by decide +kernel
theorem cs9:bz "len"=some (.builtin "len"):=by decide +kernel
theorem bP8:bz "min"=some (.builtin "min"):=by decide +kernel
theorem bW5:bz "max"=some (.builtin "max"):=by decide +kernel
theorem aE3:bz "isinstance"=some (.builtin "isinstance"):=by decide +kernel
theorem bV9:bz "int"=some (.type "int"):=by decide +kernel
theorem ci9:bz "bool"=some (.type "bool"):=by decide +kernel
theorem cb6:bz "str"=some (.type "str"):=by decide +kernel
theorem bf0:bz "tuple"=some (.type "tuple"):=by decide +kernel
theorem bB1:bz "list"=some (.type "list"):=by decide +kernel
def cn8 (i j:Int):Prop:=0<j/\j<2^4096
theorem aZ0 {y:Int}(h0:0<y)(h:y<2^4096):y.natAbs.log2<9000:=by
 have hn:=by
  have:(y.natAbs)=y:=by lia
  have G:(y.natAbs)<((2^4096):Int):=by rw[this];simpa using h
  exact Int.ofNat_lt.mp G
 have:=(Nat.log2_lt (by lia)).mpr hn
 lia
theorem bt5:OpR X (cz .FloorDiv) (rI cn8 λ i j=>.int (i / j)):=opI λ i j _ _ _ _ _ hc q=>by
 refine floordiv_int (by have:=hc.1;omega) ?_ (.inl (PyProof.noPylong_of_log2 (aZ0 hc.1 hc.2)))
 rw[fB i (by have:=hc.1;lia)]
 exact q
theorem aP1 {K}(h:X.K=K):IxR X (cv8 K):=by subst h;exact bQ5
theorem bO3 {K}(h:X.K=K):IxR X (cw5 K):=by subst h;exact ix_tup
theorem at1 {K}(y:X.K=K):af9 X (.builtin "len") (λ h H Q=>∃ p ys,h=[.ref p]/\(SqL K H p ys\/SqT K H p ys)/\Q (.int ys.length) H):=by subst y;exact aD7
theorem aJ9 {K}(y:X.K=K):af9 X (.type "tuple") (λ h H Q=>∃ p ys,h=[.ref p]/\((SqL K H p ys/\∀ l,H l=none->Q (.ref l) (upd H l (.tp ys)))\/(SqT K H p ys/\Q (.ref p) H))):=by subst y;exact aB2
theorem ba3 {K}(y:X.K=K):af9 X (.type "list") (λ h H Q=>∃ p ys,h=[.ref p]/\(SqL K H p ys\/SqT K H p ys)/\∀ l,H l=none->Q (.ref l) (upd H l (.J ys))):=by subst y;exact aE7
theorem br9 {K}(y:X.K=K)(hl:PE X l h):PI X tg l (bT9 K h):=by subst y;exact bR4 hl
theorem bJ5 {K}(y:X.K=K)(hl:PE X l h):PI X tg l (cn9 K h):=by subst y;exact bV1 hl
theorem bQ8 {K}{pos}{k}(G:X.K=K)(hc:X.calm=true)(h:PGs X es t)
  (hn:(cN es X.env).length=n:=by rfl) (y:(cN es X.env).findIdx? (·.1)=none:=by rfl):PG X (.Tuple es k pos) (cs5 K n t):=by subst G;exact cj0 hc h hn y
end
structure DefAt (K:af)(mg:yC)(x:Str)(st:Stmt)(ps:yH)(f:Addr)(fd:bJ):Prop where
 fn:Fun K x x st f fd
 mg:mg x=some (.ref f)
 bi:Binds K fd ps []
@[irreducible] noncomputable def cA0 (p:Prop):Prop:=p
theorem ai0.new (h:ai0 H y)(G:y p=none):ai0 H (L2.upd y p o):=λ x o e=>by
 have e1:=h x o e
 rw[zm (zK e1 G)]
 exact e1
section
variable {prog:aK} {w:World} {A:aV} {R:kP->ah->Prop} {I:Addr} {fp wr:List Addr} {n:Nat} {P:Nat->Value->Prop} {St:Nat->Heap->Prop} {kw:List (Str×Value)}
theorem bn2 (Ww:Walks prog w A.in1 I fp wr n P St) bt (a7:CmpOf prog w A.in1 .Lt P bt) S (a8:S ∉ fp) :
  ∀ k j s vb c ,n - (j+1)=k->j+1<=n->St (j+1) s.heap->P (dG bt j) vb ->
  s.heap.get? S=some { cls:=.type "list",dict:=none,data:=.seq #[vb,vb] c,slots:=#[] } ->
  (∀ v h' tk,P (dG bt (n - 1)) v->(∀ b o,b ∉ wr->b≠S->s.heap.get? b=some o->h'.get? b=some o)->R (.ok (.ret v)) { s with heap:=h',toks:=tk }) ->
  fR (model prog w) A (.builtin "min.loop" ⟨[.ref I,.none,.ref S],kw⟩) R s:=by
 have b0:=λ h=>a8 (Ww.sub _ h)
 have a1:(toString "min"++toString ".loop":String) = "min.loop":=by decide
 intro k
 induction k with
 | zero =>
  intro j s vb c hk hj a5 a2 hS hR
  have a9:j+1=n:=by lia
  refine gX gv ?_
  rw[eQ cL _]
  refine ae (b8 hS rfl ?_)
  refine ae (eA (Ww.done s _ _ (a9▸a5) λ h' tk G=>?_))
  have Z:=G S _ b0 hS
  refine ae ?_
  refine gY Z rfl (ae (d5 (aC ?_)))
  refine hR vb _ tk (by rw[<-a9];exact a2) λ b o y J e=>(bX _ _ (cb J)).trans (G b o y e)
 | succ k ih =>
  intro j s vb c hk hj a5 a2 hS hR
  have hlt:j+1<n:=by omega
  refine gX gv ?_
  rw[eQ cL _]
  refine ae (b8 hS rfl ?_)
  refine ae (eA (Ww.item (j+1) s _ _ hlt a5 λ v h' tk hP a3 G=>?_))
  have Z:=G S _ b0 hS
  show wpAny _ A.in1 (tryCatch (jZ [v,v] (richCompare .Lt v vb >>= _)) _ >>= _) _ _ _
  refine ae (eA (dq (ae (a7 (j+1) (dG bt j) v vb _ _ _ hP a2 ?_))))
  refine ae (dq (bP ?_))
  refine ae (d5 (aC ?_))
  cases hb:bt (j+1) (dG bt j)with
  | true =>
   simp only[if_true]
   refine ae ?_
   refine gY Z rfl (ae (d5 ?_))
   rw[a1]
   refine aC ⟨gh cL _,ih (j+1) _ v _ (by omega) hlt (Ww.frame _ _ _ a3 λ b b1 o e=>?_) (by simp only[dG,hb,if_true];exact hP) (dr _ Z rfl)
    λ v' a4 a0 a6 Y=>?_⟩
   .exact(bX _ _ (λ h:S=b=>a8 (by rw[h];exact b1))).trans e
   .exact hR v' a4 a0 a6 λ b o y J e=>Y b o y J ((bX _ _ (cb J)).trans (G b o y e))
  | false =>
   simp only[aO,if_false]
   refine ae (d5 ?_)
   rw[a1]
   refine aC ⟨gh cL _,ih (j+1) _ vb c (by omega) hlt a3 (by simp only[dG,hb,aO,if_false];exact a2) Z λ v' a4 a0 a6 Y=>?_⟩
   exact hR v' a4 a0 a6 λ b o y J e=>Y b o y J (G b o y e)
theorem ba1 (Ww:Walks prog w A.in1 I fp wr n P St) bt (Z:CmpOf prog w A.in1 .Lt P bt) S (J:S ∉ fp)(a4:St 0 s.heap)
  (hS:s.heap.get? S=some { cls:=.type "list",dict:=none,data:=.seq #[] c,slots:=#[] })
  (h0:n=0->∀ h' tk,(∀ b o,b ∉ wr->b≠S->s.heap.get? b=some o->h'.get? b=some o)->R (.ok (.ret d)) { s with heap:=h',toks:=tk })
  (hR:0<n->∀ v h' tk,P (dG bt (n - 1)) v->(∀ b o,b ∉ wr->b≠S->s.heap.get? b=some o->h'.get? b=some o)->R (.ok (.ret v)) { s with heap:=h',toks:=tk }) :
  fR (model prog w) A (.builtin "min.loop" ⟨[.ref I,.none,.ref S],[(bD "default",d)]⟩) R s:=by
 have a9:=λ h=>J (Ww.sub _ h)
 have Y:(toString "min"++toString ".loop":String) = "min.loop":=by decide
 refine gX gv ?_
 rw[eQ cL _]
 refine ae (b8 hS rfl ?_)
 show wpAny _ A.in1 (tryCatch (ib (.ref I)) _ >>= _) _ _ s
 rcases Nat.eq_zero_or_pos n with hn|hn
 .refine ae (eA (Ww.done s _ _ (hn▸a4) λ h' tk y=>?_))
  show wpAny _ A.in1 (rule _ >>= _) _ _ _
  refine ae (fJ (aC ?_))
  exact h0 hn h' tk λ b o G _ e=>y b o G e
 .refine ae (eA (Ww.item 0 s _ _ hn a4 λ v h' tk hP a1 y=>?_))
  have a2:=y S _ a9 hS
  show wpAny _ A.in1 (updateSeq S (λ _=>#[v,v]) >>= _) _ _ _
  refine ae ?_
  refine gY a2 rfl ?_
  rw[Y]
  refine aC ⟨gh cL _,bn2 Ww bt Z S J _ 0 _ v _ rfl hn (Ww.frame _ _ _ a1 λ b a8 o e=>?_) hP (dr _ a2 rfl) λ v' a6 a3 a7 a0=>?_⟩
  .exact(bX _ _ (λ h:S=b=>J (by rw[h];exact a8))).trans e
  .exact hR hn v' a6 a3 a7 λ b o G a5 e=>a0 b o G a5 ((bX _ _ (cb a5)).trans (y b o G e))
end
theorem be6  a d :argsOk "min" ⟨[a],[(bD "default",d)]⟩:=by unfold argsOk;kernel_rfl
theorem jT (val : Nat -> Int) : ∀ k j, j <= k -> val (dG (λ i j => decide (val i < val j)) k) <= val j
  | 0, j, h => by have : j = 0 := by lia
                  subst this; exact cy _
  | k + 1, j, h => by
    have ih := jT val k
    unfold dG
    by_cases hb : val (k + 1) < val (dG (λ i j => decide (val i < val j)) k)
    . rw[if_pos (by simpa using hb)]
      by_cases hj : j = k + 1
      . subst hj; exact cy _
      . have := ih j (by lia); lia
    . rw[if_neg (by simpa using hb)]
      by_cases hj : j = k + 1
      . subst hj; omega
      . exact ih j (by omega)
def bG9 (K:af):V->V->Hp->VK->Prop:=λ x d H Q=>∃ a ns,x=.ref a/\SqL K H a (ns.map V.int)/\(ns=[]->Q d H)/\∀ m∈ns,(∀ y∈ns,m<=y)->Q (.int m) H
theorem aC0 {ns:List Int}{its:yG}(r:Vals (ns.map V.int) its){i:Nat}(h:its[i]?=some v):∃ z t,ns[i]?=some z/\v=Value.int z t:=by
 have hl:=r.length
 rw[aD]at hl
 have y:=(ac.mp h).1
 obtain⟨u,e1,q⟩:=r.get (i:=i) (by rw[av,aj (by omega)];rfl)
 rw[h]at e1;cases e1
 obtain⟨t,rfl⟩:=q
 exact⟨_,t,aj (by omega),rfl⟩
theorem bu3 {W:St}(hc:X.calm=true)(I:Inv X G W H s)(rx:RelV x u)(rd:RelV d w')(h:bG9 X.K x d H Q) :
  wpAny (model X.prog X.w) X.A (call (.builtin "min") [u] [(bD "default",w')]) (EP X G W Q) X.xe s:=by
 obtain⟨a,ns,rfl,hS,q0,qm⟩:=h
 cases rx
 obtain⟨its,rv,pl,hz⟩:=I.list hS
 have hl:=rv.length
 rw[aD]at hl
 have Z:(toString "min"++toString ".loop":String) = "min.loop":=by decide
 refine kmb_tree F.kind_min F.plain_min F.entry_min (be6 _ _) ?_
 refine ae (wpAny_of_eq (rfl) ?_)
 refine ae (aC ?_)
 refine ae (d8 pl.isList ?_)
 have a1:a<s.heap.objs.size:=by obtain⟨o,_,e,_⟩:=pl;exact aI e
 have Ww:=lK (prog:=X.prog) (w:=X.w) (A:=X.A.in1) (I.ok.hd hc) s.heap.objs.size a (aA a1) its.toArray
 refine ae (bL ?_)
 generalize Y:s.heap.push _=h2
 have J:h2.objs.size=s.heap.objs.size+1:=by rw[<-Y,bK]
 have hk2:∀ b o,s.heap.get? b=some o->h2.get? b=some o:=λ b o e=>by rw[<-Y];exact ag _ e
 have a2:h2.objs.size ∉ [s.heap.objs.size,a]:=by
  rw[J]
  intro z
  rcases aB.mp z with z|z
  .exact absurd z (Nat.succ_ne_self _)
  .have z':=by simpa using z
   exact absurd (ar a1 (by rw[<-z'];exact dC _)) (bE _)
 have a3:(h2.push { cls:=.type "list",data:=.seq ([]:yG).toArray }).IsListIter s.heap.objs.size a 0/\(h2.push { cls:=.type "list",data:=.seq ([]:yG).toArray }).IsList a its.toArray:=by
  refine⟨⟨_,ag _ (by rw[<-Y];exact aH _ rfl),rfl,rfl⟩,?_⟩
  obtain⟨o,e,r⟩:=pl.isList
  exact⟨o,ag _ (hk2 _ _ e),r⟩
 let val:=λ i=>ns.getD i 0
 have a0:∀ i v,its.toArray[i]?=some v->∃ t,v=Value.int (val i) t:=λ i v e=>by
  obtain⟨z,t,e1,e2⟩:=aC0 rv (by rw[du]at e;exact e)
  refine⟨t,?_⟩
  rw[e2]
  show Value.int z t=Value.int (ns.getD i 0) t
  rw[aN,e1]
  rfl
 rw[Z]
 have nx:∀(h':Heap) (tk:Nat),(∀ b o,b ∉ [s.heap.objs.size]->b≠h2.objs.size->(h2.push { cls:=.type "list",data:=.seq ([]:yG).toArray }).get? b=some o->h'.get? b=some o)->Inv X G W H { s with heap:=h',toks:=tk }:=λ h' tk k=>I.kept λ b o e=>by
  refine k b o ?_ ?_ (ag _ (hk2 b o e))
  .intro z
   have z':b=s.heap.objs.size:=by simpa using z
   exact absurd (aI e) (by rw[z'];exact bE _)
  .intro z
   exact absurd (aI e) (by rw[z,J];exact Nat.not_lt.mpr (dC _))
 refine aC ⟨gh cL _,ba1 (d:=w') Ww _ (ln val a0) h2.objs.size a2 a3 (aH _ rfl) (λ hn h' tk k=>?_) λ hn v h' tk hP k=>?_⟩
 .have e:ns=[]:=by
   have:its.toArray.size=0:=hn
   have:its.length=0:=by simpa using this
   exact cH.mp (by lia)
  exact⟨d,H,nx h' tk k,rd,q0 e⟩
 .obtain⟨z,t,e1,e2⟩:=aC0 rv (i:=dG (λ i j=>decide (val i<val j)) (its.toArray.size - 1)) (v:=v) (by rw[du]at hP;exact hP)
  subst e2
  have hv:val (dG (λ i j=>decide (val i<val j)) (its.toArray.size - 1))=z:=by
   show ns.getD _ 0=z
   rw[aN,e1]
   rfl
  refine⟨.int z,H,nx h' tk k,⟨t,rfl⟩,qm z (aL e1) λ y hy=>?_⟩
  obtain⟨j,hj,e3⟩:=dD.mp hy
  have:=jT val (its.toArray.size - 1) j (by simp only[ay];lia)
  rw[hv]at this
  have e4:val j=y:=by
   show ns.getD j 0=y
   rw[aN,aj hj]
   exact e3
  lia
def cm8 (K:af)(ta td:TE):TE:=λ W H Q=>ta W H λ x H1=>td W H1 λ d H2=>bG9 K x d H2 Q
theorem bQ3 {K}(hK:X.K=K)(hc:X.calm=true)(hg:Gl X "min")(hm:X.mg "min"=none)(ha:PE X e Y)(hd:PE X Z J)
  (hs:bu [e] X.env=[(false,eval e X.env)]:=by rfl) :
  PE X (.Call (.Name "min" p) [e] [⟨some "default",Z,kp⟩] pos) (cm8 K Y J):=by
 subst hK
 intro y s W H Q I h
 refine cC (aw7 I hg hm bP8 ?_)
 have h':aq1 Y bq9 W H (λ vs G=>match vs with|[x]=>J W G λ d H2=>bG9 X.K x d H2 Q|_=>False):=h
 refine callWith_kw (thn ((qi ha ah3 hs) pos y s W H _ I h') λ us s1 ⟨vs,G,I1,r1,q1⟩=>?_) (by rw[hs];rfl) (by rw[hs];rfl)
 match vs,q1,r1 with
 | [x],q1,r1 =>
  obtain⟨u,rfl,ru⟩:=aj8 r1
  refine kws_cons (thn (hd y s1 W G _ I1 q1) λ v s2 ⟨d,H2,I2,rd,q2⟩=>kws_nil ?_)
  exact bu3 hc I2 ru rd q2
inductive D where
 | N|T (b:Bool)|int (i:Int)|str (x:Str)|tp (l:List D)|J (l:List D)
mutual
noncomputable def D.deep:D->Nat
 | .tp l=>D.deepL l+1
 | .J l=>D.deepL l+1
 | _=>0
noncomputable def D.deepL:List D->Nat
 | []=>0
 | d::l=>max (D.deep d) (D.deepL l)
end
section
variable {X:Cx}
end
section
variable {X:Cx}
def cp3 (K:af):R2:=λ x y H Q=>∃ a b xs ys,x=.ref a/\y=.ref b/\SqT K H a xs/\SqT K H b ys/\xs.length+ys.length<=aQ/\∀ p H',ai0 H H'->SqT K H' p (xs++ys)->(H' p=some (.tp (xs++ys))\/(p=a/\ys=[])\/(p=b/\xs=[]))->Q (.ref p) H'
theorem bG2 {ws:yG}(ht:IsTup s.heap t ([]:yG).toArray)(hb:IsTup s.heap b ws.toArray)(h1:Q (.ref b) s) :
  wpAny (model prog w) A (cz .Add (.ref t) (.ref b)) Q E s:=by
 obtain⟨⟨cls,dd,data,sl⟩,ho,hc,n,hd⟩:=id ht
 obtain⟨⟨a0,J,Z,Y⟩,y,h,n2,G⟩:=id hb
 simp only at hc hd h G
 subst hc hd h G
 exact j4 ⟨_,ho,rfl⟩ ⟨_,y,rfl⟩ gu iQ ef dZ (dM _ _)
   (tuple_addW0 t b _ ws.toArray n n2 dd J sl Y rfl) ⟨ho,y,h1⟩
theorem bN6 {K}(hK:X.K=K):OpR X (cz .Add) (cp3 K):=by
 subst hK
 intro G s W H x y v u Q I Y J h
 obtain⟨a,b,Z,ys,e1,e2,ha,hb,hz,q⟩:=h
 by_cases hx:Z=[]
 .subst e1;subst e2;subst hx
  cases Y;cases J
  obtain⟨its,r1,p1,_⟩:=I.tuple ha
  obtain⟨a0,r2,p2,_⟩:=I.tuple hb
  obtain rfl:its=[]:=r1.nil_iff.mpr rfl
  exact bG2 p1 p2 ⟨.ref b,H,I,rfl,q b H (ai0.refl H) hb (.inr (.inr ⟨rfl,rfl⟩))⟩
 .refine bS9 G s W H x y v u Q I Y J ⟨a,b,Z,ys,e1,e2,ha,hb,hx,hz,λ z=>?_,λ z p hp=>?_⟩
  .subst z
   exact q a H (ai0.refl H) (by rw[bf];exact ha) (.inr (.inl ⟨rfl,rfl⟩))
  .exact q p _ ((ai0.refl H).new hp) (SqT.of zo) (.inl zo)
def cz2 (K:af):V->Option Int->Option Int->Hp->VK->Prop:=λ x lo hi H Q=>∃ a xs,x=.ref a/\SqT K H a xs/\∀ p H',ai0 H H'->SqT K H' p (aZ9 xs lo hi)->(H' p=some (.tp (aZ9 xs lo hi))\/(p=a/\aZ9 xs lo hi=xs))->Q (.ref p) H'
theorem aA1 {y:yJ}(ht:IsTup s.heap t y)(hs:s.heap.IsSliceOf sl vl vu .none)(pl:f9 vl G)(pu:f9 vu Y)
  (hw:HT.sIx y.size 0 G=0/\HT.sIx y.size y.size Y=y.size) (h:Q (.ref t) s):wpAny (model prog w) A (gH (.ref t) (.ref sl)) Q E s:=by
 obtain⟨os,Z,a1,a2⟩:=id hs
 have a0:s.TypeIs (.ref sl) "slice":=⟨os,Z,a1⟩
 unfold gH
 try with_reducible refine dq ?_
 first|refine ae (aC ?_)|skip
 refine ae (j7 ht.typeIs (by decide) ?_)
 refine ae (cq ht.typeIs bB
  (cA bB ht.typeIs iG ?_ (i4 _ _)))
 show wpAny _ _ (dB (.ref t) >>= _) _ _ s
 refine ae (iR ht ?_)
 refine ae (gI a0 ?_)
 rw[if_pos (by decide)]
 refine ae (HT.sliceApplied_gen hs pl pu ?_)
 have J:((((HT.sIx y.size 0 G):Int)==0&&(1:Int)==1&&(HT.sIx y.size y.size Y - HT.sIx y.size 0 G)==y.size)=true):=by
  rw[hw.1,hw.2]
  simp
 show wpAny _ _ (if(((HT.sIx y.size 0 G:Nat):Int)==0&&(1:Int)==1&&(HT.sIx y.size y.size Y - HT.sIx y.size 0 G)==y.size)=true then _ else _) _ _ s
 rw[if_pos J]
 refine ae (ae (gI ht.typeIs (aC ?_)))
 rw[if_pos (by decide)]
 exact ae (fJ (aC ⟨_,rfl,aC h⟩))
theorem au9 (h:HT.sIx y.length 0 J=0/\HT.sIx y.length y.length G=y.length):aZ9 y J G=y:=by
 unfold aZ9
 rw[h.1,h.2]
 simp
theorem bN3 {K}(hK:X.K=K):SlR X (cz2 K):=by
 subst hK
 intro G s W H x v vl vu Z Y sl Q I J hs pl pu h
 obtain⟨a,y,e1,hx,q⟩:=h
 by_cases hw:HT.sIx y.length 0 Z=0/\HT.sIx y.length y.length Y=y.length
 .subst e1
  cases J
  obtain⟨its,r,ht,hz⟩:=I.tuple hx
  have hlen:its.toArray.size=y.length:=by rw[ay];exact r.length.symm
  refine⟨"tuple",_,bB.lookup,ht.typeIs,?_⟩
  exact aA1 ht hs pl pu (by rw[hlen];exact hw) ⟨.ref a,H,I,rfl,q a H (ai0.refl H) (by rw[au9 hw];exact hx) (.inr ⟨rfl,au9 hw⟩)⟩
 .exact bV2 G s W H x v vl vu Z Y sl Q I J hs pl pu ⟨a,y,e1,hx,hw,λ p hp=>q p _ ((ai0.refl H).new hp) (SqT.of zo) (.inl zo)⟩
theorem bx7 {K}(h:X.K=K):SlR X (cw0 K):=by subst h;exact bH0
end
noncomputable def Its (x:Str):It:=⟨λ i _=>i<x.cps.size,λ i H v H'=>H'=H/\∃ c,x.cps[i]?=some c/\v=.str ⟨#[c]⟩,λ i _=>x.cps.size<=i⟩
theorem aO7 {K} it (hn:["enumerate", "zip", "dict_itemiterator", "dict_reverseitemiterator", "odict_iterator", "itertools.zip_longest", "itertools.pairwise"].contains J=false)
  (Ww:∀ A:aV,A.handled=none->Walks P w A it [it] [it] x.cps.size (SignAt x) (λ i h=>h.IsStrIter it J x t i))
  (Y:∀(A:aV) (s:ah) (i:Nat) (Q:Option Value->ah->Prop) (E:Value->ah->Prop),A.handled=none->s.heap.IsStrIter it J x t i->x.cps[i]?=none->(∀ h',fW it s.heap h'->Q none { s with heap:=h' })->wpAny (model P w) A (ib (.ref it)) Q E s)
  (G:∀(A:aV) (i:Nat) (s:ah) (Q:Value->ah->Prop) (E:Value->ah->Prop),s.heap.IsStrIter it J x t i->Q (.ref it) s->wpAny (model P w) A (kg (.ref it)) Q E s):Turn P w K tg (Its x) [it] it (λ i h=>h.IsStrIter it J x t i) where
 mem:=by simp
 obj:=λ i h st b hb=>by
  have e:=by simpa using hb
  subst e
  obtain⟨o,ho,hc,hd⟩:=st
  exact⟨o,ho,λ v z=>by rw[hd]at z;cases z⟩
 keep:=λ i h h' st k=>by
  obtain⟨o,ho,r⟩:=st
  exact⟨o,k it (by simp) _ ho,r⟩
 item:=by
  intro X hP hw hK hc i y s W H E I hf st hg
  subst hP hw hK
  obtain⟨f0,f1,f2,f3,f4,f5⟩:=hf it (by simp)
  refine(Ww X.A (I.ok.hd hc)).item i s _ _ hg st λ v h' tk hv Z kk=>?_
  obtain⟨c,u,a0,rfl⟩:=hv
  have I1:Inv X y W H { s with heap:=h',toks:=tk }:=I.turned (λ b o hb e=>kk b o (by simpa using hb) e) f0 f1 f3 f4 f5
  obtain⟨o,ho,a1,hd⟩:=id Z
  exact⟨_,rfl,bA0 ho a1 hd hn ⟨.str ⟨#[c]⟩,H,I1,⟨u,rfl⟩,⟨rfl,c,a0,rfl⟩,Z,λ b hb=>(hf b hb).1⟩⟩
 done:=by
  intro X hP hw hK hc i y s W H E I hf st hg
  subst hP hw hK
  obtain⟨f0,f1,f2,f3,f4,f5⟩:=hf it (by simp)
  have a2:x.cps.size<=i:=hg
  exact Y X.A s i _ E (I.ok.hd hc) st (by simp;omega) λ h' eb=>⟨rfl,I.turned (λ b o hb e=>eb b o hb e) f0 f1 f3 f4 f5⟩
 self:=λ A i s Q E st h=>G A i s Q E st h
def cu7 (tl:TE):TI:=λ W H R=>tl W H λ v H1=>∃ x,v=.str x/\R (Its x) H1
theorem ci0 (hl:PE X l Z):PI X tg l (cu7 Z):=by
 intro y s W H R I h
 refine thn (hl y s W H _ I h) λ v s1 ⟨v0,H1,J,r1,q1⟩=>?_
 obtain⟨x,e,q⟩:=q1
 subst e
 obtain⟨t,rfl⟩:=r1
 have fin:∀ G o ,o={ cls:=.type G,data:=.fields #[.str x t,.int 0 0] }->Turn X.prog X.w X.K tg (Its x) [s1.heap.objs.size] s1.heap.objs.size (λ i h=>h.IsStrIter s1.heap.objs.size G x t i)->PIE X y W tg R (.ref s1.heap.objs.size) { s1 with heap:=s1.heap.push o }:=λ G o eo T=>by
  subst eo
  refine⟨s1.heap.objs.size,[s1.heap.objs.size],_,_,H1,rfl,J.kept λ b o e=>ag _ e,T,⟨_,aH _ rfl,rfl,rfl⟩,λ b hb=>?_,q⟩
  have e:=by simpa using hb
  subst e
  exact J.fpOk (ak _) (J.hok.fresh (ak _))
 cases ha:x.cps.all (·<128)
 .exact wpAny_pyIter_wide ha (fin "str_iterator" _ rfl (aO7 _ (by decide) (λ A hA=>Walks.strWide hA _ x t) (λ A s i Q E hA st hx Y=>wpAny_pyNext_wide_end hA st hx Y) λ A i s Q E st h=>wpAny_pyIter_striter_wide st h))
 .exact wpAny_pyIter_ascii ha (fin "str_ascii_iterator" _ rfl (aO7 _ (by decide) (λ A hA=>Walks.strAscii hA _ x t) (λ A s i Q E hA st hx Y=>wpAny_pyNext_ascii_end hA st hx Y) λ A i s Q E st h=>wpAny_pyIter_striter_ascii st h))
section
variable {X:Cx} {K:af} {T id:String} {name:Str} {o e:Expr} {es:yK} {to:TE} {t:TA} {r:V->List V->Hp->VK->Prop} {apos cpos:Pos}
theorem bZ9 (Z:X.K=K)(pa:kS T)(slot:Slot T name id)(Y:typeOf (.builtin id)=pure (.type "method_descriptor"))(hm:MtR X id r)(ho:PE X o to)(ha:PA X (e::es) t)
  (y:ga o name X.env (eval o X.env)=eval o X.env:=by rfl)
  (J:((d7 cpos (bu (e::es) X.env)).all (λ x=>!x.1)&&(backToKw cpos (keywordEach [] X.env)).all (λ x=>x.1.isSome)
   && decide ((e::es).length+([]:List kK).length+(if([]:List kK).isEmpty then 0 else 1)<30))=true:=by rfl)
  (G:(apos.endLine==cpos.line)=true:=by rfl) (hs:bu (e::es) X.env=(false,eval e X.env)::bu es X.env:=by rfl) (h:(d7 cpos (bu es X.env)).any (·.1)=false:=by rfl) :
  PE X (.Call (.Attribute o name apos) (e::es) [] cpos) (tBM K T r to t):=by
 subst Z
 exact cr2 pa slot Y hm ho ha y J G hs h
end
structure Mach where
 letters:Int
 rooms:Int
 begins:List Int
 ends:List Int
 doors:List (Int×Str×Int×Int)
noncomputable def ct3 (q:Int×Str×Int×Int):D:=.tp [.int q.1,.str q.2.1,.int q.2.2.1,.int q.2.2.2]
def Mach.D (M:Mach):D:=.tp [.int M.letters,.int M.rooms,.tp (M.begins.map .int),.tp (M.ends.map .int),.tp (M.doors.map ct3)]
noncomputable def ltr (i:Nat):Str:=⟨#[97+i]⟩
structure DoorOk (letters rooms:Int)(q:Int×Str×Int×Int):Prop where
 s0:0<=q.1
 s1:q.1<rooms
 l:∃ i:Nat,(i:Int)<letters/\q.2.1=ltr i
 g0:0<=q.2.2.1
 g1:q.2.2.1<rooms
 t0:0<=q.2.2.2
 t1:q.2.2.2<=3
structure RoomsOk (rooms:Int)(l:List Int):Prop where
 mem:∀ r∈l,0<=r/\r<rooms
 up:l.Pairwise (· < ·)
structure Mach.Ok (most:Nat)(M:Mach):Prop where
 l0:1<=M.letters
 l1:M.letters<=3
 r0:1<=M.rooms
 r1:M.rooms<=5
 b:RoomsOk M.rooms M.begins
 e:RoomsOk M.rooms M.ends
 d:∀ q∈M.doors,DoorOk M.letters M.rooms q
 m:M.doors.length<=most
mutual
noncomputable def D.tups:D->Bool
 | .J _=>false
 | .tp l=>D.tupsL l
 | _=>true
noncomputable def D.tupsL:List D->Bool
 | []=>true
 | d::l=>D.tups d&&D.tupsL l
end
end L2
end
noncomputable section
namespace L2
end L2
end
noncomputable section
namespace L2
open PySem PySem.Spec PyProof.Rows
noncomputable def cy5:Option Int->D
 | none=>.N
 | some i=>.int i
noncomputable def addO:Option Int->Option Int->Option Int
 | some a,some b=>some (a+b)
 | _,_=>none
noncomputable def minO:List Int->Option Int
 | []=>none
 | a::l=>some (match minO l with|none=>a|some b=>if b<a then b else a)
theorem am3:∀ {l},minO l=none↔l=[]
 | []=>by simp[minO]
 | a::l=>by simp[minO]
theorem aI4:∀ {l} {m},minO l=some m->m∈l/\∀ y∈l,m<=y
 | [],m,h=>by cases h
 | a::l,m,h=>by
  unfold minO at h
  have h':=aw h
  cases e:minO l with
  | none =>
   rw[e]at h'
   have:=am3.mp e
   subst this
   have:a=m:=h'
   subst this
   exact⟨aG,λ y hy=>by(have h0:=(by simpa using hy));lia⟩
  | some b =>
   rw[e]at h'
   obtain⟨Y,J⟩:=aI4 e
   have G:(if b<a then b else a)=m:=h'
   split at G
   .subst G
    exact⟨aE _ Y,λ y hy=>by
     rcases aB.mp hy with z|z
     .lia
     .exact J y z⟩
   .subst G
    exact⟨aG,λ y hy=>by
     rcases aB.mp hy with z|z
     .lia
     .have:=J y z;lia⟩
theorem aY2 {pos a1 py} N' src 
  (hN:X.N.Nodup) (b5:X.N[i]?=some y) (a7:X.env.scope.names.lookup y=some .local)
  (b2:qB N' src scope X.N X.env.scope=true) (hi:PI X tg iter wi) (a3:X.calm=true)
  (b6:∀(Cc:Addr) (cells:yB) (s:ah) (H:Hp) (ex:List Addr),PG (z9 X N' scope Cc cells s H ex) tg g/\PIf (z9 X N' scope Cc cells s H ex) a0 tc/\PE (z9 X N' scope Cc cells s H ex) Z te)
  (hs:∀ x,dw iter X.env x=pure x:=by intro _;rfl)
  (b4:fx (.ListComp Z [⟨tg,iter,a0,0⟩] scope pos) (some (.Name y py)) a1.line X.env=pure true:=by rfl) :
  PS X (.Assign [.Name y py] (.ListComp Z [⟨tg,iter,a0,0⟩] scope pos) a1) (bz8 (tComp src wi g tc te) (aF4 i)):=by
 intro G s W H D0 I h
 have ck:=bD0 b2
 rw[exec_Assign_Name_used _ _ _ _ b4]
 refine ae (iO (ae ?_))
 have b0:=qK λ y hy e=>I.ok.has y.1 (ck.fr y hy e)
 refine ae (cj (gf rfl hs b0 ck.kind ck.loc (thn (hi G s W H _ I h) λ v s1 h1=>thn h1 λ c1 s2 h2=>?_)) (λ _ s' hq=>aC (aC hq)) λ _ _ e=>e)
 obtain⟨it,Y,tn,J,H2,e,I2,T,a4,f2,Ww⟩:=h2
 subst e
 have hD:=I2.fresh
 obtain⟨Ww,⟨m0,w0⟩,turn⟩:=Ww _ hD
 have I3:=I2.lnew (t':=s2.toks) .nil (c8 _)
 have a6:∀ b∈Y,b<s2.heap.objs.size:=λ b hb=>by obtain⟨o,q,_⟩:=T.obj _ _ a4 b hb;exact aI q
 have f3:∀ b∈Y,FpOk X G (upd H2 s2.heap.objs.size (.J [])) b:=λ b hb=>⟨by rw[zm (aA (a6 b hb))];exact(f2 b hb).1,(f2 b hb).2⟩
 refine bL (ak6 ?_)
 generalize a2:({ s2 with heap:=s2.heap.push { cls:=.type "list",data:=.seq ([]).toArray },toks:=s2.toks })=s3 at I3
 have c0:=a2
 have b3:∀ b∈Y,b<s3.heap.objs.size:=λ b hb=>by
  rw[<-a2]
  show b<(s2.heap.push _).objs.size
  rw[bK]
  exact fU (a6 b hb)
 have I4:=av7 (s4:={ s3 with heap:=eN (s3.heap.push { cls:=.type "dict",data:=.dict #[] }) scope.names }) ck I3 f3 b3 ⟨_,rfl⟩
 have a5:tn 0 (eN (s3.heap.push { cls:=.type "dict",data:=.dict #[] }) scope.names):=T.keep _ _ _ a4 λ b hb o e=>dj _ _ b o (ag _ (by rw[<-a2];exact ag _ e))
 obtain⟨hg,hif,he⟩:=b6 s3.heap.objs.size (aP (s3.heap.objs.size+1) scope.names (ag5 X.env.cells scope.names [])) s3 (upd H2 s2.heap.objs.size (.J [])) Y
 have a8:∀ H':Hp,(∀ b∈Y,H' b=none)->∀ b∈Y,FpOk (z9 X N' scope s3.heap.objs.size (aP (s3.heap.objs.size+1) scope.names (ag5 X.env.cells scope.names [])) s3 (upd H2 s2.heap.objs.size (.J [])) Y) [] H' b:=λ H' hn b hb =>
  ⟨hn b hb,(I4.ok.exf b hb).1,I4.ok.exfs b hb,.inl hb,λ x c e=>(I4.ok.exf b hb).2 x c e,λ p hp=>absurd (show p∈([]:yA)from hp) (by simp)⟩
 have T':Turn X.prog X.w X.K tg J Y it tn:=T
 have a9:∀ b∈Y,upd H2 s2.heap.objs.size (.J []) b=none:=λ b hb=>(f3 b hb).1
 have L:=aG9 (X':=z9 X N' scope s3.heap.objs.size (aP (s3.heap.objs.size+1) scope.names (ag5 X.env.cells scope.names [])) s3 (upd H2 s2.heap.objs.size (.J [])) Y) (R:=compPost (model X.prog X.w) X.A X.xe (some (gE (.Name y py) X.env)) (λ _ s'=>SP X G D0 .next s') (Value.ref s2.heap.objs.size) s3.heap.objs.size) (iter:=iter) (scope:=scope) (pos:=pos) (QD:=λ H'=>D0.nx (W.set i (some (.ref s2.heap.objs.size))) H') rfl a3 I4 T' a5 a8 a9 w0 turn hg hif he
  (λ W' H' s' J' q=>by
   have J2:=aS4 I3 f3 J' (Heap.SameBut.refl _ _)
   obtain⟨mm,hn,_⟩:=J'.loc
   have nL:s3.heap.objs.size≠X.env.locals:=bV I3.lt
   have nC:∀ x c,X.env.cells.lookup x=some c->c≠s3.heap.objs.size:=λ x c e=>by
    obtain⟨v,z⟩:=I3.cell x c e
    exact aA z.lt
   show wpAny _ X.A (gE (.Name y py) X.env (.ref s2.heap.objs.size)) _ _ _
   refine j2 (aI3 (v:=.ref s2.heap.objs.size) J2 hN b5 (.inl a7) rfl (λ s5 I5 sb=>?_) (.inr a7))
   obtain⟨aa,sb,ha⟩:=sb
   have na:s3.heap.objs.size≠aa:=by
    rcases ha with z|z
    .rw[z];exact nL
    .exact λ e=>nC _ _ z e.symm
   refine⟨mm,hn.sameBut sb na,λ h' b1=>⟨_,H',I5.turned (t':=s5.toks) (λ b o hb e=>(b1.2 b hb).trans e) J'.free nL (.inr I3.sz) nC λ p hp z=>?_,q⟩⟩
   exact absurd (aI (I3.pin p hp).1) (by rw[z];exact bE _))
 exact gP L (T.self _ _ _ _ _ a5 L)
def cy0:V->Option Int->Option Int->Hp->VK->Prop:=λ x lo hi H Q=>∃ z,x=.str z/\z.length<=aQ/\Q (.str (fc z lo hi)) H
theorem aH5 (p:f9 v o):∃ q,v=partValue q/\q.map (·.1)=o:=by
 cases p with
 | none=>exact⟨none,rfl,rfl⟩
 | int i t=>exact⟨some (i,t),rfl,rfl⟩
theorem bZ7 :SlR X cy0:=by
 intro Y s W H x v vl vu J G sl Q I rx hs pl pu h
 obtain⟨z,rfl,hz,q⟩:=h
 obtain⟨t,rfl⟩:=rx
 obtain⟨l,rfl,Z⟩:=aH5 pl
 obtain⟨u,rfl,eu⟩:=aH5 pu
 refine⟨"str",_,F.slot_str_getitem.lookup,kR s z t,?_⟩
 refine wpAny_getItem_str_slice (st:=none) hs rfl ?_
 unfold sliceMade
 have e:slicePicked z l u none=bF J G 1 z.length:=by
  unfold slicePicked
  rw[Z,eu]
  rfl
 rw[e]
 unfold fc at q
 split
 .rename_i hc
  have y:((1:Int)==1&&(bF J G 1 z.length).length==z.length)=true:=hc
  rw[if_pos y]at q
  exact⟨.str z,H,I,⟨t,rfl⟩,q⟩
 .rename_i hc
  have y:¬((1:Int)==1&&(bF J G 1 z.length).length==z.length)=true:=hc
  rw[if_neg y]at q
  have hlen:=by
   show(ik (λ x=>z.cps[x]?) (bF J G 1 z.length)).toArray.size<=aQ
   rw[ay]
   exact ao (gi _ _) (ao (sliceIndices_le J G z.length) hz)
  exact⟨hlen,.str _,H,I.tok _,⟨_,rfl⟩,q⟩
section
variable {M:Model} {A:aV} {E:Value->ah->Prop} {s₀ s:ah} {m cm:yC} {env:Env} {cs:yB}
theorem bL4 (z:fS s₀ env.locals m cs cm s)(G:env.scope.kind=.function)(kl:env.kindOf n=some .local)
  (go:∀ s',fS s₀ env.locals (λ y=>if y=n then some v else m y) cs cm s'->Q () s'):wpAny M A (gm env n v) Q E s:=by
 refine g6 kl z.toInCall.ns (λ g h gs=>go _ ⟨⟨?a,h,λ b o e=>?b,z.toInCall.fresh⟩,λ k c e=>?c,z.apart,z.above⟩) (by rw[G];rfl)
 case a=>obtain⟨J,tk,e⟩:=z.toInCall.same;subst e;exact⟨g,_,rfl⟩
 case b=>exact gs.extBut b o (aA (ar (aI e) z.toInCall.fresh)) (z.toInCall.keep b o e)
 case c=>exact(z.cell k c e).sameBut gs (bV (z.above k c (aF e)))
theorem bT4 (z:fS s₀ env.locals m cs cm s)(J:env.scope.kind=.function)(G:env.kindOf n=some .cell)
  (e1:env.cells.lookup n=some c) (e2:cs.lookup n=some c) (go:∀ s',fS s₀ env.locals m cs (λ y=>if y=n then some v else cm y) s'->Q () s'):wpAny M A (gm env n v) Q E s:=by
 have up:=z.above n c (aF e2)
 refine hZ J G e1 (z.cell n c e2) λ g Y gs=>go _ ⟨⟨?a,z.toInCall.ns.sameBut gs (aA up),λ b o e=>?b,z.toInCall.fresh⟩,λ k h e=>?c,z.apart,z.above⟩
 case a=>obtain⟨Z,tk,e⟩:=z.toInCall.same;subst e;exact⟨g,_,rfl⟩
 case b=>exact gs.extBut b o (aA (eB (ar (aI e) z.toInCall.fresh) up)) (z.toInCall.keep b o e)
 case c =>
  by_cases q:k=n
  .subst q
   rw[e2]at e;cases e
   simpa using Y
  .rw[if_neg q]
   exact(z.cell k h e).sameBut gs λ y=>q (gG z.apart (aF e) (y▸aF e2))
theorem aL8 (f:Str×Value->PUnit->Sem (ForInStep PUnit))(Z:∀ n v u,f (n,v) u=(do gm env n v;pure (.yield ⟨⟩)))(J:env.scope.kind=.function)(sub:∀ n c,cs.lookup n=some c->env.cells.lookup n=some c) :
  ∀ bs (m Y:yC) s Q ,fS s₀ env.locals m cs Y s ->
   (∀ y∈bs,env.kindOf y.1=some .local\/(env.kindOf y.1=some .cell/\∃ c,cs.lookup y.1=some c)) ->
   (∀ s',fS s₀ env.locals (bindL env.kindOf bs m) cs (bindC env.kindOf bs Y) s'->Q ⟨⟩ s')->wpAny M A (forIn bs ⟨⟩ f) Q E s
 | [],m,Y,s,Q,z,_,go=>by rw[et];exact aC (go s z)
 | (n,v)::r,m,Y,s,Q,z,hy,go=>by
  rw[e9,Z]
  have hr:=λ y (q)=>hy y (aE _ q)
  rcases hy (n,v) aG with kl|⟨kc,c,e2⟩
  .refine ae (ae (bL4 z J kl λ s' z'=>aC (aL8 f Z J sub r _ _ s' Q z' hr λ G h=>go G ?_)))
   unfold bindL bindC;rw[if_pos kl,if_pos kl];exact h
  .have nl:¬ env.kindOf n=some .local:=by rw[kc];decide
   refine ae (ae (bT4 z J kc (sub n c e2) e2 λ s' z'=>aC (aL8 f Z J sub r _ _ s' Q z' hr λ G h=>go G ?_)))
   unfold bindL bindC;rw[if_neg nl,if_neg nl];exact h
end
theorem av8 {h:yB}{func:yI}{code}
  (J:scope.kind=.function) (hy:∀ y∈binds,scope.names.lookup y.1=some .local\/(scope.names.lookup y.1=some .cell/\∃ c,(aP (s.heap.objs.size+1) scope.names []).lookup y.1=some c))
  (go:∀ env,env=newEnv scope s.heap.objs.size globals (aP (s.heap.objs.size+1) scope.names h) qual func code none builtins ->
   ∀ s',fS s env.locals (bindL env.kindOf binds λ _=>none) (aP (s.heap.objs.size+1) scope.names []) (bindC env.kindOf binds λ _=>none) s'->Q env s') :
  wpAny M A (fG scope globals h binds qual func code none builtins) Q E s:=by
 simp only[fG,i8,aO,if_false]
 refine ae (wpAny_alloc (ae (wpAny_layCells _ (λ nm kd Z=>by cases q:kd==NameKind.cell<;>simp[]) _ _ _ _ ?_)))
 have ok:=cellsFrom_ok scope.names (s.heap.push { cls:=.type "frame",data:=.dict #[] }) (s.heap.objs.size+1) [] ⟨λ _ _ Y=>(nomatch Y),List.Pairwise.nil⟩ (by rw[bK];exact ak _)
 have G:({ s with heap:=s.heap.push { cls:=.type "frame",data:=.dict #[] } }).heap.objs.size=s.heap.objs.size+1:=bK ..
 rw[bK]at ok
 rw[G]
 refine ae (aL8 (s₀:=s) (env:=newEnv scope s.heap.objs.size globals (aP (s.heap.objs.size+1) scope.names h) qual func code none builtins)
  _ (λ _ _ _=>rfl) J (λ n c e=>?sub) binds (λ _=>none) (λ _=>none) _ _ ⟨⟨⟨_,_,rfl⟩,?ns,λ b o e=>?k,ak _⟩,λ n c e=>(ok.empty n c (aF e)).1,ok.apart,λ n c e=>(ok.empty n c e).2⟩ hy λ s' x=>aC (go _ rfl s' x))
 case sub =>
  show(aP _ _ _).lookup n=some c
  rw[zx,zZ,e];rfl
 case ns=>exact(lG s.heap (.type "frame")).keeps (dj _ _)
 case k=>exact dj _ _ b o (ag _ e)
noncomputable def qR (c:Addr)(qual:Str):HO:=.ext λ h=>h.CodeRec (.ref c) qual
noncomputable def ay5 (f:Addr)(fd:bJ):HO:=.ext λ h=>h.get? f=some { cls:=.type "function",data:=.func fd }
theorem aO9 (r:h.CodeRec (.ref c) q):ag0 P w H h c (qR c q):=by
 refine⟨r,?_,λ G J z k=>?_⟩
 .obtain⟨y,o,vs,t,e,g,_⟩:=r
  cases e
  exact⟨o,g⟩
 .obtain⟨y,o,vs,t,e,g,d⟩:=z
  cases e
  exact⟨c,o,vs,t,rfl,k o g,d⟩
theorem aF7 (x:HOk P w H h)(e:H c=some (qR c q)):h.CodeRec (.ref c) q:=(x c _ e).1
theorem aA8 (r:h.get? f=some { cls:=.type "function",data:=.func y }):ag0 P w H h f (ay5 f y) :=
 ⟨r,⟨_,r⟩,λ _ _ z k=>k _ z⟩
theorem az5 (x:HOk P w H h)(e:H f=some (ay5 f y)):h.get? f=some { cls:=.type "function",data:=.func y }:=(x f _ e).1
noncomputable def isC (cells:yB)(b:Addr):Bool:=cells.any λ p=>cells.lookup p.1==some b
theorem ah4 :isC cells b=true↔∃ x,cells.lookup x=some b:=by
 unfold isC
 rw[kq]
 constructor
 .rintro⟨p,_,e⟩;exact⟨p.1,by simpa using e⟩
 .rintro⟨x,e⟩;exact⟨(x,b),aF e,by simpa using e⟩
def ae9 (cells:yB)(H:Hp):Hp:=λ b=>if isC cells b=true then none else H b
def Put (cells:yB)(H H':Hp):Hp:=λ b=>if isC cells b=true then H b else H' b
theorem ae9.cell (h:isC cells b=true):ae9 cells H b=none:=if_pos h
theorem ae9.ne (h:isC cells b≠true):ae9 cells H b=H b:=if_neg h
theorem ae9.some (h:ae9 cells H b=some o):isC cells b≠true/\H b=some o:=by
 unfold ae9 at h
 split at h
 .cases h
 .rename_i z;exact⟨z,h⟩
theorem ae9.none (h:H b=none):ae9 cells H b=none:=by
 unfold ae9
 split
 .rfl
 .exact h
theorem Put.cell (h:isC cells b=true):Put cells H H' b=H b:=if_pos h
theorem Put.ne (h:isC cells b≠true):Put cells H H' b=H' b:=if_neg h
def Cells (clos:yB)(H:Hp):Prop:=∀ x c,clos.lookup x=some c->∃ o v,H c=some (.frz o (.own c))/\o.data=.cell v
theorem Cells.at (z:Cells y H)(h:isC y b=true):∃ o v,H b=some (.frz o (.own b))/\o.data=.cell v:=by
 obtain⟨x,e⟩:=ah4.mp h
 exact z x b e
def Cap (clos:yB)(H:Hp)(fr:yH)(cap:List V):Prop:=∀(i:Nat) x v ,fr[i]?=some x->cap[i]?=some v->∃ c o u,clos.lookup x=some c/\H c=some (.frz o (.own c))/\o.data=.cell (some u)/\RelV v u
structure LamScope (N ps fr:yH)(sc:Scope):Prop where
 kind:sc.kind=.function
 co:sc.isCoroutine=false
 gen:sc.isGenerator=false
 nd:N.Nodup
 app:N=ps++fr
 par:∀ x∈ps,sc.names.lookup x=some .local\/sc.names.lookup x=some .cell
 frs:∀ x∈fr,sc.names.lookup x=some .free
 cel:∀ y∈sc.names,y.2=.cell->sc.names.lookup y.1=some .cell
def aN6 (P:aK)(w:World)(K:af)(mg:yC)(base:Heap)(N:yH)(qual:Str)(scope:Scope)(f:Addr)(cd:Value)(clos:yB)(A:aV)(outer:List Env)(s:ah)(H:Hp):Cx where
 prog:=P
 w:=w
 K:=K
 mg:=mg
 base:=base
 A:=A.deeper (db qual scope s.heap.objs.size f cd (aP (s.heap.objs.size+1) scope.names clos))
 N:=N
 s₀:=s
 H₀:=ae9 clos H
 env:=db qual scope s.heap.objs.size f cd (aP (s.heap.objs.size+1) scope.names clos)
 outer:=outer
 stack:=db qual scope s.heap.objs.size f cd (aP (s.heap.objs.size+1) scope.names clos)::outer
 ex:=[]
 fn:=λ x=>scope.names.lookup x==some .cell
 calm:=true
 pn:=[]
 xe:=λ _ _=>False
theorem HOk.drop (x:HOk P w H h)(z:Cells G H):HOk P w (ae9 G H) h:=λ b o e=>by
 obtain⟨_,e'⟩:=ae9.some e
 have J:∀ c u,H c=some u->(∀ o v,u≠.frz o v)->isC G c≠true:=λ c u q d y=>by
  obtain⟨o,v,Y,_⟩:=z.at y
  rw[q]at Y;cases Y
  exact d _ _ rfl
 exact(x b o e').stay (λ _ _ _ q=>q) (λ c q=>by rw[ae9.ne (J c _ q λ _ _=>by nofun)];exact q) λ c Z q=>by rw[ae9.ne (J c _ q λ _ _=>by nofun)];exact q
theorem bm4 {K:af}{us:yG}{vs cap:List V}
  (S:LamScope N ps fr scope) (hd:A.handled=none) (J:Env0 P w K mg base A G s H) (hl:vs.length=ps.length) (a5:cap.length=fr.length) (r:Vals vs us)
  (hc:Cells h H) (inj:∀ x y c,h.lookup x=some c->h.lookup y=some c->x=y) (a3:∀ x,scope.names.lookup x=some .free->∃ c,h.lookup x=some c) (a2:Cap h H fr cap)
  (x:fS s s.heap.objs.size (bindL (db qual scope s.heap.objs.size f cd (aP (s.heap.objs.size+1) scope.names h)).kindOf (ps.zip us) λ _=>none) (aP (s.heap.objs.size+1) scope.names [])
   (bindC (db qual scope s.heap.objs.size f cd (aP (s.heap.objs.size+1) scope.names h)).kindOf (ps.zip us) λ _=>none) s1) :
  Inv (aN6 P w K mg base N qual scope f cd h A G s H) [] (vs.map some++cap.map some) (ae9 h H) s1:=by
 obtain⟨h1,tk,rfl,hk⟩:=x.done
 have Z:∀ b:Addr,b ∉ (aN6 P w K mg base N qual scope f cd h A G s H).ex:=λ b z=>absurd (show b∈([]:List Addr)from z) (by simp)
 have lk:∀ y c,(aP (s.heap.objs.size+1) scope.names h).lookup y=some c->(aP (s.heap.objs.size+1) scope.names []).lookup y=some c\/((aP (s.heap.objs.size+1) scope.names []).lookup y=none/\h.lookup y=some c):=λ y c e=>by
  rw[zx,zZ]at e
  cases q:(aP (s.heap.objs.size+1) scope.names []).lookup y with
  | some d=>rw[q]at e;left;simpa using e
  | none=>rw[q]at e;right;exact⟨rfl,by simpa using e⟩
 have own:∀ y c,(aP (s.heap.objs.size+1) scope.names []).lookup y=some c->s.heap.objs.size<c:=λ y c e=>x.above y c (aF e)
 have a0:∀ y c,h.lookup y=some c->c<s.heap.objs.size:=λ y c e=>by
  obtain⟨o,v,q,_⟩:=hc y c e
  exact J.hok.lt q
 have hx:∀ y c,h.lookup y=some c->scope.names.lookup y=some .free->(aP (s.heap.objs.size+1) scope.names h).lookup y=some c:=λ y c e k=>by
  rw[zx,zZ]
  cases q:(aP (s.heap.objs.size+1) scope.names []).lookup y with
  | none=>exact e
  | some d =>
   rcases zS (aF q)with z|z
   .rw[S.cel _ z rfl]at k;cases k
   .exact absurd z (by simp)
 have dn:∀ b,H b=none->ae9 h H b=none:=λ b e=>ae9.none e
 refine⟨⟨J.mod,S.kind,rfl,rfl,ak _,λ y z c a b=>?inj,λ y hy=>?has,λ y c hy e=>?cab,λ _=>hd,ig J.frames,.inr ⟨rfl,rfl⟩,λ b z=>absurd z (Z b),λ b o e=>⟨(J.bs b o e).1,dn b (J.bs b o e).2⟩,J.bsz,λ b _ _=>Z b,λ b z=>absurd z (Z b),J.funs,λ b hb=>dn b (J.frf b hb)⟩,
  rfl,J.bare,Un.kept hk,⟨_,x.toInCall.ns,λ i y v q1 q2 q3=>?loc⟩,λ y c e=>?cell,dn _ (J.hok.fresh (ak _)),λ y c e=>?freeC,λ p hp=>absurd (show p∈([]:yA)from hp) (by simp),(J.hok.drop hc).kept hk,?len⟩
 case inj =>
  rcases lk y c a with a|⟨_,a⟩<;>rcases lk z c b with b|⟨_,b⟩
  .exact gG x.apart (aF a) (aF b)
  .exact absurd (eB (own _ _ a) (a0 _ _ b)) (bE _)
  .exact absurd (eB (own _ _ b) (a0 _ _ a)) (bE _)
  .exact inj y z c a b
 case has =>
  have hy:scope.names.lookup y=some .cell\/scope.names.lookup y=some .free:=hy
  rcases hy with hy|hy
  .obtain⟨c,e⟩:=qu (n:=s.heap.objs.size+1) hy
   refine⟨c,?_⟩
   show(aP (s.heap.objs.size+1) scope.names h).lookup y=some c
   rw[zx,zZ,e];rfl
  .obtain⟨c,e⟩:=a3 y hy
   exact⟨c,hx y c e hy⟩
 case cab =>
  have hy:(scope.names.lookup y==some .cell)=true:=hy
  have a4:scope.names.lookup y=some .cell:=by simpa using hy
  rcases lk y c e with a|⟨a,_⟩
  .exact dE (own y c a)
  .obtain⟨d,q⟩:=qu (n:=s.heap.objs.size+1) a4
   rw[q]at a;cases a
 case loc =>
  have a1:ps.Nodup:=by have:=S.nd;rw[S.app]at this;exact(List.nodup_append.mp this).1
  by_cases hi:i<vs.length
  .have ha:vs[i]?=some v:=by
    rw[ax (by simpa using hi),av]at q2
    cases e:vs[i]? with
    | none=>rw[e]at q2;cases q2
    | some a=>rw[e]at q2;cases q2;rfl
   obtain⟨u,hu,rv⟩:=r.get ha
   have hp:ps[i]?=some y:=by
    have Y:N[i]?=some y:=q1
    rw[S.app,ax (by lia)]at Y;exact Y
   refine⟨u,rv,?_⟩
   rcases S.par y (aL hp)with k|k
   .exact .inl ⟨k,as5 a1 hp hu k⟩
   .obtain⟨c,e⟩:=qu (n:=s.heap.objs.size+1) k
    refine .inr ⟨.inl k,c,?_,?_⟩
    .show(aP (s.heap.objs.size+1) scope.names h).lookup y=some c
     rw[zx,zZ,e];rfl
    .have q:=x.cell y c e
     rw[ap1 a1 hp hu (by show scope.names.lookup y≠_;rw[k];decide)]at q
     exact q
  .have hf:fr[i - vs.length]?=some y:=by
    have Y:N[i]?=some y:=q1
    rw[S.app,am (by lia)]at Y;rw[hl];exact Y
   have hv:cap[i - vs.length]?=some v:=by
    rw[am (by simpa using hi),av,aD]at q2
    cases e:cap[i - vs.length]? with
    | none=>rw[e]at q2;cases q2
    | some a=>rw[e]at q2;cases q2;rfl
   obtain⟨c,o,u,e1,e2,e3,e4⟩:=a2 _ y v hf hv
   have kf:=S.frs y (aL hf)
   refine⟨u,e4,.inr ⟨.inr kf,c,hx y c e1 kf,?_⟩⟩
   exact⟨o,hk c o (J.hok c _ e2).1,e3⟩
 case cell =>
  rcases lk y c e with a|⟨_,a⟩
  .exact⟨_,x.cell y c a⟩
  .obtain⟨o,v,q,d⟩:=hc y c a
   exact⟨v,o,hk c o (J.hok c _ q).1,d⟩
 case freeC =>
  rcases lk y c e with a|⟨_,a⟩
  .exact dn c (J.hok.fresh (dE (own y c a)))
  .exact ae9.cell (ah4.mpr ⟨y,a⟩)
 case len =>
  show _=N.length
  rw[S.app]
  simp[hl,a5]
theorem bn0 {s s':ah}(hok:HOk P w H s.heap)(hc:Cells h H)(frf:∀ b∈frs G,H b=none)
  (un:Un (frs G) [] (ae9 h H) H' s.heap s'.heap) (Z:HOk P w H' s'.heap):Un (frs G) [] H (Put h H H') s.heap s'.heap/\HOk P w (Put h H H') s'.heap:=by
 have nc:∀ b,H b=none->isC h b≠true:=λ b e y=>by
  obtain⟨o,v,q,_⟩:=hc.at y
  rw[e]at q;cases q
 have Y:∀ c u,H c=some u->(∀ o v,u≠.frz o v)->isC h c≠true:=λ c u q d y=>by
  obtain⟨o,v,q',_⟩:=hc.at y
  rw[q]at q';cases q'
  exact d _ _ rfl
 have J:∀ b,isC h b=true->H' b=none:=λ b y=>by
  obtain⟨o,v,q,_⟩:=hc.at y
  exact un.free b o (hok b _ q).1 (ae9.cell y) (by simp)
 refine⟨⟨λ b o e n hb hx=>un.keep b o e (ae9.none n) hb hx,λ b o e n hb hx=>un.slot b o e (ae9.none n) hb hx,λ b o e n hx=>?_,λ b o e hx=>un.there b o e hx,λ b xs e=>?_,λ b o u e=>?_,λ b ps e=>?_⟩,λ b o e=>?_⟩
 .rw[Put.ne (nc b n)];exact un.free b o e (ae9.none n) hx
 .have z:=Y b _ e λ _ _=>by nofun
  rw[Put.ne z];exact un.tups b xs (by rw[ae9.ne z];exact e)
 .by_cases z:isC h b=true
  .rw[Put.cell z];exact e
  .rw[Put.ne z];exact un.frzs b o u (by rw[ae9.ne z];exact e)
 .have z:=Y b _ e λ _ _=>by nofun
  rw[Put.ne z];exact un.tbls b ps (by rw[ae9.ne z];exact e)
 .by_cases z:isC h b=true
  .rw[Put.cell z]at e
   obtain⟨ob,v,q,d⟩:=hc.at z
   rw[q]at e;cases e
   have g:=(hok b _ q).1
   have g':=un.keep b ob g (ae9.cell z) (λ y=>by rw[frf b y]at q;cases q) (by simp)
   exact⟨g',ob,g'⟩
  .rw[Put.ne z]at e
   have np:∀ c u,H' c=some u->Put h H H' c=some u:=λ c u q=>by
    rw[Put.ne λ y=>by rw[J c y]at q;cases q];exact q
   exact(Z b o e).stay (λ _ _ _ q=>q) (λ c q=>np c _ q) λ c xs q=>np c _ q
structure ClOk (P:aK)(w:World)(K:af)(mg:yC)(base:Heap)(k:Nat)(R:Hp->Prop)(f:Addr)(sp:Sp):Prop where
 run:∀(A:aV) (outer:List Env) (s:ah) (H:Hp) (us:yG) (vs:List V) (Q:VK),Room k A->Env0 P w K mg base A outer s H->R H->Vals vs us->sp vs H Q E0 ->
  fR (model P w) A (.call (.ref f) ⟨us,[]⟩) (CR CX0 outer P w H s Q E0) s
theorem ClOk.ofFn {K}(F:FnOk P w K mg base CX0 k f J ps sp)(hb:Binds K J ps []):ClOk P w K mg base k (λ _=>True) f sp :=
 ⟨λ A y s H us vs Q Y G _ r h=>by
  have hl:=F.len _ _ _ _ h
  have:=hb s us (G.mod.kin.keeps λ b o e=>(G.bs b o e).1) (by rw[bf,<-r.length];exact hl)
  rw[bf]at this
  exact F.run A y s H ⟨us,[]⟩ us vs Q E0 Y G this r h⟩
def aD0 (H:Hp)(f:Addr)(qual:Str)(params:bp)(body:Expr)(scope:Scope)(fr:yH)(cap:List V)(clos:yB):Prop :=
 ∃ pm c' ctv,H f=some (ay5 f (bR "<lambda>" qual params body scope clos pm (.ref c') ctv))/\H c'=some (qR c' qual)/\Cells clos H /\
  (∀ x y c,clos.lookup x=some c->clos.lookup y=some c->x=y)/\(∀ x,scope.names.lookup x=some .free->∃ c,clos.lookup x=some c)/\Cap clos H fr cap
def BM (mg:yC)(base:Heap):Prop:=∃ bm ob,mg "__builtins__"=some (.ref bm)/\bm≠gD/\base.get? bm=some ob/\ob.cls=.type "module"/\ob.dict=some gD/\ob.data=.plain
def cx4 (cells:yB)(P:Addr)(qual:Str)(params:bp)(body:Expr)(scope:Scope)(pos:Pos):TE:=λ _ H Q =>
 ∃ ps:Array Value,H P=some (.tbl ps)/\iz ps.toList /\
  (c7 pos ps.toList=none->∀ c' f pm ctv,H c'=none->H f=none->c'≠f ->
   Q (.ref f) (upd (upd (upd H P (.tbl (ps++#[cO pos.line,cO pos.col,.ref c']))) c' (qR c' qual)) f (ay5 f (bR "<lambda>" qual params body scope (ag5 cells scope.names []) pm (.ref c') ctv)))) /\
  (∀ cv,c7 pos ps.toList=some cv->∃ c',cv=.ref c'/\∀ f pm ctv,H f=none->Q (.ref f) (upd H f (ay5 f (bR "<lambda>" qual params body scope (ag5 cells scope.names []) pm (.ref c') ctv))))
noncomputable def lamCheck (scope xs:Scope):Bool:=scope.names.all λ y=>!(y.2==.free)||(xs.names.lookup y.1==some .cell||xs.names.lookup y.1==some .free)
theorem bj0 (Z:X.env.code=.ref c)(Cc:bS X.base c P)(hB:BM X.mg X.base)
  (c3:lamCheck scope X.env.scope=true) (a4:kU params X.env=([],[]):=by rfl) :
  PE X (.Lambda params body scope pos) (cx4 X.env.cells P (X.env.qual ++ "<lambda>") params body scope pos):=by
 intro d1 s W H Q I h
 have c1:∀ y∈scope.names,y.2=.free->X.env.kindOf y.1=some .cell\/X.env.kindOf y.1=some .free:=λ y hy e=>by
  have z:=aX.mp c3 y hy
  have z':=by simpa [e]using z
  exact z'
 obtain⟨ps,hP,ht,a6,a5⟩:=h
 refine PySem.W.kla_eval a4 ?_
 have a2:=qK λ y hy e=>I.ok.has y.1 (c1 y hy e)
 have oP:=I.hok P _ hP
 have a0:=I.mod.glob.keeps I.bk
 have hC:=Cc.keeps I.bk
 have c4:aY≠P:=λ q=>by
  obtain⟨o,es,ep,e,d,_⟩:=a0
  rw[q,oP]at e;cases e;cases d
 have hb:s.heap.BuiltinsAt X.mg P:=by
  obtain⟨bm,ob,b1,b2,b3,b4,b5,b6⟩:=hB
  refine⟨bm,ob,b1,b2,λ q=>?_,λ q=>?_,I.bk _ _ b3,b4,b5,b6⟩
  .obtain⟨o,es,ep,e,d,_⟩:=I.mod.glob
   rw[q,e]at b3;cases b3;rw[d]at b6;cases b6
  .have e:=I.bk _ _ b3
   rw[q,oP]at e;cases e;cases b4
 cases q:c7 pos ps.toList with
 | none =>
  refine PySem.W.kla_makeFunction a2 I.ok.glob a0 Z hC oP ht q c4 hb λ G J h' tk hx hge hlt a9 a7=>?_
  have a8:=aI oP
  have b0:=bV (ar a8 hge)
  have c0:=bV (eB (ar a8 hge) hlt)
  have d0:=aA hlt
  have hsz:=ao hge (dE hlt)
  have nP:∀ b,H b=none->b≠P:=λ b n z=>by rw[z,hP]at n;cases n
  have lt:∀ b o,H b=some o->b≠G/\b≠h'.objs.size:=λ b o e=>⟨aA (ar (I.hok.lt e) hge),aA (ar (I.hok.lt e) hsz)⟩
  have a3:∀ b o,s.heap.get? b=some o->b≠G/\b≠h'.objs.size:=λ b o e=>⟨aA (ar (aI e) hge),aA (ar (aI e) hsz)⟩
  have keep:∀ b o,b≠P->s.heap.get? b=some o->(h'.push (PySem.W.kla_obj "<lambda>" (X.env.qual ++ "<lambda>") params body scope (ag5 X.env.cells scope.names []) ((X.mg "__name__").getD .none) G J)).get? b=some o:=λ b o n e=>ag _ (hx b o n e)
  have Y:∀ b,b≠P->b≠G->b≠h'.objs.size->∀ o1 o2 o3,upd (upd (upd H P o1) G o2) h'.objs.size o3 b=H b:=λ b n1 n2 n3 o1 o2 o3=>by rw[zm n3,zm n2,zm n1]
  refine⟨.ref h'.objs.size,upd (upd (upd H P (.tbl (ps++#[cO pos.line,cO pos.col,.ref G]))) G (qR G (X.env.qual ++ "<lambda>"))) h'.objs.size (ay5 h'.objs.size (bR "<lambda>" (X.env.qual ++ "<lambda>") params body scope (ag5 X.env.cells scope.names []) ((X.mg "__name__").getD .none) (.ref G) J)),I.un ⟨λ b o e n _ _=>keep b o (nP b n) e,λ b o e n _ _=>⟨o.slots,keep b o (nP b n) e⟩,λ b o e n _=>?fr,λ b o e _=>?th,λ b xs e=>?tu,λ b o u e=>?fz,λ b qs e=>?tb⟩ ?ok,rfl,a6 q G h'.objs.size _ J (I.hok.fresh hge) (I.hok.fresh hsz) d0⟩
  case fr=>rw[Y b (nP b n) (a3 b o e).1 (a3 b o e).2];exact n
  case th =>
   by_cases z:b=P
   .subst z;exact⟨_,ag _ a7⟩
   .exact⟨o,keep b o z e⟩
  case tu=>rw[Y b (λ z=>by rw[z,hP]at e;cases e) (lt b _ e).1 (lt b _ e).2];exact e
  case fz=>rw[Y b (λ z=>by rw[z,hP]at e;cases e) (lt b _ e).1 (lt b _ e).2];exact e
  case tb =>
   by_cases z:b=P
   .subst z
    rw[hP]at e;cases e
    exact⟨#[cO pos.line,cO pos.col,.ref G],by rw[zm (cb c0),zm (cb b0),zo]⟩
   .exact⟨#[],by rw[Y b z (lt b _ e).1 (lt b _ e).2,e];simp⟩
  case ok =>
   intro b o e
   by_cases zf:b=h'.objs.size
   .subst zf
    rw[zo]at e;cases e
    exact aA8 (aH _ rfl)
   .rw[zm zf]at e
    by_cases zc:b=G
    .subst zc
     rw[zo]at e;cases e
     obtain⟨c2,oc,vs,t,e1,e2,e3⟩:=a9
     exact aO9 ⟨c2,oc,vs,t,e1,ag _ e2,e3⟩
    .rw[zm zc]at e
     by_cases zp:b=P
     .subst zp
      rw[zo]at e;cases e
      exact ag _ a7
     .rw[zm zp]at e
      have a1:∀ d u,H d=some u->(∀ ps,u≠.tbl ps)->upd (upd (upd H P (.tbl (ps++#[cO pos.line,cO pos.col,.ref G]))) G (qR G (X.env.qual ++ "<lambda>"))) h'.objs.size (ay5 h'.objs.size (bR "<lambda>" (X.env.qual ++ "<lambda>") params body scope (ag5 X.env.cells scope.names []) ((X.mg "__name__").getD .none) (.ref G) J)) d=some u:=λ d u e nt=>by
       rw[Y d (λ z=>by rw[z,hP]at e;cases e;exact nt _ rfl) (lt d _ e).1 (lt d _ e).2];exact e
      refine(I.hok b o e).stay (λ d u hd q=>keep d u ?_ q) (λ d q=>a1 d _ q λ _=>by nofun) λ d xs q=>a1 d _ q λ _=>by nofun
      rintro rfl
      rcases hd with hd|hd
      .exact zp hd.symm
      .rw[hP]at hd;cases hd
 | some cv =>
  obtain⟨G,rfl,hq⟩:=a5 cv q
  refine PySem.W.kla_makeFunctionHit a2 I.ok.glob a0 Z hC oP ht q hb λ J h' tk hk hsz=>?_
  refine⟨.ref h'.objs.size,_,I.laid (λ b o e=>ag _ (hk b o e)) hsz (aA8 (aH _ rfl)),rfl,hq h'.objs.size _ J (I.hok.fresh hsz)⟩
structure Caught (cl:yB)(N:yH)(kd:Str->Option bQ)(W:St)(H1 H2:Hp):Prop where
 ne:∀ b,isC cl b≠true->H2 b=H1 b
 free:∀ b,isC cl b=true->H1 b=none
 cells:Cells cl H2
 cap:∀(i:Nat) (x:Str) (v:V) (c:Addr),N[i]?=some x->W[i]?=some (some v)->(kd x=some .cell\/kd x=some .free)->cl.lookup x=some c->∃ o u,H2 c=some (.frz o (.own c))/\o.data=.cell (some u)/\RelV v u
 inj:∀ x y c,cl.lookup x=some c->cl.lookup y=some c->x=y
def ck1 (cl:yB)(N:yH)(kd:Str->Option bQ)(sp:Sp)(t:TA):TE:=λ W H Q=>t W H λ vs H1=>∀ H2,Caught cl N kd W H1 H2->sp vs H2 (λ v H3=>Q v (ae9 cl H3)) E0
theorem bR1 {W:St}{us:yG}(F:FnOk X.prog X.w X.K X.mg X.base CX0 k f fd ps sp)(hr:Room k X.A)(hb:Binds X.K fd ps [])
  (a7:∀ x,X.fn x=true) (I:Inv X Y W H s) (r:Vals vs us) (h:∀ H2,Caught X.env.cells X.N X.env.kindOf W H H2->sp vs H2 (λ v Z=>Q v (ae9 X.env.cells Z)) E0):wpAny (model X.prog X.w) X.A (call (.ref f) us) (EP X Y W Q) X.xe s:=by
 let H2:Hp:=λ b=>if isC X.env.cells b=true then(s.heap.get? b).map λ o=>.frz o (.own b)else H b
 have G:∀ b,isC X.env.cells b≠true->H2 b=H b:=λ b z=>if_neg z
 have J:∀ b,isC X.env.cells b=true->∃ o v,s.heap.get? b=some o/\o.data=.cell v/\H2 b=some (.frz o (.own b)):=λ b z=>by
  obtain⟨x,e⟩:=ah4.mp z
  obtain⟨v,o,g,d⟩:=I.cell x b e
  exact⟨o,v,g,d,by show(if _ then _ else _)=_;rw[if_pos z,g];rfl⟩
 have fr:∀ b,isC X.env.cells b=true->H b=none:=λ b z=>by
  obtain⟨x,e⟩:=ah4.mp z
  exact I.freeC x b e
 have up:∀ b,isC X.env.cells b=true->X.s₀.heap.objs.size<=b:=λ b z=>by
  obtain⟨x,e⟩:=ah4.mp z
  exact I.ok.cab x b (a7 x) e
 have a0:∀ b o,X.s₀.heap.get? b=some o->isC X.env.cells b≠true:=λ b o e z=>absurd (ar (aI e) (up b z)) (bE _)
 have a2:∀ b∈frs X.stack,isC X.env.cells b≠true:=λ b hb z=>by
  rcases aB.mp (I.stkSub b hb)with e|hb
  .obtain⟨x,e2⟩:=ah4.mp z
   exact I.cne x b e2 e
  .obtain⟨_,o,ho,_⟩:=I.ok.funs.mem hb
   exact a0 b o ho z
 have a6:HOk X.prog X.w H2 s.heap:=λ b o e=>by
  by_cases z:isC X.env.cells b=true
  .obtain⟨ob,v,g,d,q⟩:=J b z
   rw[q]at e;cases e
   exact⟨g,ob,g⟩
  .rw[G b z]at e
   have np:∀ c u,H c=some u->H2 c=some u:=λ c u q=>by rw[G c λ y=>by rw[fr c y]at q;cases q];exact q
   exact(I.hok b o e).stay (λ _ _ _ q=>q) (λ c q=>np c _ q) λ c xs q=>np c _ q
 have nb:∀ b o,X.base.get? b=some o->isC X.env.cells b≠true:=λ b o e=>a0 b o (I.ok.bs b o e).1
 have e0:Env0 X.prog X.w X.K X.mg X.base X.A X.stack s H2:=⟨I.ok.frames,I.ok.mod,λ b o e=>⟨(I.bs b o e).1,by rw[G b (nb b o e)];exact(I.bs b o e).2⟩,ao I.ok.bsz I.sz,I.stack,λ b hb=>by rw[G b (a2 b hb)];exact I.stkFree b hb,a6,I.bare⟩
 have ca:Caught X.env.cells X.N X.env.kindOf W H H2:=⟨G,fr,λ x c e=>by
   obtain⟨o,v,g,d,q⟩:=J c (ah4.mpr ⟨x,e⟩)
   exact⟨o,v,q,d⟩,λ i x v c e1 e2 e3 e4=>by
   obtain⟨m,hn,hl⟩:=I.loc
   have vis:Vis X.env.scope x:=e3.elim (λ z=>.inr (.inl z)) λ z=>.inr (.inr z)
   obtain⟨u,ru,lk⟩:=hl i x v e1 e2 vis
   rcases lk with⟨z,_⟩|⟨_,c2,z1,z2⟩
   .rcases e3 with y|y<;>(rw[z]at y;cases y)
   .rw[e4]at z1;cases z1
    obtain⟨o,w',g,d,q⟩:=J c (ah4.mpr ⟨x,e4⟩)
    obtain⟨o2,g2,d2⟩:=z2
    rw[g]at g2;cases g2
    exact⟨o,u,q,d2,ru⟩,I.ok.inj⟩
 have a1:=h H2 ca
 have hl:=F.len _ _ _ _ a1
 have a5:=hb s us I.kIn (by rw[bf,<-r.length];exact hl)
 rw[bf]at a5
 refine kQ (fq (F.run X.A X.stack s H2 ⟨us,[]⟩ us vs _ E0 hr e0 a5 r a1) λ r s' hq=>?_)
 cases r with
 | error e=>exact bI hq
 | ok fl =>
  cases fl with
  | next=>exact bI hq
  | brk=>exact bI hq
  | cont=>exact bI hq
  | ret u =>
   obtain⟨v,Z,os,bare,un,a3,rv,q⟩:=hq
   have a4:∀ b,isC X.env.cells b=true->∃ o,s.heap.get? b=some o/\s'.heap.get? b=some o/\Z b=some (.frz o (.own b)):=λ b z=>by
    obtain⟨o,v,g,d,q2⟩:=J b z
    have q3:=un.frzs b o _ q2
    exact⟨o,g,(a3 b _ q3).1,q3⟩
   have nz:∀ b u,H b=some u->isC X.env.cells b≠true:=λ b u e y=>by rw[fr b y]at e;cases e
   refine⟨v,_,I.call' (H':=ae9 X.env.cells Z) (ch:=[]) os ⟨λ b o e n hb hx=>?k,λ b o e n hb hx=>?sl,λ b o e n hx=>?fr,λ b o e hx=>un.there b o e hx,λ b xs e=>?tu,λ b o u e=>?fz,λ b ps e=>?tb⟩ (λ b o e=>?hok) bare (λ b z=>absurd z (by simp)),rv,q⟩
   case k =>
    by_cases z:isC X.env.cells b=true
    .obtain⟨o2,g,g',_⟩:=a4 b z
     rw[e]at g;cases g
     exact g'
    .exact un.keep b o e (by rw[G b z];exact n) hb hx
   case sl=>exact un.slot b o e (by rw[G b (a2 b hb)];exact n) hb hx
   case fr =>
    by_cases z:isC X.env.cells b=true
    .exact ae9.cell z
    .exact ae9.none (un.free b o e (by rw[G b z];exact n) hx)
   case tu =>
    rw[ae9.ne (nz b _ e)]
    exact un.tups b xs (by rw[G b (nz b _ e)];exact e)
   case fz =>
    rw[ae9.ne (nz b _ e)]
    exact un.frzs b o u (by rw[G b (nz b _ e)];exact e)
   case tb =>
    rw[ae9.ne (nz b _ e)]
    exact un.tbls b ps (by rw[G b (nz b _ e)];exact e)
   case hok =>
    obtain⟨z,e3⟩:=ae9.some e
    have np:∀ c u,Z c=some u->(∀ o w',u≠.frz o w')->ae9 X.env.cells Z c=some u:=λ c u q d=>by
     rw[ae9.ne λ y=>by obtain⟨o,_,_,q3⟩:=a4 c y;rw[q]at q3;cases q3;exact d _ _ rfl];exact q
    exact(a3 b o e3).stay (λ _ _ _ q=>q) (λ c q=>np c _ q λ _ _=>by nofun) λ c xs q=>np c _ q λ _ _=>by nofun
theorem aR4 {p pos}{es:yK}(F:FnOk X.prog X.w X.K X.mg X.base CX0 k f fd ps sp)(hr:Room k X.A)(hg:Gl X x)(hm:X.mg x=some (.ref f))(hk:cE X.K (.ref f)=true)(hb:Binds X.K fd ps [])
  (Y:∀ x,X.fn x=true) (ha:PA X (e::es) t) (G:(x==("__debug__":Str))=false:=by decide) (he:bu (e::es) X.env=(false,eval e X.env)::bu es X.env:=by rfl) (J:(d7 pos (bu es X.env)).any (·.1)=false:=by rfl) :
  PE X (.Call (.Name x p) (e::es) [] pos) (ck1 X.env.cells X.N X.env.kindOf sp t):=by
 intro y s W H Q I h
 refine cC (ax8 I hg hm ?_ G)
 refine i3 I.ok.mod.kin hk (thn (ha pos y s W H _ I h) λ us s1 ⟨vs,H1,Z,r,q⟩=>⟨Z.kIn,?_⟩) he J
 exact bR1 F hr hb Y Z r q
def bL2 (K:af)(H:Hp)(f:Addr):Prop:=(∃ fd,H f=some (ay5 f fd))\/∃ oc od fd sl,K.lookup f=some ⟨oc,od,.func fd,sl⟩
theorem bL2.at {W:St}(h:bL2 X.K H f)(I:Inv X y W H s):PySem.W.FnAt f s.heap:=by
 rcases h with⟨G,h⟩|⟨oc,od,G,sl,h⟩
 .exact⟨_,_,_,_,az5 I.hok h⟩
 .exact⟨_,_,_,_,I.kIn _ _ h⟩
def bV7 (P:aK)(w:World)(K:af)(mg:yC)(base:Heap)(k:Nat)(i:Nat)(t:TA):TE:=λ W H Q=>∃ f,W[i]?=some (some (.ref f))/\bL2 K H f/\t W H λ vs H1=>bL2 K H1 f/\∃ R sp,ClOk P w K mg base k R f sp/\R H1/\sp vs H1 Q E0
theorem cg3 {W:St}{us:yG}(F:ClOk X.prog X.w X.K X.mg X.base k R f sp)(J:Room k X.A)(I:Inv X y W H s)(G:R H)(r:Vals vs us)(h:sp vs H Q E0) :
  wpAny (model X.prog X.w) X.A (call (.ref f) us) (EP X y W Q) X.xe s:=by
 refine kQ (fq (F.run X.A X.stack s H us vs Q J I.env0 G r h) λ r s' hq=>?_)
 cases r with
 | error e=>exact bI hq
 | ok fl =>
  cases fl with
  | ret u=>exact I.after hq
  | next=>exact bI hq
  | brk=>exact bI hq
  | cont=>exact bI hq
theorem bx3 {X:Cx}{K}{mg:yC}{ pos}{es:yK}(hP:X.prog=P)(hw:X.w=w)(hK:X.K=K)(Y:X.mg=mg)(G:X.base=base)(hr:Room k X.A)(hv:PE X (.Name x p) (bF3 i))(ha:PA X (e::es) t)
  (he:bu (e::es) X.env=(false,eval e X.env)::bu es X.env:=by rfl) (J:(d7 pos (bu es X.env)).any (·.1)=false:=by rfl) :
  PE X (.Call (.Name x p) (e::es) [] pos) (bV7 P w K mg base k i t):=by
 subst hP hw hK Y G
 intro y s W H Q I h
 obtain⟨f,hW,hf,ht⟩:=h
 refine cC (thn (hv y s W H (λ v H'=>v=.ref f/\H'=H) I ⟨.ref f,hW,rfl,rfl⟩) λ u s0 ⟨v,H0,I0,r0,ev,eH⟩=>?_)
 subst ev
 subst eH
 cases r0
 exact PySem.W.callWith_F (hf.at I0) (thn (ha pos y s0 W H0 _ I0 ht) λ us s1 ⟨vs,H1,Z,r,hF,R,sp,F,hR,q⟩=>⟨hF.at Z,cg3 F hr Z hR r q⟩) he J
noncomputable def aE2 (K:af)(names:yH):List (Str×Addr×Addr):=names.filterMap λ x=>(bo K x).map λ p=>(x,p)
theorem av0 {K}:y∈aE2 K names↔y.1∈names/\bo K y.1=some y.2:=by
 unfold aE2
 rw[cB]
 constructor
 .rintro⟨x,hx,e⟩
  obtain⟨p,h,rfl⟩:=dg.mp e
  exact⟨hx,h⟩
 .rintro⟨hx,e⟩
  exact⟨y.1,hx,by rw[e];rfl⟩
def bT7 (K:af)(names:yH)(base:Heap):Prop:=∀ x∈names,∀ c P,bo K x=some (c,P)->bS base c P
def bH3 (K:af)(names:yH)(H:Hp):Prop:=∀ x∈names,∀ c P,bo K x=some (c,P)->H P=some (.tbl #[])
noncomputable def cd4 (K:af)(names:yH)(ts:List Addr):Bool:=names.all λ x=>match bo K x with
 | some (c,P)=>kr K c P&&ts.contains P
 | none=>true
theorem aC4 {K}(h:(bo K x).isSome=true):bo K x=some (((bo K x).getD (0,0)).1,((bo K x).getD (0,0)).2):=by
 obtain⟨p,e⟩:=f8.mp h
 rw[e]
 rfl
def ck6 (H:Hp)(P:Addr)(q:Str):Prop:=∃ ps:Array Value,H P=some (.tbl ps)/\iz ps.toList/\∀ pos cv,c7 pos ps.toList=some cv->∃ c',cv=.ref c'/\H c'=some (qR c' q)
def TabsH (T:List (Addr×Str))(H:Hp):Prop:=∀ y∈T,ck6 H y.1 y.2
def bn7 (H H':Hp):Prop:=∀ b o,(∀ ps,o≠.tbl ps)->H b=some o->H' b=some o
theorem bn7.of (a:ai0 H y):bn7 H y:=λ c o _ h=>a c o h
theorem TabsH.keep (h:TabsH T H)(k:∀ b o,(∀ J,o≠.J J)->H b=some o->H' b=some o):TabsH T H':=λ y hy=>by
 obtain⟨ps,e,t,c⟩:=h y hy
 refine⟨ps,k _ _ (λ _=>by nofun) e,t,λ pos Y q=>?_⟩
 obtain⟨G,e1,e2⟩:=c pos Y q
 exact⟨G,e1,k _ _ (λ _=>by unfold qR;nofun) e2⟩
theorem TabsH.same (h:TabsH T H)(s:ai0 H H'):TabsH T H':=h.keep λ b o _ e=>s b o e
theorem TabsH.new (h:TabsH T H)(n:H a=none):TabsH T (upd H a o):=h.same ((ai0.refl H).new n)
theorem TabsH.put (h:TabsH T H)(n:H a=some (.J y)):TabsH T (upd H a o):=h.keep λ b u d e=>by
 rw[zm λ z=>by subst z;rw[n]at e;cases e;exact d _ rfl];exact e
theorem TabsH.init (h:∀ p∈T.map (·.1),H p=some (.tbl #[])):TabsH T H:=λ y hy =>
 ⟨#[],h _ (bw hy),trivial,λ pos G e=>by simp[c7]at e⟩
theorem codeAmong_add :∀(l:yG),iz l->c7 pos (l++[cO a,cO b,c])=some G->c7 pos l=some G\/G=c:=by
 intro l
 fun_induction iz l with
 | case1 =>
  intro _ e
  simp only[dT,c7,cO]at e
  split at e
  .exact .inr (aw e).symm
  .cases e
 | case2 x t y u z rest ih =>
  intro h e
  simp only[c6,c7]at e ⊢
  split at e
  .rename_i q
   left;rw[if_pos q];exact e
  .rename_i q
   rw[if_neg q];exact ih h e
 | case3 l h1 h2=>intro h;exact h.elim
theorem bv0 (Z:Caught cells N kd W H1 H2)
  (hf:∃ pm J h,H1 f=some (ay5 f (bR "<lambda>" q params body scope (ag5 cells scope.names []) pm (.ref J) h))/\H1 J=some (qR J q))
  (Y:∀ x,scope.names.lookup x=some .free->∃ c,cells.lookup x=some c)
  (G:∀(i:Nat) (x:Str) (v:V),fr[i]?=some x->cap[i]?=some v->scope.names.lookup x=some .free/\(kd x=some .cell\/kd x=some .free)/\∃ j:Nat,N[j]?=some x/\W[j]?=some (some v)) :
  aD0 H2 f q params body scope fr cap (ag5 cells scope.names []):=by
 obtain⟨pm,J,h,h1,h2⟩:=hf
 have up:∀ b o,H1 b=some o->H2 b=some o:=λ b o e=>by
  rw[Z.ne b λ z=>by rw[Z.free b z]at e;cases e];exact e
 have sub:∀ x c,(ag5 cells scope.names []).lookup x=some c->cells.lookup x=some c:=λ x c e=>by
  rcases clOf_mem (aF e)with z|z
  .exact z
  .exact absurd z (by simp)
 refine⟨pm,J,h,up _ _ h1,up _ _ h2,λ x c e=>Z.cells x c (sub x c e),λ x y c e1 e2=>Z.inj x y c (sub x c e1) (sub y c e2),λ x k=>?_,λ i x v e1 e2=>?_⟩
 .obtain⟨c,e⟩:=Y x k
  exact⟨c,qQ e (aF k)⟩
 .obtain⟨k,kk,j,e3,e4⟩:=G i x v e1 e2
  obtain⟨c,e⟩:=Y x k
  obtain⟨o,u,e5,e6,e7⟩:=Z.cap j x v c e3 e4 kk e
  exact⟨c,o,u,qQ e (aF k),e5,e6,e7⟩
theorem Caught.same {cells}(y:Caught cells N kd W h H2):ai0 h H2:=λ b o e=>by
 rw[y.ne b λ z=>by rw[y.free b z]at e;cases e];exact e
theorem Fun.okC {K}{st}(F:Fun K x qual st f Z)(J:Z.code=.ref c)(S:FnScope N ps (defScope st))(len:∀ vs H Q E,sp vs H Q E->vs.length=ps.length)
  (G:∀(A:aV) (y:List Env) (s:ah) (H:Hp) (vs:List V) (Q:VK) (E:XK),Room k (A.deeper (fC qual (defScope st) s.heap.objs.size f (.ref c)))->sp vs H Q E ->
   ∃ t,PSs (bv2 CX0 P w K mg base N qual (defScope st) f (.ref c) A y s H E).nox (qc st) t/\t { nx:=λ _ H'=>Q .N H',rt:=Q } (al5 N vs) H):FnOk P w K mg base CX0 (k+1) f Z ps sp:=by
 obtain⟨oc,od,kV,a2,pm,an,a0,ct,a1,rfl,lk,hc⟩:=F.ex
 have e:=J
 subst e
 refine cd3 lk hc S len λ A y s H vs Q E hr Y=>?_
 obtain⟨t,h,q⟩:=G A y s H vs Q E hr Y
 exact⟨t,h.nox,q⟩
def rowO (r:List (Option Int)):D:=.tp (r.map cy5)
theorem bh2 {K}(hc:X.calm=true)(hK:X.K=K):af9 X (.builtin "min") (λ xs H Q=>∃ a ns,xs=[.ref a]/\SqL K H a (ns.map V.int)/\ns≠[]/\∀ m∈ns,(∀ y∈ns,m<=y)->Q (.int m) H):=by
 subst hK
 intro a2 s W H xs us Q I r h
 obtain⟨a,ns,rfl,hS,a0,q⟩:=h
 obtain⟨u,rfl,ru⟩:=aj8 r
 cases ru
 obtain⟨its,Y,pl,hz⟩:=I.list hS
 have hl:=Y.length
 rw[aD]at hl
 have a1:=iJ.mpr a0
 refine call_min_walk (d8 pl.isList ?_)
 have J:a<s.heap.objs.size:=by obtain⟨o,_,e,_⟩:=pl;exact aI e
 have Ww:=lK (prog:=X.prog) (w:=X.w) (A:=X.A.in1) (I.ok.hd hc) s.heap.objs.size a (aA J) its.toArray
 let val:=λ i=>ns.getD i 0
 have G:∀ i v,its.toArray[i]?=some v->∃ t,v=Value.int (val i) t:=λ i v e=>by
  obtain⟨z,t,e1,e2⟩:=aC0 Y (by rw[du]at e;exact e)
  refine⟨t,?_⟩
  rw[e2]
  show Value.int z t=Value.int (ns.getD i 0) t
  rw[aN,e1]
  rfl
 refine⟨_,_,_,_,_,_,_,rfl,Ww,⟨⟨_,aH _ rfl,rfl,rfl⟩,?_⟩,λ b hb=>?_,by rw[ay];lia,ln val G,λ v h' tk hP k=>?_⟩
 .obtain⟨o,e,r⟩:=pl.isList
  exact⟨o,ag _ e,r⟩
 .skip
  rw[bK]
  rcases aB.mp hb with z|z
  .rw[z];exact dH _
  .have Z:=by simpa using z
   rw[Z];exact fU J
 .obtain⟨z,t,e1,e2⟩:=aC0 Y (by rw[du]at hP;exact hP)
  subst e2
  have hv:val (dG (λ i j=>decide (val i<val j)) (its.toArray.size - 1))=z:=by
   show ns.getD _ 0=z
   rw[aN,e1]
   rfl
  refine⟨.int z,H,I.kept λ b o q=>k b o ?_ (ag _ q),⟨t,rfl⟩,q z (aL e1) λ y hy=>?_⟩
  .intro z
   have Z:=by simpa using z
   exact absurd (aI q) (by rw[Z];exact bE _)
  .obtain⟨j,hj,e3⟩:=dD.mp hy
   have:=jT val (its.toArray.size - 1) j (by simp only[ay];lia)
   rw[hv]at this
   have e4:val j=y:=by
    show ns.getD j 0=y
    rw[aN,aj hj]
    exact e3
   lia
noncomputable def mx (a b:Int):Int:=if b > a then b else a
theorem bu1 :mx a b<=x↔a<=x/\b<=x:=by unfold mx;split<;>omega
noncomputable def sgn (s:Nat->Nat->Int):Nat->Nat->Option Int:=λ i j=>some (s i j)
def aN9 (n:Nat)(s t:Nat->Nat->Int)(i j:Nat):Int:=(minO ((ai n).map λ k=>mx (s i k) (t k j))).getD 3
theorem bc3 (h:minO l=some m):m<=x↔∃ y∈l,y<=x:=by
 obtain⟨G,J⟩:=aI4 h
 exact⟨λ z=>⟨m,G,z⟩,λ⟨y,hy,z⟩=>cw (J y hy) z⟩
theorem aD4 (h:l≠[]):∃ m,minO l=some m:=by
 cases e:minO l with
 | none=>exact absurd (am3.mp e) h
 | some m=>exact⟨m,rfl⟩
theorem ao6 (hn:1<=n):aN9 n s t i j<=x↔∃ k,k<n/\s i k<=x/\t k j<=x:=by
 obtain⟨m,h⟩:=aD4 (l:=(ai n).map λ k=>mx (s i k) (t k j)) (by
  intro z
  have:=congrArg ie z
  rw[aD,cX]at this
  simp at this
  lia)
 unfold aN9
 rw[h]
 show m<=x↔_
 rw[bc3 h]
 constructor
 .rintro⟨y,hy,hx⟩
  obtain⟨k,hk,rfl⟩:=az.mp hy
  exact⟨k,bq.mp hk,bu1.mp hx⟩
 .rintro⟨k,hk,hx⟩
  exact⟨_,az.mpr ⟨k,bq.mpr hk,rfl⟩,bu1.mpr hx⟩
theorem an7 { b:Int}(h:∀ x,a<=x↔b<=x):a=b:=by
 have y:=(h b).mpr (cy _)
 have G:=(h a).mp (cy _)
 lia
theorem bv6 (hn:1<=n)(h:∀ i j,i<n->j<n->0<=s i j/\s i j<=3)(h':∀ i j,i<n->j<n->0<=t i j/\t i j<=3)(y:i<n)(hj:j<n):0<=aN9 n s t i j/\aN9 n s t i j<=3:=by
 constructor
 .obtain⟨k,hk,G,J⟩:=(ao6 hn (s:=s) (t:=t) (i:=i) (j:=j)).mp (cy _)
  have:=h i k y hk
  lia
 .exact(ao6 hn).mpr ⟨0,by lia,(h i 0 y (by omega)).2,(h' 0 j (by omega) hj).2⟩
section
variable {X:Cx}
end
def mx3 (a b c:Int):Int:=mx (mx a b) c
theorem bC7 :mx3 a b c<=x↔a<=x/\b<=x/\c<=x:=by unfold mx3;rw[bu1,bu1,and_assoc]
theorem bm7 (hc:X.calm=true):af9 X (.builtin "max") (λ y H Q=>∃ i j k,y=[.int i,.int j,.int k]/\Q (.int (mx3 i j k)) H):=by
 intro G s W H y us Q I r h
 obtain⟨i,j,k,rfl,q⟩:=h
 cases r with
 | cons r1 r =>
  cases r with
  | cons r2 r =>
   cases r with
   | cons r3 r =>
    cases r
    obtain⟨Y,rfl⟩:=r1
    obtain⟨Z,rfl⟩:=r2
    obtain⟨t3,rfl⟩:=r3
    refine max_three_ints (I.ok.hd hc) λ h' tk J=>⟨_,H,I.kept J,?_,q⟩
    unfold mx3 mx
    by_cases h1:j > i
    .rw[if_pos h1,if_pos h1]
     by_cases h2:k > j
     .rw[if_pos h2,if_pos h2];exact⟨_,rfl⟩
     .rw[if_neg h2,if_neg h2];exact⟨_,rfl⟩
    .rw[if_neg h1,if_neg h1]
     by_cases h2:k > i
     .rw[if_pos h2,if_pos h2];exact⟨_,rfl⟩
     .rw[if_neg h2,if_neg h2];exact⟨_,rfl⟩
theorem bB5:∀ B (f:Nat->Nat),(∀ i,i<=B->f i<B)->∃ i j,i<j/\j<=B/\f i=f j
 | 0,f,h=>absurd (h 0 (ak _)) (fe _)
 | B+1,f,h=>by
  by_cases hex:∃ i,i<=B/\f i=f (B+1)
  .obtain⟨i,G,e⟩:=hex
   exact⟨i,B+1,by lia,ak _,e⟩
  .have y:∀ i,i<=B->f i≠f (B+1):=λ i G e=>hex ⟨i,G,e⟩
   have hv:=h (B+1) (ak _)
   obtain⟨i,j,hij,hj,e⟩:=bB5 B (λ i=>if f i=B then f (B+1)else f i) (λ i G=>by
    have J:=h i (by lia)
    have Z:=y i G
    split
    .rename_i e;lia
    .lia)
   have e':=e
   refine⟨i,j,hij,by lia,?_⟩
   have Y:=y i (by lia)
   have n2:=y j (by omega)
   split at e'<;>split at e'<;>lia
def InT (n:Nat)(s:Nat->Nat->Int):Prop:=∀ i j,i<n->j<n->0<=s i j/\s i j<=3
def EqT (n:Nat)(s t:Nat->Nat->Int):Prop:=∀ i j,i<n->j<n->s i j=t i j
def pw (n:Nat)(s:Nat->Nat->Int):Nat->Nat->Nat->Int
 | 0=>s
 | m+1=>aN9 n (pw n s m) s
def Std (n:Nat)(s:Nat->Nat->Int):Prop:=EqT n (aN9 n s s) s
noncomputable def rnd (x:Int):Int:=if x=0\/x=3 then x else 2
def sharp (n:Nat)(s:Nat->Nat->Int)(i j:Nat):Int:=(minO ((ai n).map λ k=>mx3 (s i k) (rnd (s k k)) (s k j))).getD 3
theorem aC7 (hn:1<=n)(h:Std n s)(y:i<n)(hj:j<n):s i j<=x↔∃ k,k<n/\s i k<=x/\s k j<=x:=by
 rw[<-h i j y hj,ao6 hn]
theorem ba7 (hn:1<=n)(h:Std n s)(Z:i<n)(hj:j<n)(hx:s i j<=x):∃ k,k<n/\s i k<=x/\s k k<=x/\s k j<=x:=by
 have step:∀ k:{k:Nat // k<n/\s i k<=x/\s k j<=x},∃ l:{k:Nat // k<n/\s i k<=x/\s k j<=x},s k.1 l.1<=x:=λ⟨k,hk,Y,G⟩=>by
  obtain⟨l,hl,h3,h4⟩:=(aC7 hn h hk hj).mp G
  exact⟨⟨l,hl,(aC7 hn h Z hl).mpr ⟨k,hk,Y,h3⟩,h4⟩,h3⟩
 obtain⟨k0,hk0,Y,G⟩:=(aC7 hn h Z hj).mp hx
 let f:Nat->{k:Nat // k<n/\s i k<=x/\s k j<=x}:=λ m=>Nat.rec ⟨k0,hk0,Y,G⟩ (λ _ k=>Classical.choose (step k)) m
 have fs:=λ m=>Classical.choose_spec (step (f m))
 obtain⟨a,b,hab,_,e⟩:=bB5 n (λ m=>(f m).1) λ m _=>(f m).2.1
 have J:∀ d,s (f a).1 (f (a+d+1)).1<=x:=by
  intro d
  induction d with
  | zero=>exact fs a
  | succ d ih=>exact(aC7 hn h (f a).2.1 (f (a+(d+1)+1)).2.1).mpr ⟨(f (a+d+1)).1,(f (a+d+1)).2.1,ih,fs (a+d+1)⟩
 have e':=e
 have y:=J (b - a - 1)
 rw[show a+(b - a - 1)+1=b by omega,<-e']at y
 exact⟨(f a).1,(f a).2.1,(f a).2.2.1,y,(f a).2.2.2⟩
theorem ag7 (hn:1<=n):sharp n s i j<=x↔∃ k,k<n/\s i k<=x/\rnd (s k k)<=x/\s k j<=x:=by
 obtain⟨m,h⟩:=aD4 (l:=(ai n).map λ k=>mx3 (s i k) (rnd (s k k)) (s k j)) (by
  intro z
  have:=congrArg ie z
  rw[aD,cX]at this
  simp at this
  omega)
 unfold sharp
 rw[h]
 show m<=x↔_
 rw[bc3 h]
 constructor
 .rintro⟨y,hy,hx⟩
  obtain⟨k,hk,rfl⟩:=az.mp hy
  exact⟨k,bq.mp hk,bC7.mp hx⟩
 .rintro⟨k,hk,hx⟩
  exact⟨_,az.mpr ⟨k,bq.mpr hk,rfl⟩,bC7.mpr hx⟩
theorem bC4 (h:0<=y)(h3:y<=3):0<=rnd y/\rnd y<=3:=by unfold rnd;split<;>lia
theorem ax6 (hn:1<=n)(h:InT n s):InT n (sharp n s):=λ i j y hj=>by
 constructor
 .obtain⟨k,hk,G,_⟩:=(ag7 hn (s:=s) (i:=i) (j:=j)).mp (cy _)
  have:=h i k y hk
  lia
 .exact(ag7 hn).mpr ⟨0,by omega,(h i 0 y (by omega)).2,(bC4 (h 0 0 (by omega) (by omega)).1 (h 0 0 (by omega) (by omega)).2).2,(h 0 j (by omega) hj).2⟩
section
variable {n:Nat} {s:Nat->Nat->Int}
theorem ay9 (hn:1<=n)(h:Std n s)(y:i<n)(hj:j<n):s i j<=sharp n s i j:=by
 obtain⟨l,hl,a,_,c⟩:=(ag7 hn ).mp (cy _)
 exact(aC7 hn h y hj).mpr ⟨l,hl,a,c⟩
theorem aX5 (hn:1<=n)(hs:InT n s)(h:Std n s)(y:i<n)(hj:j<n):sharp n s i j=0↔s i j=0:=by
 have e1:=hs i j y hj
 have e2:=ax6 hn hs i j y hj
 have G:=ay9 hn h y hj
 constructor
 .intro e;lia
 .intro e
  obtain⟨k,hk,a,b,c⟩:=ba7 hn h y hj (x:=0) (by lia)
  have:=(ag7 hn).mpr ⟨k,hk,a,by have:=hs k k hk hk;unfold rnd;rw[if_pos (by lia)];exact b,c⟩
  lia
theorem aM3 (hn:1<=n)(hs:InT n s)(h:Std n s)(y:i<n)(hj:j<n):sharp n s i j=3↔s i j=3:=by
 have e1:=hs i j y hj
 have e2:=ax6 hn hs i j y hj
 have G:=ay9 hn h y hj
 constructor
 .intro e
  rcases Int.lt_or_le (s i j) 3 with z|z
  .obtain⟨k,hk,a,b,c⟩:=ba7 hn h y hj (x:=2) (by lia)
   have:=(ag7 hn).mpr ⟨k,hk,a,by unfold rnd;split<;>omega,c⟩
   lia
  .lia
 .intro e;lia
end
def cv2 (cells:yB)(P:Addr)(name q:Str)(params:bp)(body:yL)(scope:Scope)(pos:Pos)(i:Nat):TS:=λ D W H =>
 ∃ ps:Array Value,H P=some (.tbl ps)/\iz ps.toList /\
  (c7 pos ps.toList=none->∀ c' f doc pm ctv,H c'=none->H f=none->c'≠f ->
   D.nx (W.set i (some (.ref f))) (upd (upd (upd H P (.tbl (ps++#[cO pos.line,cO pos.col,.ref c']))) c' (qR c' q)) f (ay5 f (cK name q params body scope (ag5 cells scope.names []) .none .none doc pm none (.ref c') ctv)))) /\
  (∀ cv,c7 pos ps.toList=some cv->∃ c',cv=.ref c'/\∀ f doc pm ctv,H f=none->D.nx (W.set i (some (.ref f))) (upd H f (ay5 f (cK name q params body scope (ag5 cells scope.names []) .none .none doc pm none (.ref c') ctv))))
theorem ch5 {X}{params}{body:yL}{pos}(hN:X.N.Nodup)(hi:X.N[i]?=some name)(hx:Loc X.env.scope name)(Z:X.env.code=.ref c)(Cc:bS X.base c P)(hB:BM X.mg X.base)
  (c0:lamCheck scope X.env.scope=true) (hq:kW X.env name name=q:=by rfl) (d0:params.defaults=[]:=by rfl) (hk0:params.kw_defaults=[]:=by rfl) (ha:annTrees params none X.env=[]:=by rfl) (hf:X.fn name=true\/X.env.scope.names.lookup name=some .local:=by first|exact .inl rfl|exact .inr rfl) :
  PS X (.FunctionDef name params body [] none [] scope none name pos) (cv2 X.env.cells P name q params body scope pos i):=by
 intro a1 s W H D I h
 have d2:∀ y∈scope.names,y.2=.free->X.env.kindOf y.1=some .cell\/X.env.kindOf y.1=some .free:=λ y hy e=>by
  have z:=aX.mp c0 y hy
  have z':X.env.scope.names.lookup y.1=some .cell\/X.env.scope.names.lookup y.1=some .free:=by simpa [e]using z
  exact z'
 obtain⟨ps,hP,ht,a6,a5⟩:=h
 refine PySem.W.nestDef_K d0 hk0 ha ?_
 rw[hq]
 have fin:∀ {H2:Hp} {f:Addr} {s2:ah},Inv X a1 W H2 s2->D.nx (W.set i (some (.ref f))) H2->wpAny (model X.prog X.w) X.A (gm X.env name (.ref f)) (λ _ s3=>SP X a1 D .next s3) X.xe s2:=λ {H2 f s2} I2 q2=>ay1 (v:=.ref f) I2 hN hi hx rfl (λ s3 I3=>⟨_,H2,I3,q2⟩) hf
 have a3:=qK (scope:=scope) (env:=X.env) λ y hy e=>I.ok.has y.1 (d2 y hy e)
 have oP:s.heap.get? P=some (eC ps):=I.hok P _ hP
 have a2:s.heap.Ns aY X.mg:=I.mod.glob.keeps I.bk
 have hC:bS s.heap c P:=Cc.keeps I.bk
 have d3:aY≠P:=λ q=>by
  obtain⟨o,es,ep,e,d,_⟩:=a2
  rw[q,oP]at e;cases e;cases d
 have hb:s.heap.BuiltinsAt X.mg P:=by
  obtain⟨bm,ob,b1,b2,b3,b4,b5,b6⟩:=hB
  refine⟨bm,ob,b1,b2,λ q=>?_,λ q=>?_,I.bk _ _ b3,b4,b5,b6⟩
  .obtain⟨o,es,ep,e,d,_⟩:=I.mod.glob
   rw[q,e]at b3;cases b3;rw[d]at b6;cases b6
  .have e:=I.bk _ _ b3
   rw[q,oP]at e;cases e;cases b4
 cases qq:c7 pos ps.toList with
 | none =>
  refine PySem.W.makeFunction_K (mg:=X.mg) a3 I.ok.glob a2 Z hC oP ht qq d3 hb λ G J Y h' tk hx hge hlt b0 a7=>?_
  have a8:P<s.heap.objs.size:=aI oP
  have c3:G≠P:=bV (ar a8 hge)
  have d1:h'.objs.size≠P:=bV (eB (ar a8 hge) hlt)
  have c4:G≠h'.objs.size:=aA hlt
  have hsz:s.heap.objs.size<=h'.objs.size:=ao hge (dE hlt)
  have nP:∀ b,H b=none->b≠P:=λ b n z=>by rw[z,hP]at n;cases n
  have lt:∀ b o,H b=some o->b≠G/\b≠h'.objs.size:=λ b o e=>⟨aA (ar (I.hok.lt e) hge),aA (ar (I.hok.lt e) hsz)⟩
  have a4:∀ b o,s.heap.get? b=some o->b≠G/\b≠h'.objs.size:=λ b o e=>⟨aA (ar (aI e) hge),aA (ar (aI e) hsz)⟩
  have keep:∀ b o,b≠P->s.heap.get? b=some o->(h'.push (PySem.W.fnMade name q params body scope (ag5 X.env.cells scope.names []) Y ((X.mg "__name__").getD .none) G J)).get? b=some o:=λ b o n e=>ag _ (hx b o n e)
  have a0:∀ b,b≠P->b≠G->b≠h'.objs.size->∀ o1 o2 o3,upd (upd (upd H P o1) G o2) h'.objs.size o3 b=H b:=λ b n1 n2 n3 o1 o2 o3=>by rw[zm n3,zm n2,zm n1]
  refine fin (H2:=upd (upd (upd H P (.tbl (ps++#[cO pos.line,cO pos.col,.ref G]))) G (qR G q)) h'.objs.size (ay5 h'.objs.size (cK name q params body scope (ag5 X.env.cells scope.names []) .none .none Y ((X.mg "__name__").getD .none) none (.ref G) J))) (I.un (t':=tk) ⟨λ b o e n _ _=>keep b o (nP b n) e,λ b o e n _ _=>⟨o.slots,keep b o (nP b n) e⟩,λ b o e n _=>?fr,λ b o e _=>?th,λ b xs e=>?tu,λ b o u e=>?fz,λ b qs e=>?tb⟩ ?ok) (a6 qq G h'.objs.size Y _ J (I.hok.fresh hge) (I.hok.fresh hsz) c4)
  case fr=>rw[a0 b (nP b n) (a4 b o e).1 (a4 b o e).2];exact n
  case th =>
   by_cases z:b=P
   .subst z;exact⟨_,ag _ a7⟩
   .exact⟨o,keep b o z e⟩
  case tu=>rw[a0 b (λ z=>by rw[z,hP]at e;cases e) (lt b _ e).1 (lt b _ e).2];exact e
  case fz=>rw[a0 b (λ z=>by rw[z,hP]at e;cases e) (lt b _ e).1 (lt b _ e).2];exact e
  case tb =>
   by_cases z:b=P
   .subst z
    rw[hP]at e;cases e
    exact⟨#[cO pos.line,cO pos.col,.ref G],by rw[zm (cb d1),zm (cb c3),zo]⟩
   .exact⟨#[],by rw[a0 b z (lt b _ e).1 (lt b _ e).2,e];simp⟩
  case ok =>
   intro b o e
   by_cases zf:b=h'.objs.size
   .subst zf
    rw[zo]at e;cases e
    exact aA8 (aH _ rfl)
   .rw[zm zf]at e
    by_cases zc:b=G
    .subst zc
     rw[zo]at e;cases e
     obtain⟨c2,oc,vs,t,e1,e2,e3⟩:=b0
     exact aO9 ⟨c2,oc,vs,t,e1,ag _ e2,e3⟩
    .rw[zm zc]at e
     by_cases zp:b=P
     .subst zp
      rw[zo]at e;cases e
      exact ag _ a7
     .rw[zm zp]at e
      have a9:∀ d u,H d=some u->(∀ ps,u≠.tbl ps)->upd (upd (upd H P (.tbl (ps++#[cO pos.line,cO pos.col,.ref G]))) G (qR G q)) h'.objs.size (ay5 h'.objs.size (cK name q params body scope (ag5 X.env.cells scope.names []) .none .none Y ((X.mg "__name__").getD .none) none (.ref G) J)) d=some u:=λ d u e nt=>by
       rw[a0 d (λ z=>by rw[z,hP]at e;cases e;exact nt _ rfl) (lt d _ e).1 (lt d _ e).2];exact e
      refine(I.hok b o e).stay (λ d u hd q=>keep d u ?_ q) (λ d q=>a9 d _ q λ _=>by nofun) λ d xs q=>a9 d _ q λ _=>by nofun
      rintro rfl
      rcases hd with hd|hd
      .exact zp hd.symm
      .rw[hP]at hd;cases hd
 | some cv =>
  obtain⟨G,rfl,c1⟩:=a5 cv qq
  refine PySem.W.makeFunction_hit (mg:=X.mg) a3 I.ok.glob a2 Z hC oP ht qq hb λ J Y h' tk hk hsz=>?_
  exact fin (I.laid (t':=tk) (λ b o e=>ag _ (hk b o e)) hsz (aA8 (aH _ rfl))) (c1 h'.objs.size Y _ J (I.hok.fresh hsz))
def ap7 (H:Hp)(f:Addr)(name qual:Str)(params:bp)(body:yL)(scope:Scope)(fr:yH)(cap:List V)(clos:yB):Prop :=
 ∃ doc pm c' ctv,H f=some (ay5 f (cK name qual params body scope clos .none .none doc pm none (.ref c') ctv))/\H c'=some (qR c' qual)/\Cells clos H /\
  (∀ x y c,clos.lookup x=some c->clos.lookup y=some c->x=y)/\(∀ x,scope.names.lookup x=some .free->∃ c,clos.lookup x=some c)/\Cap clos H fr cap
theorem bt6 {body:yL}(ca:Caught cells N kd W H1 H2)
  (hf:∃ h pm Y G,H1 f=some (ay5 f (cK name q params body scope (ag5 cells scope.names []) .none .none h pm none (.ref Y) G))/\H1 Y=some (qR Y q))
  (Z:∀ x,scope.names.lookup x=some .free->∃ c,cells.lookup x=some c)
  (J:∀(i:Nat) (x:Str) (v:V),fr[i]?=some x->cap[i]?=some v->scope.names.lookup x=some .free/\(kd x=some .cell\/kd x=some .free)/\∃ j:Nat,N[j]?=some x/\W[j]?=some (some v)) :
  ap7 H2 f name q params body scope fr cap (ag5 cells scope.names []):=by
 obtain⟨h,pm,Y,G,h1,h2⟩:=hf
 have up:∀ b o,H1 b=some o->H2 b=some o:=λ b o e=>by
  rw[ca.ne b λ z=>by rw[ca.free b z]at e;cases e];exact e
 have sub:∀ x c,(ag5 cells scope.names []).lookup x=some c->cells.lookup x=some c:=λ x c e=>by
  rcases clOf_mem (aF e)with z|z
  .exact z
  .exact absurd z (by simp)
 refine⟨h,pm,Y,G,up _ _ h1,up _ _ h2,λ x c e=>ca.cells x c (sub x c e),λ x y c e1 e2=>ca.inj x y c (sub x c e1) (sub y c e2),λ x k=>?_,λ i x v e1 e2=>?_⟩
 .obtain⟨c,e⟩:=Z x k
  exact⟨c,qQ e (aF k)⟩
 .obtain⟨k,kk,j,e3,e4⟩:=J i x v e1 e2
  obtain⟨c,e⟩:=Z x k
  obtain⟨o,u,e5,e6,e7⟩:=ca.cap j x v c e3 e4 kk e
  exact⟨c,o,u,qQ e (aF k),e5,e6,e7⟩
theorem ap7.fn {K}(h:ap7 H f name qual params body scope fr cap y):bL2 K H f:=by
 obtain⟨G,Z,c',Y,J,_⟩:=h
 exact .inl ⟨_,J⟩
end L2
end
noncomputable section
namespace L2
open PySem PySem.Spec PyProof.Rows Builtin
section
variable {P:aK} {w:World} {A:aV} {E:Value->ah->Prop} {s:ah}
theorem aL9 {l:yJ}(y:s.heap.IsTupleIter it t i)(G:s.heap.IsTuple t l)(hv:l[i]?=some v)
  (k:∀ h',h'.IsTupleIter it t (i+1)->cc it s.heap h'->Q v { s with heap:=h' }):wpAny (model P w) A (bh (.ref it)) Q E s:=by
 obtain⟨o,e1,e2,h⟩:=id y
 obtain⟨p,p1,_,n,J⟩:=G
 unfold bh
 refine ae (cq y.typeIs cQ (cA cQ y.typeIs fv ?_ (fg _)))
 show wpAny _ _ (field (.ref it) 0 >>= _) _ _ _
 refine ae (b7 e1 h rfl ?_)
 rw[if_neg (λ z=>nomatch z)]
 refine ae (b7 e1 h rfl ?_)
 refine ae (b8 p1 J ?_)
 simp only[dz,hv]
 refine ae (wpAny_setField e1 h (by simp) (aC ⟨v,rfl,aC (k _ ⟨_,dr _ e1 (Obj.isFreed_of_fields (i9 h _)),(Obj.cls_mapFields ..).trans e2,by rw[i9 h];simp[cO]⟩ (iK ..))⟩))
theorem aY0 {l:yJ}(G:A.handled=none)(h:s.heap.IsTupleIter it t i)(J:s.heap.IsTuple t l)(hv:l[i]?=none)
  (k:∀ h' e,fW it s.heap h'->(∃ o,h'.get? e=some o/\o.cls=.type "StopIteration")->E (.ref e) { s with heap:=h' }):wpAny (model P w) A (bh (.ref it)) Q E s:=by
 obtain⟨o,e1,e2,y⟩:=id h
 obtain⟨p,p1,_,n,Y⟩:=J
 unfold bh
 refine ae (cq h.typeIs cQ (cA cQ h.typeIs fv ?_ (fg _)))
 show wpAny _ _ (field (.ref it) 0 >>= _) _ _ _
 refine ae (b7 e1 y rfl ?_)
 rw[if_neg (λ z=>nomatch z)]
 refine ae (b7 e1 y rfl ?_)
 refine ae (b8 p1 Y ?_)
 simp only[dz,hv]
 refine ae (fJ (ae (wpAny_setField e1 y (by simp) ?_)))
 refine ae ?_
 simp only[newExc]
 refine ae (bL ?_ (by size_fits))
 refine ae (wpAny_of_eq (by first|rfl|(simp only[];rfl)) (bL ?_ (by size_fits)))
 simp only[]
 refine ae (wpAny_handled ?_)
 first|rw[G]|rw[G]
 exact ae (aC (wpAny_throw (k _ _ (((iK ..).extBut.push _).push _) ⟨_,aH _ rfl,rfl⟩)))
end
structure Dw (P:aK)(w:World)(K:af)(J:It)(it:Addr)(tn:Nat->Heap->Prop):Prop where
 obj:∀ i h,tn i h->∃ o,h.get? it=some o/\∀ v,o.data≠.cell v
 keep:∀ i h h',tn i h->(∀ o,h.get? it=some o->h'.get? it=some o)->tn i h'
 item:∀(X:Cx),X.prog=P->X.w=w->X.K=K->∀(A:aV) (i:Nat) (pins:yA) (s:ah) (W:St) (H:Hp) (Q:Value->ah->Prop) (E:Value->ah->Prop),Inv X pins W H s->tn i s.heap->J.go i H ->
  (∀ x u h' tk,RelV x u->J.yld i H x H->tn (i+1) h'->cc it s.heap h'->Q u { s with heap:=h',toks:=tk })->wpAny (model P w) A (bh (.ref it)) Q E s
 done:∀(X:Cx),X.prog=P->X.w=w->X.K=K->∀(A:aV) (i:Nat) (pins:yA) (s:ah) (W:St) (H:Hp) (Q:Value->ah->Prop) (E:Value->ah->Prop),A.handled=none->Inv X pins W H s->tn i s.heap->J.stop i H ->
  (∀ h' e,fW it s.heap h'->(∃ o,h'.get? e=some o/\o.cls=.type "StopIteration")->E (.ref e) { s with heap:=h' })->wpAny (model P w) A (bh (.ref it)) Q E s
theorem bK4 {K} a it :Dw P w K (Itl K a) it (λ i h=>h.IsListIter it a i) where
 obj:=λ i h st=>by
  obtain⟨o,e,c,d⟩:=st
  exact⟨o,e,λ v z=>by rw[d]at z;cases z⟩
 keep:=λ i h h' st k=>st.at k
 item:=by
  intro X G hw J A i y s W H Q E I st hg k
  subst G hw J
  obtain⟨xs,x,hq,hx⟩:=hg
  obtain⟨its,Z,p,hz⟩:=I.list hq
  obtain⟨u,hu,ru⟩:=Z.get hx
  exact wpAny_nextOf_list_item st p.isList (by simpa using hu) λ h' Y sb=>k x u h' s.toks ru ⟨rfl,λ ys hy=>by rw[I.list_inj hy hq];exact hx⟩ Y sb
 done:=by
  intro X G hw J A i y s W H Q E hA I st hg k
  subst G hw J
  obtain⟨xs,hq,hx⟩:=hg
  obtain⟨its,Z,p,hz⟩:=I.list hq
  have hl:=Z.length
  exact wpAny_nextOf_list_end hA st p.isList (by simp;omega) k
theorem cb1 {K} a it :Dw P w K (Itt K a) it (λ i h=>h.IsTupleIter it a i) where
 obj:=λ i h st=>by
  obtain⟨o,e,c,d⟩:=st
  exact⟨o,e,λ v z=>by rw[d]at z;cases z⟩
 keep:=λ i h h' st k=>st.at k
 item:=by
  intro X G hw J A i y s W H Q E I st hg k
  subst G hw J
  obtain⟨xs,x,hq,hx⟩:=hg
  obtain⟨its,Z,p,hz⟩:=I.tuple hq
  obtain⟨u,hu,ru⟩:=Z.get hx
  exact aL9 st (p) (by simpa using hu) λ h' Y sb=>k x u h' s.toks ru ⟨rfl,λ ys hy=>by rw[I.tuple_inj hy hq];exact hx⟩ Y sb
 done:=by
  intro X G hw J A i y s W H Q E hA I st hg k
  subst G hw J
  obtain⟨xs,hq,hx⟩:=hg
  obtain⟨its,Z,p,hz⟩:=I.tuple hq
  have hl:=Z.length
  exact aY0 hA st (p) (by simp;omega) k
theorem bX0 {K} x t it :Dw P w K (Its x) it (λ i h=>h.IsStrIter it (io x) x t i) where
 obj:=λ i h st=>by
  obtain⟨o,e,c,d⟩:=st
  exact⟨o,e,λ v z=>by rw[d]at z;cases z⟩
 keep:=λ i h h' st k=>by
  obtain⟨o,ho,r⟩:=st
  exact⟨o,k _ ho,r⟩
 item:=by
  intro X Y hw Z A i J s W H Q E I st hg k
  subst Y hw Z
  have G:i<x.cps.size:=hg
  have hc:x.cps[i]?=some x.cps[i]:=by simp[]
  unfold io at st k
  cases ha:x.cps.all (·<128)
  .rw[ha]at st k
   exact wpAny_nextOf_wide_item st hc λ h' y sb=>k (.str ⟨#[x.cps[i]]⟩) _ h' (s.toks+1) ⟨_,rfl⟩ ⟨rfl,_,hc,rfl⟩ y sb
  .rw[ha]at st k
   exact wpAny_nextOf_ascii_item st hc λ h' y sb=>k (.str ⟨#[x.cps[i]]⟩) _ h' (s.toks+1) ⟨_,rfl⟩ ⟨rfl,_,hc,rfl⟩ y sb
 done:=by
  intro X Y hw Z A i J s W H Q E hA I st hg k
  subst Y hw Z
  have G:x.cps.size<=i:=hg
  have hc:x.cps[i]?=none:=by simp[G]
  unfold io at st
  cases ha:x.cps.all (·<128)
  .rw[ha]at st
   exact wpAny_nextOf_wide_end hA st hc k
  .rw[ha]at st
   exact wpAny_nextOf_ascii_end hA st hc k
theorem Inv.turnedL {W:St}{G:List Addr}(I:Inv X h W H s)(f:∀ b∈G,FpOk X h H b)(k:∀ b o,b ∉ G->s.heap.get? b=some o->h'.get? b=some o):Inv X h W H { s with heap:=h',toks:=t' }:=by
 have y:∀ b u,H b=some u->b ∉ G:=λ b u e z=>by rw[(f b z).1]at e;cases e
 refine I.step (λ b hb=>?_) (λ b o _ _ hc e _=>k b o hc e) (λ b o _ _ hc e _=>⟨o.slots,k b o hc e⟩) (λ _ _ _ _ n=>n)
  (λ b o hc e=>⟨o,k b o hc e⟩) (λ _ _ e=>e) (λ _ _ _ e=>e) (λ b ps e=>⟨#[],by rw[e];simp⟩) (λ m Z=>?_) (λ b u e=>?_) I.bare
 .obtain⟨f0,Y,f2,J,f4,f5⟩:=f b hb
  exact⟨J,Y,f4,f5⟩
 .obtain⟨o,es,ep,ho,r⟩:=Z
  exact⟨o,es,ep,k _ o (λ z=>(f _ z).2.1 rfl) ho,r⟩
 .refine(I.hok b u e).stay (λ c v hc q=>k c v ?_ q) (λ _ q=>q) λ _ _ q=>q
  rcases hc with z|z
  .rw[z];exact y b u e
  .exact y c _ z
structure Ap (z ti to i1 i2:Addr):Prop where
 a1:ti≠z
 a2:to≠z
 a3:i1≠z
 a4:i2≠z
 a5:ti≠to
 a6:ti≠i1
 a7:ti≠i2
 a8:to≠i1
 a9:to≠i2
 b1:i1≠i2
section
variable {X:Cx} {pins:yA} {W:St} {H:Hp} {s:ah} {A:aV} {E:Value->ah->Prop} {J1 J2:It} {t1 t2:Nat->Heap->Prop} {z ti to i1 i2:Addr} {n:Nat} {a b:Value}
theorem bb1 {Q:Value->ah->Prop}(Y:Dw X.prog X.w X.K J1 i1 t1)(D2:Dw X.prog X.w X.K J2 i2 t2)(D:Ap z ti to i1 i2)(I:Inv X pins W H s)(f:∀ b∈[z,ti,to,i1,i2],FpOk X pins H b)
  (hz:IsZip s.heap z ti to .none) (hI:dY s.heap ti (.ref i1) (.ref i2)) (hO:dY s.heap to a b) (h1:t1 n s.heap) (h2:t2 n s.heap) (g1:J1.go n H) (g2:J2.go n H)
  (k:∀ x y u v h' tk,RelV x u->RelV y v->J1.yld n H x H->J2.yld n H y H->IsZip h' z ti to (cO s.heap.objs.size)->dY h' to u v->t1 (n+1) h'->t2 (n+1) h'->dY h' s.heap.objs.size u v ->
   (∀ c o,c≠z->c≠to->c≠i1->c≠i2->s.heap.get? c=some o->h'.get? c=some o)->Q (.ref s.heap.objs.size) { s with heap:=h',toks:=tk }) :
  wpAny (model X.prog X.w) A (lx.«zip.__next__» ⟨[.ref z],[]⟩) (λ fin s'=>∃ v,fin=.done (.ret v)/\Q v s') E s:=by
 show wpAny _ _ (field (.ref z) 2 >>= _) _ _ (_:ah)
 refine ae (b7 hz rfl (x:=.bool false) rfl ?_)
 show wpAny _ _ (field (.ref z) 3 >>= _) _ _ (_:ah)
 refine ae (b7 hz rfl (x:=.ref ti) rfl ?_)
 refine ae (b8 hI rfl ?_)
 show wpAny _ _ (b9 (.ref z) >>= _) _ _ (_:ah)
 refine ae ?_
 unfold b9
 refine ae (b7 hz rfl (x:=.none) rfl (aC ?_))
 simp only[if_true]
 refine ae (fJ (ae (b7 hz rfl (x:=.ref to) rfl ?_)))
 refine ae (cR hz (by simp) λ p1 z1 s1=>?_)
 replace z1:IsZip p1 z ti to .ellipsis:=z1
 have q1:Inv X pins W H { s with heap:=p1,toks:=s.toks }:=I.turnedL f λ c o hc e=>s1.extBut _ _ (λ y=>hc (by simp[y])) e
 refine ae ?_
 simp only[kt,kE,e9,et]
 refine ae (ae (gj ?_))
 show wpAny _ _ (bh (.ref i1) >>= _) _ _ (_:ah)
 refine ae (Y.item X rfl rfl rfl _ n pins { s with heap:=p1 } W H _ _ q1 (Y.keep _ _ _ h1 λ o e=>s1.extBut _ _ D.a3 e) g1 λ x u p2 J rx yx a7 s2=>aC ?_)
 replace s2:cc i1 p1 p2:=s2
 have o2:dY p2 to a b:=s2.extBut _ _ D.a8 (s1.extBut _ _ D.a2 hO)
 refine ae (b8 o2 rfl ?_)
 refine ae (eR o2 λ p3 o3 s3=>?_)
 replace o3:dY p3 to u b:=o3
 replace s3:cc to p2 p3:=s3
 refine ae (d5 (aC ?_))
 have q3:Inv X pins W H { s with heap:=p3,toks:=J }:=I.turnedL f λ c o hc e=>s3.extBut _ _ (λ y=>hc (by simp[y])) (s2.extBut _ _ (λ y=>hc (by simp[y])) (s1.extBut _ _ (λ y=>hc (by simp[y])) e))
 refine ae (ae (gj ?_))
 show wpAny _ _ (bh (.ref i2) >>= _) _ _ (_:ah)
 refine ae (D2.item X rfl rfl rfl _ n pins { s with heap:=p3,toks:=J } W H _ _ q3 (D2.keep _ _ _ h2 λ o e=>s3.extBut _ _ D.a9.symm (s2.extBut _ _ D.b1.symm (s1.extBut _ _ D.a4 e))) g2 λ y v p4 a0 ry yy a6 s4=>aC ?_)
 replace s4:cc i2 p3 p4:=s4
 have o4:dY p4 to u b:=s4.extBut _ _ D.a9 o3
 refine ae (b8 o4 rfl ?_)
 refine ae (eR o4 λ p5 o5 s5=>?_)
 replace o5:dY p5 to u v:=o5
 replace s5:cc to p4 p5:=s5
 refine ae (d5 (aC (aC ?_)))
 refine ae (b8 o5 rfl ?_)
 refine ae (wpAny_newTuple ?_)
 have hsz:p5.objs.size=s.heap.objs.size:=by rw[s5.1,s4.1,s3.1,s2.1,s1.1]
 have z5:IsZip p5 z ti to .ellipsis:=s5.extBut _ _ D.a2.symm (s4.extBut _ _ D.a4.symm (s3.extBut _ _ D.a2.symm (s2.extBut _ _ D.a3.symm z1)))
 have k5:∀ c o,c≠z->c≠to->c≠i1->c≠i2->s.heap.get? c=some o->p5.get? c=some o:=λ c o h c2 c3 c4 e =>
  s5.extBut _ _ c2 (s4.extBut _ _ c4 (s3.extBut _ _ c2 (s2.extBut _ _ c3 (s1.extBut _ _ h e))))
 have a1:t1 (n+1) p5:=Y.keep _ _ _ a7 λ o e=>s5.extBut _ _ D.a8.symm (s4.extBut _ _ D.b1 (s3.extBut _ _ D.a8.symm e))
 have a5:t2 (n+1) p5:=D2.keep _ _ _ a6 λ o e=>s5.extBut _ _ D.a9.symm e
 have G:z<p5.objs.size:=aI z5
 show wpAny _ _ (dJ (.ref z) (.ref p5.objs.size) >>= _) _ _ (_:ah)
 refine ae ?_
 unfold dJ
 have z6:IsZip (p5.push { cls:=.type "tuple",data:=.seq #[u,v] }) z ti to .ellipsis:=ag _ z5
 refine ae (cR z6 (by simp) λ p7 z7 s7=>?_)
 replace z7:IsZip p7 z ti to (cO p5.objs.size):=z7
 refine cR z7 (by simp) λ p8 Z s8=>?_
 replace Z:IsZip p8 z ti to (cO p5.objs.size):=Z
 have up:∀ c o,c≠z->p5.get? c=some o->p8.get? c=some o:=λ c o h e=>s8.extBut _ _ h (s7.extBut _ _ h (ag _ e))
 have T8:dY p8 p5.objs.size u v:=s8.extBut _ _ (bV G) (s7.extBut _ _ (bV G) (aH _ rfl))
 rw[hsz]at Z T8
 refine aC ⟨_,rfl,?_⟩
 show Q (.ref p5.objs.size) _
 rw[hsz]
 exact k x y u v p8 a0 rx ry yx yy Z (up _ _ D.a2 o5) (Y.keep _ _ _ a1 λ o e=>up _ o D.a3 e) (D2.keep _ _ _ a5 λ o e=>up _ o D.a4 e) T8 λ c o h c2 c3 c4 e=>up c o h (k5 c o h c2 c3 c4 e)
theorem bv5 (hA:A.handled=none)(Z:Dw X.prog X.w X.K J1 i1 t1)(D2:Dw X.prog X.w X.K J2 i2 t2)(D:Ap z ti to i1 i2)(I:Inv X pins W H s)(f:∀ b∈[z,ti,to,i1,i2],FpOk X pins H b)
  (hz:IsZip s.heap z ti to .none) (hI:dY s.heap ti (.ref i1) (.ref i2)) (hO:dY s.heap to a b) (h1:t1 n s.heap) (h2:t2 n s.heap) (g:J1.stop n H\/J1.go n H/\J2.stop n H)
  (k:∀ h' tk e,(∀ c o,c≠z->c≠to->c≠i1->c≠i2->s.heap.get? c=some o->h'.get? c=some o)->(∃ o,h'.get? e=some o/\o.cls=.type "StopIteration")->E (.ref e) { s with heap:=h',toks:=tk }) :
  wpAny (model X.prog X.w) A (lx.«zip.__next__» ⟨[.ref z],[]⟩) Q E s:=by
 show wpAny _ _ (field (.ref z) 2 >>= _) _ _ (_:ah)
 refine ae (b7 hz rfl (x:=.bool false) rfl ?_)
 show wpAny _ _ (field (.ref z) 3 >>= _) _ _ (_:ah)
 refine ae (b7 hz rfl (x:=.ref ti) rfl ?_)
 refine ae (b8 hI rfl ?_)
 show wpAny _ _ (b9 (.ref z) >>= _) _ _ (_:ah)
 refine ae ?_
 unfold b9
 refine ae (b7 hz rfl (x:=.none) rfl (aC ?_))
 simp only[if_true]
 refine ae (fJ (ae (b7 hz rfl (x:=.ref to) rfl ?_)))
 refine ae (cR hz (by simp) λ p1 z1 s1=>?_)
 replace z1:IsZip p1 z ti to .ellipsis:=z1
 have q1:Inv X pins W H { s with heap:=p1,toks:=s.toks }:=I.turnedL f λ c o hc e=>s1.extBut _ _ (λ y=>hc (by simp[y])) e
 refine ae ?_
 simp only[kt,kE,e9,et]
 refine ae (ae (gj ?_))
 show wpAny _ _ (bh (.ref i1) >>= _) _ _ (_:ah)
 have J:=Z.keep _ _ p1 h1 λ o e=>s1.extBut _ _ D.a3 e
 rcases g with g|⟨g,g2⟩
 .refine ae (Z.done X rfl rfl rfl _ n pins { s with heap:=p1 } W H _ _ hA q1 J g λ G e s2 he=>?_)
  obtain⟨oe,e1,e2⟩:=he
  replace s2:fW i1 p1 G:=s2
  have z2:IsZip G z ti to .ellipsis:=s2 _ _ D.a3.symm z1
  have ez:e≠z:=λ x=>by subst x;rw[z2]at e1;cases e1;simp at e2
  exact cR z2 (by simp) λ p3 _ s3=>k p3 s.toks e (λ c o Y _ c3 _ x=>s3.extBut _ _ Y (s2 _ _ c3 (s1.extBut _ _ Y x))) ⟨oe,s3.extBut _ _ ez e1,e2⟩
 .refine ae (Z.item X rfl rfl rfl _ n pins { s with heap:=p1 } W H _ _ q1 J g λ x u G h rx yx a0 s2=>aC ?_)
  replace s2:cc i1 p1 G:=s2
  have o2:dY G to a b:=s2.extBut _ _ D.a8 (s1.extBut _ _ D.a2 hO)
  refine ae (b8 o2 rfl ?_)
  refine ae (eR o2 λ p3 o3 s3=>?_)
  replace s3:cc to G p3:=s3
  refine ae (d5 (aC ?_))
  have q3:Inv X pins W H { s with heap:=p3,toks:=h }:=I.turnedL f λ c o hc e=>s3.extBut _ _ (λ y=>hc (by simp[y])) (s2.extBut _ _ (λ y=>hc (by simp[y])) (s1.extBut _ _ (λ y=>hc (by simp[y])) e))
  refine ae (ae (gj ?_))
  show wpAny _ _ (bh (.ref i2) >>= _) _ _ (_:ah)
  refine ae (D2.done X rfl rfl rfl _ n pins { s with heap:=p3,toks:=h } W H _ _ hA q3 (D2.keep _ _ _ h2 λ o e=>s3.extBut _ _ D.a9.symm (s2.extBut _ _ D.b1.symm (s1.extBut _ _ D.a4 e))) g2 λ p4 e s4 he=>?_)
  obtain⟨oe,e1,e2⟩:=he
  replace s4:fW i2 p3 p4:=s4
  have z4:IsZip p4 z ti to .ellipsis:=s4 _ _ D.a4.symm (s3.extBut _ _ D.a2.symm (s2.extBut _ _ D.a3.symm z1))
  have ez:e≠z:=λ x=>by subst x;rw[z4]at e1;cases e1;simp at e2
  exact cR z4 (by simp) λ p5 _ s5=>k p5 h e (λ c o Y c2 c3 c4 x=>s5.extBut _ _ Y (s4 _ _ c4 (s3.extBut _ _ c2 (s2.extBut _ _ c3 (s1.extBut _ _ Y x))))) ⟨oe,s5.extBut _ _ ez e1,e2⟩
end
def Jz (J1 J2:It):It:=⟨λ i H=>J1.go i H/\J2.go i H,
 λ i H x H'=>∃ a x1 x2,J1.yld i H x1 H/\J2.yld i H x2 H/\H a=none/\x=.ref a/\H'=upd H a (.tp [x1,x2]),λ i H=>J1.stop i H\/J1.go i H/\J2.stop i H⟩
theorem bu8 {K}{elts:yK}(D1:Dw P w K J1 i1 t1)(D2:Dw P w K J2 i2 t2)(D:Ap z ti to i1 i2) :
  Turn P w K (.Tuple elts ek epos) (Jz J1 J2) [z,ti,to,i1,i2] z (λ i h=>IsZip h z ti to .none/\dY h ti (.ref i1) (.ref i2)/\(∃ a b,dY h to a b)/\t1 i h/\t2 i h) where
 mem:=by simp
 obj:=λ i h st b hb=>by
  obtain⟨hz,Y,⟨a,c,hO⟩,h1,Z⟩:=st
  simp only[aB,aW,or_false]at hb
  rcases hb with rfl|rfl|rfl|rfl|rfl
  .exact⟨_,hz,λ v y=>by cases y⟩
  .exact⟨_,Y,λ v y=>by cases y⟩
  .exact⟨_,hO,λ v y=>by cases y⟩
  .exact D1.obj _ _ h1
  .exact D2.obj _ _ Z
 keep:=λ i h h' st k=>by
  obtain⟨hz,Y,⟨a,c,hO⟩,h1,Z⟩:=st
  exact⟨k _ (by simp) _ hz,k _ (by simp) _ Y,⟨a,c,k _ (by simp) _ hO⟩,D1.keep _ _ _ h1 λ o e=>k _ (by simp) o e,D2.keep _ _ _ Z λ o e=>k _ (by simp) o e⟩
 item:=by
  intro X hP hw hK hc i J s W H E I hf st hg
  subst hP hw hK
  obtain⟨hz,Y,⟨a,c,hO⟩,h1,Z⟩:=st
  have hT:s.TypeIs (.ref z) "zip":=⟨_,hz,rfl⟩
  unfold ib
  refine ae (wpAny_attempt (cq (name:=bD "__next__") hT fh (cA fh hT ku
   (bb1 D1 D2 D I hf hz Y hO h1 Z hg.1 hg.2 λ x y u v h' tk rx ry yx yy z' o' b2 a9 T' kk=>aC ?_) (kb _))))
  refine⟨_,rfl,wpAny_letOwnedTupleGo_zip (s:={ s with heap:=h',toks:=tk }) z' λ a0 b1 G=>?_⟩
  replace G:cc z h' a0:=G
  have lt:∀ {c o},s.heap.get? c=some o->s.heap.objs.size≠c:=λ e=>bV (aI e)
  obtain⟨o1,e1,_⟩:=D1.obj _ _ h1
  obtain⟨o2,e2,_⟩:=D2.obj _ _ Z
  have Tz:=lt hz
  have I1:Inv X J W (upd H s.heap.objs.size (.tp [x,y])) { s with heap:=s.heap.push { cls:=.type "tuple",data:=.seq #[u,v] },toks:=tk } :=
   I.laid (λ b u e=>ag _ e) (ak _) ⟨by simp[aQ],[u,v],.cons rx (.cons ry .nil),_,aH _ rfl,rfl,_,rfl⟩
  have a8:∀ b∈[z,ti,to,i1,i2],FpOk X J (upd H s.heap.objs.size (.tp [x,y])) b:=λ b hb=>by
   have q:=hf b hb
   refine⟨?_,q.2⟩
   unfold upd
   rw[if_neg ?_]
   .exact q.1
   .simp only[aB,aW,or_false]at hb
    rcases hb with rfl|rfl|rfl|rfl|rfl
    .exact(lt hz).symm
    .exact(lt Y).symm
    .exact(lt hO).symm
    .exact(lt e1).symm
    .exact(lt e2).symm
  have I2:Inv X J W (upd H s.heap.objs.size (.tp [x,y])) { s with heap:=a0,toks:=tk }:=by
   refine I1.turnedL (s:={ s with heap:=s.heap.push { cls:=.type "tuple",data:=.seq #[u,v] },toks:=tk }) a8 λ b o hb e=>?_
   simp only[aB,aW,or_false,not_or]at hb
   refine G.extBut _ _ hb.1 ?_
   by_cases hbT:b=s.heap.objs.size
   .subst hbT
    have:=aH s.heap (o:={ cls:=.type "tuple",data:=.seq #[u,v] }) rfl
    rw[show(s.heap.push { cls:=.type "tuple",data:=.seq #[u,v] }).get? s.heap.objs.size=some o from e]at this
    cases this
    exact T'
   .exact kk b o hb.1 hb.2.2.1 hb.2.2.2.1 hb.2.2.2.2 (by
     have e':(s.heap.push { cls:=.type "tuple",data:=.seq #[u,v] }).get? b=some o:=e
     rw[Heap.get?_push_ne _ _ _ hbT]at e'
     exact e')
  exact⟨.ref s.heap.objs.size,_,I2,rfl,⟨_,x,y,yx,yy,I.hok.fresh (ak _),rfl,rfl⟩,⟨b1,G.extBut _ _ D.a1 (kk _ _ D.a1 D.a5 D.a6 D.a7 Y),⟨_,_,G.extBut _ _ D.a2 o'⟩,
   D1.keep _ _ _ b2 λ o e=>G.extBut _ _ D.a3 e,D2.keep _ _ _ a9 λ o e=>G.extBut _ _ D.a4 e⟩,λ b hb=>(a8 b hb).1⟩
 done:=by
  intro X hP hw hK hc i J s W H E I hf st hg
  subst hP hw hK
  obtain⟨hz,Y,⟨a,c,hO⟩,h1,Z⟩:=st
  have hT:s.TypeIs (.ref z) "zip":=⟨_,hz,rfl⟩
  unfold ib
  refine ae (wpAny_attempt (cq (name:=bD "__next__") hT fh (cA fh hT ku
   (bv5 (I.ok.hd hc) D1 D2 D I hf hz Y hO h1 Z hg λ h' tk e kk he=>?_) (kb _))))
  obtain⟨o,ho,b0⟩:=he
  refine ae (wpAny_isInstance (T := "StopIteration") (b:=true) ⟨o,ho,b0⟩ isSubtype_stop ?_)
  exact aC ⟨rfl,I.turnedL hf λ b o hb e=>by
   simp only[aB,aW,or_false,not_or]at hb
   exact kk b o hb.1 hb.2.2.1 hb.2.2.2.1 hb.2.2.2.2 e⟩
 self:=λ A i s Q E st h=>kx st.1 h
def Mkr (v:Value)(o:Obj)(h:Heap):Prop:=∀ P w A E s Q ,(∀ b u,h.get? b=some u->s.heap.get? b=some u) ->
 Q (.ref s.heap.objs.size) { s with heap:=s.heap.push o }->wpAny (model P w) A (kg v) Q E s
noncomputable abbrev zH2 (h:Heap)(o1 o2:Obj):Heap:=(h.push o1).push o2
abbrev zH3 (h:Heap)(o1 o2:Obj):Heap:=(zH2 h o1 o2).push { cls:=.type "tuple",data:=.seq #[.ref h.objs.size,.ref (h.push o1).objs.size] }
abbrev zH4 (h:Heap)(o1 o2:Obj):Heap:=(zH3 h o1 o2).push { cls:=.type "tuple",data:=.seq #[.none,.none] }
abbrev zH5 (h:Heap)(o1 o2:Obj):Heap:=(zH4 h o1 o2).push { cls:=.type "zip",data:=.fields #[.none,.bool false,.bool false,.ref (zH2 h o1 o2).objs.size,.ref (zH3 h o1 o2).objs.size] }
theorem aX2  v1 Y  G J :Meets (lx.«zip.__new__» ⟨[.type "zip",v1,Y],[]⟩) (λ _ R s=>Mkr v1 G s.heap/\Mkr Y J s.heap /\
  R (.ok (.ret (.ref (zH4 s.heap G J).objs.size))) { s with heap:=zH5 s.heap G J }) :=
 .of_wp λ prog w A R s h=>by
  obtain⟨y,g,d,tk,os⟩:=s;obtain⟨m1,m2,h⟩:=h
  have Z:=sub_zip
  have r1:=λ {P w A E Q} q=>m1 P w A E ⟨y,g,d,tk,os⟩ Q (λ b u e=>e) q
  have r2:=λ {P w A E Q} q=>m2 P w A E ⟨y.push G,g,d,tk,os⟩ Q (λ b u e=>ag _ e) q
  wp_walk using r1,r2
  exact⟨_,rfl,h⟩
theorem bp3 {s:ah}(f1:h.isFreed=false)(f2:y.isFreed=false)(m1:Mkr v1 h s.heap)(m2:Mkr Z y s.heap)
  (k:∀ h',IsZip h' (s.heap.objs.size+4) (s.heap.objs.size+2) (s.heap.objs.size+3) .none->dY h' (s.heap.objs.size+2) (.ref s.heap.objs.size) (.ref (s.heap.objs.size+1)) ->
   dY h' (s.heap.objs.size+3) .none .none->h'.get? s.heap.objs.size=some h->h'.get? (s.heap.objs.size+1)=some y->(∀ c o,s.heap.get? c=some o->h'.get? c=some o)->Q (.ref (s.heap.objs.size+4)) { s with heap:=h' }) :
  wpAny (model P w) A (call (.type "zip") [v1,Z]) Q E s:=by
 refine callType_new F.called_zip (by decide) (F.typeCall_zip_2 _ _) (F.newCall_zip_2 _ _) (λ obj=>F.args_object_init_3 obj _ _) F.entry_zip_new (aX2 v1 Z h y) ⟨m1,m2,?_⟩
 have y1:(s.heap.push h).objs.size=s.heap.objs.size+1:=bK ..
 have Y:(zH2 s.heap h y).objs.size=s.heap.objs.size+2:=by rw[bK,y1]
 have G:(zH3 s.heap h y).objs.size=s.heap.objs.size+3:=by rw[bK,Y]
 have y4:(zH4 s.heap h y).objs.size=s.heap.objs.size+4:=by rw[bK,G]
 have J:(zH5 s.heap h y).get? (zH4 s.heap h y).objs.size=some _:=aH _ rfl
 have g4:(zH5 s.heap h y).get? (zH3 s.heap h y).objs.size=some _:=ag _ (aH _ rfl)
 have g3:(zH5 s.heap h y).get? (zH2 s.heap h y).objs.size=some _:=ag _ (ag _ (aH _ rfl))
 have g2:(zH5 s.heap h y).get? (s.heap.push h).objs.size=some y:=ag _ (ag _ (ag _ (aH _ f2)))
 have g1:(zH5 s.heap h y).get? s.heap.objs.size=some h:=ag _ (ag _ (ag _ (ag _ (aH _ f1))))
 show _/\_
 rw[Y,G,y4]at J
 rw[y1,Y]at g3
 rw[G]at g4
 rw[y1]at g2
 rw[y4]
 exact⟨⟨_,J,rfl⟩,k _ J g3 g4 g1 g2 λ c o x=>ag _ (ag _ (ag _ (ag _ (ag _ x))))⟩
def Sr (K:af)(H:Hp)(x:V)(J:It):Prop:=(∃ a,x=.ref a/\(∃ xs,SqL K H a xs)/\J=Itl K a)\/(∃ a,x=.ref a/\(∃ xs,SqT K H a xs)/\J=Itt K a)\/∃ y,x=.str y/\J=Its y
theorem Sr.mk {W:St}(I:Inv X G W H s)(h:Sr X.K H x J)(r:RelV x u) :
  ∃(o:Obj) (Y:Addr->Nat->Heap->Prop),o.isFreed=false/\Mkr u o s.heap/\(∀ it,Dw X.prog X.w X.K J it (Y it))/\∀ it h',h'.get? it=some o->Y it 0 h':=by
 rcases h with⟨a,e,⟨xs,hq⟩,e'⟩|⟨a,e,⟨xs,hq⟩,e'⟩|⟨y,e,e'⟩
 .subst e e';cases r
  obtain⟨its,Z,p,hz⟩:=I.list hq
  exact⟨_,λ it i h=>h.IsListIter it a i,rfl,λ P w A E s' Q hk q=>d8 (p.isList.at λ o e=>hk _ _ e) q,λ it=>bK4 a it,λ it h' e=>⟨_,e,rfl,rfl⟩⟩
 .subst e e';cases r
  obtain⟨its,Z,p,hz⟩:=I.tuple hq
  exact⟨_,λ it i h=>h.IsTupleIter it a i,rfl,λ P w A E s' Q hk q=>iY (Heap.IsTuple.at (p) λ o e=>hk _ _ e) q,λ it=>cb1 a it,λ it h' e=>⟨_,e,rfl,rfl⟩⟩
 .subst e e';obtain⟨t,rfl⟩:=r
  exact⟨_,λ it i h=>h.IsStrIter it (io y) y t i,rfl,λ P w A E s' Q hk q=>wpAny_pyIter_strU q,λ it=>bX0 y t it,λ it h' e=>⟨_,e,rfl,rfl⟩⟩
theorem cq1 (n:Nat):Ap (n+4) (n+2) (n+3) n (n+1):=by
 constructor
 .exact aA (by lia)
 .exact aA (by lia)
 .exact aA (by lia)
 .exact aA (by lia)
 .exact aA (by lia)
 .exact bV (by lia)
 .exact bV (by lia)
 .exact bV (by lia)
 .exact bV (by lia)
 .exact aA (by lia)
def cw9 (K:af)(ta:TA):TI:=λ W H R=>ta W H λ vs H1=>∃ x y J1 J2,vs=[x,y]/\Sr K H1 x J1/\Sr K H1 y J2/\R (Jz J1 J2) H1
theorem ce9 {elts:yK}{ek}{epos}{p pos}(hg:Gl X "zip")(hm:X.mg "zip"=none)(ha:PA X [a,b] ta)(hs:bu [a,b] X.env=[(false,eval a X.env),(false,eval b X.env)]:=by rfl)(Y:bu [b] X.env=[(false,eval b X.env)]:=by rfl) :
  PI X (.Tuple elts ek epos) (.Call (.Name "zip" p) [a,b] [] pos) (cw9 X.K ta):=by
 intro Z s W H R I h
 refine Call_ (aw7 I hg hm boot_zip (dv (thn (ha pos Z s W H _ I h) λ us s1 ⟨vs,H1,G,r1,q1⟩=>?_) (by rw[hs,Y]) (by rw[Y];rfl)))
 obtain⟨x,y,J1,J2,e,S1,S2,q⟩:=q1
 subst e
 cases r1 with
 | cons r rr =>
  cases rr with
  | cons r' rr =>
   cases rr
   obtain⟨o1,n1,f1,m1,d1,z1⟩:=S1.mk G r
   obtain⟨o2,n2,f2,m2,d2,z2⟩:=S2.mk G r'
   refine bp3 f1 f2 m1 m2 λ h' hz hI hO g1 g2 kk=>kx hz ?_
   have D:=cq1 s1.heap.objs.size
   refine⟨s1.heap.objs.size+4,[s1.heap.objs.size+4,s1.heap.objs.size+2,s1.heap.objs.size+3,s1.heap.objs.size,s1.heap.objs.size+1],_,_,H1,rfl,G.kept kk,bu8 (d1 _) (d2 _) D,⟨hz,hI,⟨_,_,hO⟩,z1 _ _ g1,z2 _ _ g2⟩,λ b hb=>?_,q⟩
   have J:s1.heap.objs.size<=b:=by
    simp only[aB,aW,or_false]at hb
    rcases hb with e|e|e|e|e<;>rw[e]<;>first|exact ak _|exact Nat.le_add_right _ _
   exact G.fpOk J (G.hok.fresh J)
end L2
end
noncomputable section
namespace L2
open PySem PySem.Spec PyProof.Rows Builtin
open AutoSeq1 (wpAny_loadPart')
section
variable {X:Cx} {pins:yA} {W:St} {H:Hp} {s:ah} {A:aV} {E:Value->ah->Prop} {J1:It} {t1:Nat->Heap->Prop} {z it:Addr} {n:Nat} {old:Value}
end
end L2
end
noncomputable section
namespace L2
open PySem PySem.Spec PyProof.Rows Builtin
open AutoSeq1 (wpAny_loadPart')
theorem aJ8:fillsNumberSlot (.type "tuple") "mul"=pure false :=
 PySem.fillsNumberSlot_seq eD.lookup (by decide +kernel) gy.lookup (by decide +kernel)
theorem aZ2:seqRepeat? (.type "tuple")=pure (some (.builtin "tuple.__mul__")):=by
 unfold seqRepeat?
 rw[kz (name := "__mul__") eD.lookup (by decide +kernel),kz (name := "__rmul__") gy.lookup (by decide +kernel)]
 rfl
theorem aI7 a t l (o:Obj)(y:yJ) n (G:yI)(sl:yE) :
  Meets (lx.«int.__rmul__» ⟨[.int a t,.ref l],[]⟩) (λ _ R s=>s.heap.get? l=some { cls:=.type "tuple",dict:=G,data:=.seq y n,slots:=sl }/\R (.ok (.ret Value.notImplemented)) s) :=
 .of_wp λ prog w A R s h=>by obtain⟨J,g,d,tk,os⟩:=s;obtain⟨hl,h⟩:=h;wp_walk;exact⟨_,rfl,h⟩
noncomputable def at2 {α:Type}:Nat->List α->List α
 | 0,_=>[]
 | n+1,a=>a++at2 n a
theorem aT8 l :∀ n (h:Array α),(aq n l.toArray).foldl (·++·) h=h++(at2 n l).toArray
 | 0,h=>by simp[at2]
 | n+1,h=>by rw[bO,cx,aT8 l n];simp[at2]
theorem aE8 {α:Type} a :∀ n (h:Array α),((aq n a).foldl (·++·) h).size=h.size+a.size*n
 | 0,h=>by simp
 | n+1,h=>by rw[bO,cx,aE8 a n,Array.size_append,Nat.mul_succ];lia
def TmA (items:yJ)(k:Int)(l:Addr)(R:Value->ah->Prop)(s:ah):Prop :=
 ((items.isEmpty||k==1)=true->R (.ref l) s)/\((items.isEmpty||k==1)=false->R (.ref s.heap.objs.size) { s with heap:=s.heap.push { cls:=.type "tuple",data:=.seq ((aq k.toNat items).foldl (·++·) #[]) } })
theorem bh1 {y:yJ}(h0:0<=k)(Y:k<=1000000)(hz:y.size*k.toNat<=1000000)(hl:IsTup s.heap l y)
  (h:TmA y k l Q s):wpAny (model P w) A (call (.builtin "tuple.__mul__") [.ref l,.int k t]) Q E s:=by
 refine cA eD hl.typeIs PySem.F.entry_tuple_mul ?_ (PySem.F.args_tuple_mul_2 _ _)
 obtain⟨q1,q2⟩:=h
 refine ae (aC ?_)
 rw[if_neg (by rw[decide_eq_false (by lia),decide_eq_false (by lia)];decide)]
 refine ae (iR hl ?_)
 have G:=by
  have:((y.size*k.toNat:Nat):Int)<=1000000:=by lia
  rw[gZ,iL h0]at this
  exact this
 cases hb:(y.isEmpty||k==1)with
 | true =>
  rw[if_pos rfl]
  unfold kX
  refine ae (ae (gI hl.typeIs (aC ?_)))
  rw[if_pos (by decide)]
  exact ae (fJ (aC ⟨_,rfl,q1 hb⟩))
 | false =>
  rw[if_neg aS]
  have J:=by
   rw[eT]at hb;exact hb.1
  have q:=q2 hb
  by_cases hk:k<=0
  .rw[if_pos (by rw[decide_eq_true hk];rfl)]
   have:k.toNat=0:=by lia
   rw[this]at q
   exact ae (bL (aC ⟨_,rfl,q⟩) (by size_fits))
  .rw[if_neg (by rw[decide_eq_false hk,J];decide)]
   rw[if_neg (by lia)]
   rw[if_neg (by unfold fK;rw[decide_eq_false (by unfold aQ;lia)];decide)]
   refine ae (bL (aC ⟨_,rfl,q⟩) ?_)
   show Array.size _<=aQ
   rw[aE8]
   show 0+_<=_
   rw[cD]
   have h3:y.size*k.toNat<=aQ:=ao hz (by decide)
   exact h3
theorem aS3 :∀ n,at2 n ([]:List α)=[]
 | 0=>rfl
 | n+1=>by simp[at2,aS3 n]
theorem bt4 (l:List α):at2 1 l=l:=by simp[at2]
theorem aQ4 (l:List α):∀ n,(at2 n l).length=l.length*n
 | 0=>by simp[at2]
 | n+1=>by simp[at2,aQ4 l n,ip];lia
theorem Vals.repT {us:yG}(r:Vals h us):∀ n,Vals (at2 n h) (at2 n us)
 | 0=>.nil
 | n+1=>r.append (Vals.repT r n)
def co5 (K:af):R2:=λ x y H Q=>∃ a xs n,x=.ref a/\y=.int n/\SqT K H a xs/\(0<=n/\n<=1000000/\xs.length*n.toNat<=1000000)/\∀ p H',ai0 H H'->SqT K H' p (at2 n.toNat xs)->(H' p=some (.tp (at2 n.toNat xs))\/(p=a/\at2 n.toNat xs=xs))->Q (.ref p) H'
theorem bJ1 {K}(hK:X.K=K):OpR X (cz .Mult) (co5 K):=by
 subst hK
 intro J s W H x y v u Q I rx Z h
 obtain⟨a,G,n,rfl,rfl,ha,⟨h0,h1,hz⟩,q⟩:=h
 cases rx
 obtain⟨t,rfl⟩:=Z
 obtain⟨its,r1,p1,a0⟩:=I.tuple ha
 have hlen:=r1.length
 obtain⟨⟨cls,dd,data,sl⟩,ho,hc,n1,hd⟩:=id p1
 simp only at hc hd
 subst hc hd
 refine fL (by decide) p1.typeIs (λ s'=>gM s' n t) aJ8 i7 dX aZ2 iH.lookup
  (i6 dX (gM s n t) iI (ii _ _) (aI7 n t a default its.toArray n1 dd sl) ⟨ho,⟨rfl,p1.typeIs,bh1 h0 h1 (by rw[ay,<-hlen];exact hz) p1 ⟨λ hb=>?_,λ hb=>?_⟩⟩⟩)
 .have ex:at2 n.toNat G=G:=by
   rw[bT]at hb
   rcases hb with hb|hb
   .have hi:=by simpa using hb
    have hx:=r1.nil_iff.mp hi
    rw[hx,aS3]
   .have:=by simpa using hb
    subst this
    exact bt4 _
  exact⟨.ref a,H,I,rfl,q a H (ai0.refl H) (by rw[ex];exact ha) (.inr ⟨rfl,ex⟩)⟩
 .have Y:=I.hok.fresh (ak s.heap.objs.size)
  refine⟨.ref s.heap.objs.size,_,I.laid (λ b ob q=>ag _ q) (ak _) ?_,rfl,q _ _ ((ai0.refl H).new Y) (SqT.of zo) (.inl zo)⟩
  refine⟨by rw[aQ4];exact ao hz (by decide),at2 n.toNat its,r1.repT _,?_⟩
  rw[show(at2 n.toNat its).toArray=(aq n.toNat its.toArray).foldl (·++·) #[]by rw[aT8];simp]
  exact⟨_,aH _ rfl,rfl,_,rfl⟩
end L2
end
noncomputable section
namespace L2
open PySem PySem.Spec PyProof.Rows
theorem aQ1 (h:Room k A):A.units+2<cLine:=Nat.lt_of_le_of_lt (Nat.add_le_add_left (by decide) _) h.units
section
variable {κ:Type} [DecidableEq κ]
noncomputable def aX0 (kvs:List (κ×V))(k:κ):Option V:=(kvs.find? λ kv=>decide (kv.1=k)).map (·.2)
noncomputable def aJ2 (kvs:List (κ×V))(k:κ)(v:V):List (κ×V) :=
 if(kvs.any λ kv=>decide (kv.1=k))=true then kvs.map (λ kv=>if kv.1=k then(kv.1,v)else kv)else kvs++[(k,v)]
theorem an6 {k:κ}(e:p.1=k):aX0 (p::r) k=some p.2:=by simp[aX0,e]
theorem ao5 {k:κ}(e:¬ p.1=k):aX0 (p::r) k=aX0 r k:=by simp[aX0,e]
theorem az4 k :∀ h:List (κ×V),(h.any λ y=>decide (y.1=k))=(aX0 h k).isSome
 | []=>rfl
 | p::r=>by
  rw[gk]
  by_cases e:p.1=k
  .simp only[an6 e,decide_eq_true e,Bool.true_or,fI]
  .rw[ao5 e,decide_eq_false e,lj];exact az4 k r
theorem as7 h (k:κ) v :(aJ2 h k v).length<=h.length+1:=by
 unfold aJ2
 split
 .rw[aD];lia
 .rw[aU,aR,cV];lia
theorem bq8.isSome_eq (r:bq8 o u):o.isSome=u.isSome:=by
 cases o with
 | none=>cases u with
  | none=>rfl
  | some _=>exact(r).elim
 | some _=>cases u with
  | none=>exact(r).elim
  | some _=>rfl
theorem bq8.getD (r:bq8 o u)(h:RelV d d'):RelV (o.getD d) (u.getD d'):=by
 cases o with
 | none=>cases u with
  | none=>exact h
  | some _=>exact(r).elim
 | some _=>cases u with
  | none=>exact(r).elim
  | some _=>exact r
theorem KV.val (r:KV y vs)(k:κ):bq8 (aX0 y k) (iA vs k):=by
 unfold KV at r
 induction r with
 | nil=>exact True.intro
 | @cons p q ps qs h t ih =>
  obtain⟨G,J⟩:=h
  by_cases e:p.1=k
  .have e':=G.symm.trans e
   have b:iA (q::qs) k=some q.2:=by simp[iA,e']
   rw[an6 e,b];exact J
  .have e':¬ q.1=k:=λ z=>e (G.trans z)
   have b:iA (q::qs) k=iA qs k:=by simp[iA,e']
   rw[ao5 e,b];exact ih
theorem KV.any (r:KV y vs)(k:κ):(y.any λ G=>decide (G.1=k))=vs.any λ G=>decide (G.1=k):=by
 unfold KV at r
 induction r with
 | nil=>rfl
 | cons h t ih=>rw[gk,gk,ih,h.1]
theorem KV.repl (r:KV J vs)(k:κ)(Z:RelV y u) :
  KV (J.map λ G=>if G.1=k then(G.1,y)else G) (vs.map λ G=>if G.1=k then(G.1,u)else G):=by
 unfold KV at r ⊢
 induction r with
 | nil=>exact .nil
 | @cons p q ps qs h t ih =>
  rw[aM,aM]
  refine .cons ?_ ih
  obtain⟨Y,h2⟩:=h
  by_cases e:p.1=k
  .rw[if_pos e,if_pos (Y.symm.trans e)];exact⟨Y,Z⟩
  .rw[if_neg e,if_neg (λ z=>e (Y.trans z))];exact⟨Y,h2⟩
theorem KV.put (r:KV h vs)(k:κ)(G:RelV y u):KV (aJ2 h k y) (stored vs k u):=by
 unfold aJ2 stored
 rw[r.any k]
 by_cases e:(vs.any λ J=>decide (J.1=k))=true
 .rw[if_pos e,if_pos e];exact r.repl k G
 .rw[if_neg e,if_neg e];exact lH r ⟨rfl,G⟩
theorem KV.length {vs:List (κ×Value)}(r:KV h vs):h.length=vs.length:=lh r
end
theorem bn8 (r:RelV (kV k) u):(qf P w).is k u=true:=by
 cases k with
 | inl i=>obtain⟨t,e⟩:=(r);subst e;exact aN1 P w i t
 | inr x=>obtain⟨t,e⟩:=(r);subst e;exact aM9 P w x t
abbrev KT (H:Hp):List (List NI×V)->List (List NI×Addr×Value)->Prop:=eY λ p q=>p.1=q.1/\NK H p.1 q.2.1/\RelV p.2 q.2.2
theorem KT.val (r:KT H y G) k :bq8 (aX0 y k) ((atKey G k).map (·.2)):=by
 induction r with
 | nil=>exact True.intro
 | @cons p q ps qs h t ih =>
  obtain⟨J,_,Y⟩:=h
  by_cases e:p.1=k
  .have e':=J.symm.trans e
   have b:atKey (q::qs) k=some q.2:=by simp[atKey,e']
   rw[an6 e,b];exact Y
  .have e':¬ q.1=k:=λ z=>e (J.trans z)
   have b:atKey (q::qs) k=atKey qs k:=by simp[atKey,e']
   rw[ao5 e,b];exact ih
theorem KT.repl (r:KT H G Z) k (ry:RelV y u) :
  KT H (G.map λ Y=>if Y.1=k then(Y.1,y)else Y) (Z.map (putAt k u)):=by
 induction r with
 | nil=>exact .nil
 | @cons p q ps qs h t ih =>
  rw[aM,aM]
  refine .cons ?_ ih
  obtain⟨J,h2,h3⟩:=h
  unfold putAt
  by_cases e:p.1=k
  .rw[if_pos e,if_pos (J.symm.trans e)];exact⟨J,h2,ry⟩
  .rw[if_neg e,if_neg (λ z=>e (J.trans z))];exact⟨J,h2,h3⟩
theorem KT.put (r:KT H h G) k (hb:NK H k b)(J:RelV y u) :
  KT H (aJ2 h k y) (storedH G k b u):=by
 have e:(h.any λ Y=>decide (Y.1=k))=(atKey G k).isSome:=by
  rw[az4,(r.val k).isSome_eq,Option.isSome_map]
 unfold aJ2 storedH
 rw[e]
 by_cases q:(atKey G k).isSome=true
 .rw[if_pos q,if_pos q];exact r.repl k J
 .rw[if_neg q,if_neg q];exact lH r ⟨rfl,hb,J⟩
theorem KT.keeps (r:KT H h y)(ht:∀ b ys,H b=some (.tp ys)->H' b=some (.tp ys)):KT H' h y :=
 eY.mapP r λ _ _ z=>⟨z.1,z.2.1.mono ht,z.2.2⟩
section
variable {P:aK} {w:World} {H:Hp} {h:Heap} {a:Addr}
theorem cs8 (ok:HOk P w H h)(e:Rd H a u):ag0 P w H h a u:=e.ok ok
theorem bf3 (ok:HOk P w H h)(e:Rd H a (.dK y)):y.length<=aQ/\(a==fy)=false/\∃ vs,KV y vs/\h.DictOf (qf P w) a vs :=
 cs8 ok e
theorem cj6 (ok:HOk P w H h)(e:H a=some (.dK y)):y.length<=aQ/\(a==fy)=false/\∃ vs,KV y vs/\h.DictOf (qf P w) a vs:=bf3 ok (.inl e)
end
def br1 (H:Hp)(a:Addr)(y:V)(r:Option V):Prop :=
 (∃ kvs k,Rd H a (.dK kvs)/\y=kV k/\r=aX0 kvs k)\/False
def cl4 (H:Hp)(a:Addr)(y v:V)(H':Hp):Prop :=
 (∃ kvs k,H a=some (.dK kvs)/\y=kV k/\kvs.length<aQ/\H'=upd H a (.dK (aJ2 kvs k v)))\/False
theorem br1.k {k}(e:H a=some (.dK h)):br1 H a (kV k) (aX0 h k):=.inl ⟨h,k,.inl e,rfl,rfl⟩
theorem cl4.k {k}(e:H a=some (.dK h))(hl:h.length<aQ):cl4 H a (kV k) v (upd H a (.dK (aJ2 h k v))):=.inl ⟨h,k,e,rfl,hl,rfl⟩
section
variable {X:Cx} {pins:yA} {W:St} {H:Hp} {s:ah} {a:Addr} {y v:V} {u r:Value} {o:Option V} {A:aV} {E:Value->ah->Prop}
theorem Inv.big (I:Inv X pins W H s):fy<s.heap.objs.size:=by
 have h:=(I.mod.glob.keeps I.bk).lt
 exact eB (by decide) h
theorem ba8 (hu:A.units+2<cLine)(I:Inv X pins W H s)(g:br1 H a y (some v))(Z:RelV y u)(h:∀ w' s',Inv X pins W H s'->RelV v w'->Q w' s') :
  wpAny (model X.prog X.w) A (gH (.ref a) u) Q E s:=by
 rcases g with⟨a0,k,e,Y,l⟩|g
 .subst Y
  obtain⟨z,hd,vs,G,dd⟩:=bf3 I.hok e
  obtain⟨w',hw,J⟩:=bq8.some_of (by rw[l];exact G.val k)
  exact wpAny_getItem_of (bn8 Z) dd.mapOf hw (h w' _ (I.tok _) J)
 .exact g.elim
theorem cx9 (hu:A.units+2<cLine)(I:Inv X pins W H s)(g:br1 H a y o)(Y:RelV y u)(h:∀ s',Inv X pins W H s'->Q (.bool o.isSome) s') :
  wpAny (model X.prog X.w) A (cF .In u (.ref a)) Q E s:=by
 rcases g with⟨Z,k,e,J,l⟩|g
 .subst J
  obtain⟨z,hd,vs,G,dd⟩:=bf3 I.hok e
  refine wpAny_in_of (bn8 Y) hd dd.mapOf ?_
  rw[<-(G.val k).isSome_eq,<-l]
  exact h _ (I.tok _)
 .exact g.elim
theorem bT3 (hu:A.units+2<cLine)(I:Inv X pins W H s)(g:br1 H a y o)(Y:RelV y u)(h:∀ s',Inv X pins W H s'->Q (.bool (!o.isSome)) s') :
  wpAny (model X.prog X.w) A (cF .NotIn u (.ref a)) Q E s:=by
 rcases g with⟨Z,k,e,J,l⟩|g
 .subst J
  obtain⟨z,hd,vs,G,dd⟩:=bf3 I.hok e
  refine wpAny_notIn_of (bn8 Y) hd dd.mapOf ?_
  rw[<-(G.val k).isSome_eq,<-l]
  exact h _ (I.tok _)
 .exact g.elim
theorem bi5 (I:Inv X pins W H s)(mu:Mut (H a))(hs:cc a s.heap h')(h:∃ q,h'.get? a=some q)(new:ag0 X.prog X.w (upd H a ob) h' a ob) :
  Inv X pins W (upd H a ob) { s with heap:=h',toks:=t' } :=
 I.write mu (.inl rfl) (λ b q hb z=>(hs.2 b hb).trans z) h new
theorem bA6 (z:h.length<=aQ)(hd:(a==fy)=false)(y:KV h vs)(dd:h'.DictOf (qf P w) a vs) :
  ag0 P w H' h' a (.dK h):=⟨z,hd,vs,y,dd⟩
theorem be5 (hu:A.units+2<cLine)(I:Inv X pins W H s)(g:cl4 H a y v H')(Z:RelV y u)(rv:RelV v r)(h:∀ s',Inv X pins W H' s'->Q () s') :
  wpAny (model X.prog X.w) A (setItem (.ref a) u r) Q E s:=by
 rcases g with⟨Y,k,e,ey,l,eH⟩|g
 .subst ey eH
  obtain⟨z,hd,vs,J,dd⟩:=cj6 I.hok e
  have hz:vs.length<=aQ:=by rw[<-J.length];exact z
  have hl:(aJ2 Y k v).length<=aQ:=by have:=as7 Y k v;lia
  refine wpAny_setItem_pairs (bn8 Z) dd λ h' G hs=>h _ ?_
  have he:∃ q,h'.get? a=some q:=let⟨q,_,_,hq,_⟩:=G;⟨q,hq⟩
  exact bi5 I (by rw[e];exact True.intro) hs he (bA6 hl hd (J.put k rv) G)
 .exact g.elim
end
section
variable {X:Cx} {pins:yA} {W:St} {H:Hp} {s:ah} {a:Addr} {kvs:List (Key×V)} {k:Key} {u:Value} {A:aV} {E:Value->ah->Prop}
end
theorem aK4 {W:St}(I:Inv X h W H s)(g:br1 H a y o):s.TypeIs (.ref a) "dict":=by
 rcases g with⟨G,k,e,_,_⟩|g
 .obtain⟨_,_,vs,_,dd⟩:=bf3 I.hok e
  exact dd.typeIs
 .exact g.elim
section
variable {X:Cx} {o i e value:Expr} {pos pos' tpos:Pos} {td ty tv:TE}
end
theorem aO4 (h:Heap)(hb:fy<h.objs.size):ag0 P w H (h.push { cls:=.type "dict",data:=.dict #[] }) h.objs.size (.dK []) :=
 ⟨c8 _,beq_eq_false_iff_ne.mpr (cb (aA hb)),[],.nil,Heap.DictOf.new h⟩
def bA4:TE:=λ _ H Q=>∀ p,H p=none->Q (.ref p) (upd H p (.dK []))
section
variable {X:Cx} {pos:Pos}
theorem bx5:PE X (.Dict [] [] pos) bA4:=λ y s W H Q I h =>
 wpAny_Dict_empty ⟨.ref s.heap.objs.size,_,I.laid (λ _ _ q=>ag _ q) (ak _) (aO4 s.heap I.big),rfl,h _ (I.hok.fresh (ak _))⟩
end
noncomputable def bc0:List (TE×TE)->St->Hp->(List (V×V)->Hp->Prop)->Prop
 | [],_,H,Q=>Q [] H
 | (tk,tv)::r,W,H,Q=>tk W H λ x H1=>tv W H1 λ y H2=>bc0 r W H2 λ ps H3=>Q ((x,y)::ps) H3
abbrev VV:List (V×V)->List (Value×Value)->Prop:=eY λ p q=>RelV p.1 q.1/\RelV p.2 q.2
def PPs (X:Cx)(pos:Pos)(keys:List (Option Expr))(values:yK)(trs:List (TE×TE)):Prop :=
 ∀ pins s (W:St) H Q ,Inv X pins W H s->bc0 trs W H Q ->
  wpAny (model X.prog X.w) X.A (evalPairs (pairTrees keys values X.env pos)) (λ vs s'=>∃ ps H',Inv X pins W H' s'/\VV ps vs/\Q ps H') X.xe s
theorem bJ3 :PPs X pos [] [] []:=λ y s W H Q I h=>pairTrees_nil_walk ⟨[],H,I,.nil,h⟩
theorem bu5 (hk:PE X k tk)(hv:PE X v Z)(hr:PPs X pos ks vs J) :
  PPs X pos (some k::ks) (v::vs) ((tk,Z)::J):=λ G s W H Q I h =>
 pairTrees_cons_walk (thn (hk G s W H _ I h) λ u s1 ⟨x,H1,I1,rx,q1⟩=>thn (hv G s1 W H1 _ I1 q1) λ w2 s2 ⟨y,H2,I2,ry,q2⟩ =>
  thn (hr G s2 W H2 _ I2 q2) λ ws s3 ⟨ps,H3,I3,Y,q3⟩=>⟨(x,y)::ps,H3,I3,.cons ⟨rx,ry⟩ Y,q3⟩)
def aF6 (kvs more:List (Key×V)):List (Key×V):=more.foldl (λ acc kv=>aJ2 acc kv.1 kv.2) kvs
theorem KV.merge:∀ {y} {J} {G} {vs},KV y J->KV G vs->KV (aF6 G y) (merged vs J):=by
 intro y J G vs r
 unfold KV at r
 induction r generalizing G vs with
 | nil=>intro q;exact q
 | @cons p q ps qs h t ih =>
  intro r0
  have e:KV (aJ2 G p.1 p.2) (stored vs q.1 q.2):=by
   have:=r0.put p.1 h.2
   rw[<-h.1];exact this
  exact ih e
theorem ak3:∀ y h ,(aF6 h y).length<=h.length+y.length
 | [],h=>by show h.length<=h.length+0;lia
 | p::r,h=>by
  have G:=ak3 r (aJ2 h p.1 p.2)
  have J:=as7 h p.1 p.2
  show(aF6 (aJ2 h p.1 p.2) r).length<=_
  rw[aR];lia
theorem av9 :∀ {y} {ws},VV (y.map λ J=>(kV J.1,J.2)) ws->∃ G,Carries (qf P w) ws G/\KV y G
 | [],_,r=>by rw[dF]at r;cases r;exact⟨[],True.intro,.nil⟩
 | p::y,_,r=>by
  rw[aM]at r
  cases r with
  | @cons a b as bs h t =>
   obtain⟨G,c,q⟩:=av9 t
   obtain⟨b1,Y⟩:=b
   exact⟨(p.1,Y)::G,⟨bn8 h.1,rfl,c⟩,.cons ⟨rfl,h.2⟩ q⟩
def ck7 (trs:List (TE×TE)):TE:=λ W H Q=>∀ p,H p=none->bc0 trs W (upd H p (.dK [])) λ ps H2=>H2 p=some (.dK [])/\∃ kvs,ps=kvs.map (λ kv=>(kV kv.1,kv.2))/\kvs.length<=15/\Q (.ref p) (upd H2 p (.dK (aF6 [] kvs)))
theorem bL5 (h:PPs X pos keys y a0)(J:keys.all (·.isSome)=true)(hl:keys.length=y.length)(h0:keys≠[])
  (a1:keys.length<=15):PE X (.Dict keys y pos) (ck7 a0):=by
 intro Y s W H Q I q
 have hn:=I.hok.fresh (ak s.heap.objs.size)
 have I1:=I.laid (t':=s.toks) (λ _ _ q=>ag _ q) (ak _) (aO4 s.heap I.big)
 refine wpAny_Dict_walk (knd:=qf X.prog X.w) J hl h0 a1 (thn (h Y _ W _ _ I1 (q _ hn)) λ ws s2 ⟨ps,H2,I2,a2,e,Z,ep,lk,q2⟩=>?_)
 subst ep
 obtain⟨rs,c,rk⟩:=av9 a2
 obtain⟨z,hd,a3,r0,dd⟩:=cj6 I2.hok e
 cases r0
 refine⟨rs,c,dd,λ h' G hs=>⟨.ref s.heap.objs.size,_,?_,rfl,q2⟩⟩
 have hz:(aF6 [] Z).length<=aQ:=by
  have h1:=ak3 Z []
  rw[cV]at h1
  rw[fQ];lia
 have he:∃ q,h'.get? s.heap.objs.size=some q:=let⟨q,_,_,hq,_⟩:=G;⟨q,hq⟩
 exact bi5 I2 (by rw[e];exact True.intro) hs he (bA6 hz hd (rk.merge .nil) G)
section
variable {X:Cx} {pins:yA} {W:St} {H:Hp} {s:ah} {a:Addr} {y d:V} {u r:Value} {o:Option V} {A:aV} {E:Value->ah->Prop}
end
section
variable {X:Cx} {o e f:Expr} {apos cpos:Pos} {td ty tx:TE}
end
section
variable {P:aK} {w:World} {A:aV} {E:Value->ah->Prop} {s:ah}
end
section
variable {X:Cx} {pins:yA} {W:St} {H:Hp} {s:ah}
end
section
variable {prog:aK} {w:World} {A:aV} {R:kP->ah->Prop} {I:Addr} {fp wr:List Addr} {n:Nat} {P:Nat->Value->Prop} {St:Nat->Heap->Prop} {kw:List (Str×Value)}
end
section
variable {X:Cx} {pins:yA} {W:St} {H:Hp} {s:ah} {a Cc:Addr} {a0:Value}
end
section
variable {P:aK} {w:World} {K:af} {mg:yC} {base:Heap} {N:yH} {qual:Str} {scope:Scope} {f:Addr} {cd:Value} {A:aV} {outer:List Env} {s0:ah} {H0:Hp} {E:XK}
end
noncomputable def excTail:List Value:=[.type "ValueError",.type "Exception",.type "BaseException",.type "object"]
structure ExcCls (K:af)(Cc:Addr):Prop where
 obj:∃ bm N nm q bs hdct sn sub ab col dd k0 k1 k2 k3 k5 mN,K.lookup Cc=some (excClassObj nm q Cc N bs bm hdct sn sub ab col dd k0 k1 k2 k3 k5 "ValueError.__new__")/\(∀ n∈quietNames,mN n=none)/\∀ h:Heap,K.In h->h.Ns N mN/\OwnTailQ h excTail bm
noncomputable def excI (K:af)(Cc:Addr):Bool:=d9 K (.ref Cc) (bD "__getattribute__")==some (some (.builtin "BaseException.__getattribute__"))&&(d9 K (.ref Cc) (bD "__getattr__")==some none&&(d9 K (.ref Cc) (bD "__class__")==some (some (.builtin "object.__class__"))&&(PySem.W.specialIn K (.builtin "object.__class__") (bD "__get__")==some (some (.builtin "getset_descriptor.__get__"))&&(PySem.W.takesIn K (.builtin "object.__class__")==some true&&PySem.W.mroIn K Cc (.type "object")==some true))))
section
variable {X:Cx} {E:XK} {Cc:Addr} {x:Str}
end
section
variable {X:Cx} {pins:yA} {W:St} {H:Hp} {s:ah} {a Cc T:Addr} {fl fl' a0:Value} {h':Heap}
end
section
variable {X:Cx} {pins:yA} {W:St} {H:Hp} {s:ah} {a Cc:Addr} {oe:Obj} {fl:Value}
end
section
variable {prog:aK} {w:World} {A:aV} {R:kP->ah->Prop} {I:Addr} {fp wr:List Addr} {n:Nat} {P:Nat->Value->Prop} {St:Nat->Heap->Prop} {h₀:Heap}
end
section
variable {X:Cx} {pins:yA} {W:St} {H:Hp} {s:ah} {a Cc:Addr} {oe:Obj} {fl:Value}
end
section
variable {X:Cx} {pins:yA} {W:St} {H:Hp} {s:ah} {a Cc D':Addr} {oe:Obj} {fl:Value}
end
section
open PySem.AutoSeq1 (wpAny_loadPart')
open PySem.MeetsSeq PySem.MeetsSeq2 PySem.MeetsSeq3 PySem.SeqAt
end
section
variable {A:aV} {s:ah}
end
section
variable {prog:aK} {w:World} {A:aV} {E:Value->ah->Prop} {s:ah} {x y:Str} {t u:Tok}
end
end L2
end
noncomputable section
namespace DV
inductive D where
 | N|T (b:Bool)|int (i:Int)|str (x:List Nat)|tp (l:List D)|ref (n:Nat)|fn (f:String)|clo (f:String) (cs:List D)
noncomputable instance:DecidableEq D:=λ a b=>d6 (a=b)
noncomputable instance (x:D):Decidable (x=.N):=match x with
 | .N=>.isTrue rfl
 | .T _=>.isFalse nofun
 | .int _=>.isFalse nofun
 | .str _=>.isFalse nofun
 | .tp _=>.isFalse nofun
 | .ref _=>.isFalse nofun
 | .fn _=>.isFalse nofun
 | .clo _ _=>.isFalse nofun
inductive O where
 | J (l:List D)|ro (l:List D)|dc (l:List (D×D))|ins (c:String) (fs:List (String×D))
noncomputable instance:DecidableEq O:=λ a b=>d6 (a=b)
abbrev Sto:=List O
noncomputable def O.kd:O->Nat
 | .J _=>0|.ro _=>1|.dc _=>2|.ins _ _=>3
inductive R (α:Type) where
 | ok (a:α) (s:Sto)|exc (e:D) (s:Sto)|B
noncomputable abbrev M α :=Sto->R α
noncomputable def R.bind (r:R α)(f:α->Sto->R β):R β:=match r with
 | .ok a s=>f a s
 | .exc e s=>.exc e s
 | .B=>.B
@[simp] theorem R.bind_ok a s (f:α->Sto->R β):(R.ok a s).bind f=f a s:=rfl
@[simp] theorem R.bind_bad (f:α->Sto->R β):(R.B).bind f=.B:=rfl
@[simp] theorem R.bind_exc e s (f:α->Sto->R β):(R.exc e s).bind f=.exc e s:=rfl
theorem R.bind_inv {r:R α}{b:β}(h:r.bind f=.ok b t):∃ a s,r=.ok a s/\f a s=.ok b t:=by
 cases r with
 | ok a s=>exact⟨a,s,rfl,h⟩
 | exc e s=>cases h
 | B=>cases h
@[simp] theorem R.bind_assoc (r:R α) f (g:β->Sto->R γ):(r.bind f).bind g=r.bind λ a s=>(f a s).bind g:=by cases r<;>rfl
mutual
noncomputable def D.bnd (n:Nat):D->Bool
 | .tp l=>D.bndL n l
 | .ref k=>decide (k<n)
 | .clo _ l=>D.bndL n l
 | _=>true
noncomputable def D.bndL (n:Nat):List D->Bool
 | []=>true
 | d::l=>D.bnd n d&&D.bndL n l
end
def O.bnd (n:Nat):O->Bool
 | .J l=>D.bndL n l
 | .ro l=>D.bndL n l
 | .dc l=>D.bndL n (l.map (·.1))&&D.bndL n (l.map (·.2))
 | .ins _ fs=>D.bndL n (fs.map (·.2))
mutual
noncomputable def D.plain:D->Bool
 | .N=>true|.int _=>true|.str _=>true
 | .tp l=>D.plainL l
 | _=>false
noncomputable def D.plainL:List D->Bool
 | []=>true
 | d::l=>D.plain d&&D.plainL l
end
mutual
noncomputable def D.ncl:D->Bool
 | .tp l=>D.nclL l
 | .clo _ _=>false
 | _=>true
noncomputable def D.nclL:List D->Bool
 | []=>true
 | d::l=>D.ncl d&&D.nclL l
end
def O.ncl:O->Bool
 | .J l=>D.nclL l
 | .ro l=>D.nclL l
 | .dc l=>D.nclL (l.map (·.2))
 | _=>false
noncomputable def D.key:D->Bool
 | .int _=>true|.str _=>true|_=>false
noncomputable def D.hdI:List D->Bool
 | .int _::_=>true|.N::_=>true|.tp _::_=>true|_=>false
noncomputable def LIM:Nat:=1000000
@[irreducible] noncomputable def BIG:Nat:=2^60000
@[irreducible] noncomputable def DIVL:Nat:=2^4096
inductive BOp where
 | add|sub|mul|fdiv|mod|pow|shl|shr|band|bor
 deriving DecidableEq
inductive COp where
 | eq|ne|lt|le|gt|ge|isin|notin
 deriving DecidableEq
inductive Cn where
 | N|T (b:Bool)|int (i:Int)|str (x:List Nat)
 deriving DecidableEq
noncomputable def Cn.d:Cn->D
 | .N=>.N|.T b=>.T b|.int i=>.int i|.str x=>.str x
inductive Bi where
 | len|abs|int|str|min2|max2|max3|min3|isInt|isBool|isStr|isTup|isList|ord
 deriving DecidableEq
inductive Mk where
 | tuple|list|all|any|sum|min|max|sorted|lenset
 deriving DecidableEq
inductive Mt where
 | append|partition
 deriving DecidableEq
inductive Tg where
 | Y (i:Nat)|tp (is:List Nat)
 deriving DecidableEq
set_option genInjectivity false
mutual
inductive E where
 | X (i:Nat)|K (c:Cn)|gl (x:String)
 | G (op:BOp) (a b:E)|neg (a:E)|not (a:E)
 | Z (op:COp) (a b:E)|chain (o p:COp) (a b c:E)
 | isN (a:E)|notN (a:E)
 | and (a b:E)|or (a b:E)|ite (c a b:E)
 | tp (es:Es)|J (es:Es)|dc (ks vs:Es)
 | ix (a b:E)|slU (a hi:E)
 | call (f:String) (as:As)|callC (f:String) (as:As)|callV (i:Nat) (es:Es)
 | bi (b:Bi) (es:Es)|mk (k:Mk) (l:L)|mkD (k:Mk) (l:L) (d:E)
 | me (m:Mt) (o:E) (es:Es)
inductive Es where
 | nil|cons (e:E) (es:Es)
inductive As where
 | nil|ex (e:E) (as:As)|lam (id:String) (caps:List Nat) (as:As)|fn (f:String) (as:As)
inductive I where
 | seq (e:E)|rg (a:E)|zip (a b:I)
inductive L where
 | comp (tg:Tg) (it:I) (e:E) (caps:yD)|compIf (tg:Tg) (it:I) (c e:E) (caps:yD)|disp (es:Es)|seq (e:E)
end
mutual
inductive S where
 | A (tg:Tg) (e:E)|setIx (o i e:E)|ex (e:E)|ret (e:E)
 | ite (c:E) (a b:Ss)|whl (c:E) (b:Ss)|fo (tg:Tg) (it:I) (b:Ss)|raise|und (i:Nat)
inductive Ss where
 | nil|cons (s:S) (ss:Ss)
end
set_option genInjectivity true
abbrev Env:=List (Option D)
noncomputable def ag6 (o:O):M D:=λ s=>.ok (.ref s.length) (s++[o])
noncomputable def pur (d:D):M D:=λ s=>.ok d s
noncomputable def bad :M α:=λ _=>.B
def mulOk (a b:Int):Bool:=decide (a.natAbs<2^64)||decide (b.natAbs<2^64)||(decide (a.natAbs<BIG)&&decide (b.natAbs<BIG))
noncomputable def rep:Nat->List Nat->List Nat
 | 0,_=>[]
 | n+1,a=>a++rep n a
noncomputable def ba4:Nat->List D->List D
 | 0,_=>[]
 | n+1,a=>a++ba4 n a
def jv:BOp->D->D->M D
 | .add,.int a,.int b=>pur (.int (a+b))
 | .add,.str a,.str b=>if a.length+b.length<=LIM then pur (.str (a++b))else bad
 | .add,.tp a,.tp b=>if a.length+b.length<=LIM then pur (.tp (a++b))else bad
 | .add,.ref a,.ref b=>λ s=>match s[a]?,s[b]? with
  | some (.J l),some (.J m)=>if l.length+m.length<=LIM then ag6 (.J (l++m)) s else .B
  | _,_=>.B
 | .sub,.int a,.int b=>pur (.int (a - b))
 | .mul,.int a,.int b=>if mulOk a b then pur (.int (a*b))else bad
 | .mul,.str a,.int n=>if 0<=n/\n<=1000000/\a.length*n.toNat<=LIM then pur (.str (rep n.toNat a))else bad
 | .mul,.tp a,.int n=>if 0<=n/\n<=1000000/\a.length*n.toNat<=LIM then pur (.tp (ba4 n.toNat a))else bad
 | .mul,.ref a,.int n=>λ s=>match s[a]? with
  | some (.J l)=>if 0<=n/\n<=1000000/\l.length*n.toNat<=LIM then ag6 (.J (ba4 n.toNat l)) s else .B
  | _=>.B
 | .fdiv,.int a,.int b=>if 0<b/\b<(DIVL)then pur (.int (a / b))else bad
 | .mod,.int a,.int b=>if 0<b then pur (.int (a % b))else bad
 | .pow,.int a,.int b=>if 0<=b/\b<=1000000/\a.natAbs<2^64 then pur (.int (a^b.toNat))else bad
 | .shl,.int a,.int b=>if 0<=b/\b<=1000000/\a.natAbs<2^64 then pur (.int (a*2^b.toNat))else bad
 | .shr,.int a,.int b=>if 0<=b then pur (.int (a / 2^b.toNat))else bad
 | _,_,_=>bad
noncomputable def kd (s:Sto):D->Nat
 | .N=>0|.T _=>1|.int _=>1|.str _=>2|.tp _=>3
 | .ref r=>match s[r]? with|some (.J _)=>4|_=>9
 | _=>9
noncomputable def aD8 (a b:Nat):Bool:=a==9||b==9||a==b
noncomputable def b2i (b:Bool):Int:=if b then 1 else 0
def bg9:D->D->Option Bool
 | .N,.N=>some true
 | .T a,.T b=>some (a==b)
 | .int a,.int b=>some (a==b)
 | .T a,.int b=>some (b2i a==b)
 | .int a,.T b=>some (a==b2i b)
 | .str a,.str b=>some (a==b)
 | _,_=>none
def ag3 (s:Sto)(a b:D):Option Bool:=match bg9 a b with
 | some z=>some z
 | none=>if aD8 (kd s a) (kd s b)then none else some false
noncomputable def eqL (f:D->D->Option Bool):List D->List D->Option Bool
 | [],[]=>some true
 | [],_::_=>some false
 | _::_,[]=>some false
 | a::l,b::m=>match f a b,eqL f l m with
  | some x,some y=>some (x&&y)
  | _,_=>none
def eqv (s:Sto):Nat->D->D->Option Bool
 | 0,a,b=>ag3 s a b
 | n+1,a,b=>match a,b with
  | .tp l,.tp m=>eqL (eqv s n) l m
  | .ref x,.ref y=>match s[x]?,s[y]? with
   | some (.J l),some (.J m)=>if l.length=m.length then eqL (eqv s n) l m else some false
   | _,_=>none
  | a,b=>ag3 s a b
noncomputable def DEEP:Nat:=30
def eqM (a b:D):M D:=λ s=>match eqv s DEEP a b with
 | some r=>.ok (.T r) s
 | none=>.B
def inL (s:Sto)(x:D):List D->Option Bool
 | []=>some false
 | y::l=>match eqv s DEEP y x,inL s x l with
  | some a,some b=>some (a||b)
  | _,_=>none
noncomputable def look (k:D):List (D×D)->Option D
 | []=>none
 | (a,v)::l=>if a=k then some v else look k l
def inM (a b:D):M Bool:=λ s=>match b with
 | .tp l=>match inL s a l with|some r=>.ok r s|none=>.B
 | .ref r=>match s[r]? with
  | some (.J l)=>match inL s a l with|some r=>.ok r s|none=>.B
  | some (.dc l)=>if a.key then .ok (look a l).isSome s else .B
  | _=>.B
 | .str y=>match a with|.str [c]=>.ok (decide (c∈y)) s|_=>.B
 | _=>.B
noncomputable def bs9:D->Option (Int×List Nat)
 | .tp [.int i,.str x]=>some (i,x)
 | _=>none
def cl3 (f:Int->List Nat->Int->List Nat->Bool)(a b:D):M D:=λ s=>match bs9 a,bs9 b with
 | some (i,x),some (j,y)=>.ok (.T (f i x j y)) s
 | _,_=>.B
def qj:COp->D->D->M D
 | .eq,a,b=>eqM a b
 | .ne,a,b=>λ s=>match eqv s DEEP a b with|some r=>.ok (.T (!r)) s|none=>.B
 | .lt,.int a,.int b=>pur (.T (decide (a<b)))
 | .le,.int a,.int b=>pur (.T (decide (a<=b)))
 | .gt,.int a,.int b=>pur (.T (decide (b<a)))
 | .ge,.int a,.int b=>pur (.T (decide (b<=a)))
 | .isin,a,b=>λ s=>(inM a b s).bind λ r s=>.ok (.T r) s
 | .notin,a,b=>λ s=>(inM a b s).bind λ r s=>.ok (.T (!r)) s
 | _,_,_=>bad
noncomputable def ixn (n:Nat)(i:Int):Option Nat:=if 0<=i then(if i<n then some i.toNat else none)else if -(n)<=i then some (i+n).toNat else none
noncomputable def sbd (n:Nat)(i:Int):Nat:=if 0<=i then min i.toNat n else(i+n).toNat
def loB (n:Nat):Option Int->Nat
 | none=>0
 | some i=>sbd n i
def hiB (n:Nat):Option Int->Nat
 | none=>n
 | some i=>sbd n i
def aS6 {α:Type}(l:List α)(lo hi:Option Int):List α:=(l.drop (loB l.length lo)).take (hiB l.length hi - loB l.length lo)
def ixM (a b:D):M D:=λ s=>match a,b with
 | .tp l,.int i=>match(ixn l.length i).bind λ j=>l[j]? with|some d=>.ok d s|none=>.B
 | .str l,.int i=>match(ixn l.length i).bind λ j=>l[j]? with|some c=>.ok (.str [c]) s|none=>.B
 | .ref r,b=>match s[r]? with
  | some (.J l)=>match b with
   | .int i=>match(ixn l.length i).bind λ j=>l[j]? with|some d=>.ok d s|none=>.B
   | _=>.B
  | some (.ro l)=>match b with
   | .int i=>match(ixn l.length i).bind λ j=>l[j]? with|some d=>.ok d s|none=>.B
   | _=>.B
  | some (.dc l)=>if b.key then match look b l with|some d=>.ok d s|none=>.B else .B
  | _=>.B
 | _,_=>.B
def slM (a:D)(lo hi:Option Int):M D:=λ s=>match a with
 | .tp l=>.ok (.tp (aS6 l lo hi)) s
 | .str l=>.ok (.str (aS6 l lo hi)) s
 | .ref r=>match s[r]? with
  | some (.J l)=>ag6 (.J (aS6 l lo hi)) s
  | _=>.B
 | _=>.B
noncomputable def au2:List D->Option (List Bool)
 | []=>some []
 | .T b::l=>(au2 l).map (b::·)
 | _=>none
noncomputable def qJ:List D->Option (List Int)
 | []=>some []
 | .int i::l=>(qJ l).map (i::·)
 | _=>none
noncomputable def aw8:List D->Option (List (List Nat))
 | []=>some []
 | .str i::l=>(aw8 l).map (i::·)
 | _=>none
noncomputable def bG7 (d:D):M D:=λ s=>match d with
 | .tp l=>.ok (.int l.length) s
 | .str l=>.ok (.int l.length) s
 | .ref r=>match s[r]? with
  | some (.J l)=>.ok (.int l.length) s
  | some (.ro l)=>.ok (.int l.length) s
  | _=>.B
 | _=>.B
noncomputable def isK (k:Nat)(d:D):M D:=λ s=>match d with
 | .N=>.ok (.T false) s
 | .T _=>.ok (.T (k==1||k==2)) s
 | .int _=>.ok (.T (k==1)) s
 | .str _=>.ok (.T (k==3)) s
 | .tp _=>.ok (.T (k==4)) s
 | .ref r=>match s[r]? with
  | some (.J _)=>.ok (.T (k==5)) s
  | _=>.B
 | _=>.B
def bi1 (f:D->M D):List D->M D
 | [d]=>f d
 | _=>bad
def aW0:List D->M D
 | [.str [c]]=>λ s=>if 48<=c/\c<=57 then .ok (.int ((c - 48:Nat))) s else .B
 | _=>bad
def bp9:List D->M D
 | [.int i]=>λ s=>if 0<=i/\i<=9 then .ok (.str [48+i.toNat]) s else .B
 | [.str w]=>λ s=>.ok (.str w) s
 | _=>bad
def bi:Bi->List D->M D
 | .len,l=>bi1 bG7 l
 | .abs,l=>λ s=>match qJ l with|some [i]=>.ok (.int (if i<0 then -i else i)) s|_=>.B
 | .int,l=>λ s=>match au2 l with|some [b]=>.ok (.int (if b then 1 else 0)) s|some _=>.B|none=>aW0 l s
 | .str,l=>bp9 l
 | .min2,l=>λ s=>match qJ l with|some [a,b]=>.ok (.int (if b<a then b else a)) s|_=>.B
 | .max2,l=>λ s=>match qJ l with|some [a,b]=>.ok (.int (if b > a then b else a)) s|_=>.B
 | .max3,l=>λ s=>match qJ l with|some [a,b,c]=>.ok (.int (max (max a b) c)) s|_=>.B
 | .isInt,l=>bi1 (isK 1) l
 | .isBool,l=>bi1 (isK 2) l
 | .isStr,l=>bi1 (isK 3) l
 | .isTup,l=>bi1 (isK 4) l
 | .isList,l=>bi1 (isK 5) l
 | _,_=>bad
noncomputable def minI:List Int->Option Int
 | []=>none
 | a::l=>some (l.foldl min a)
noncomputable def cx1:List Int->Option Int
 | []=>none
 | a::l=>some (l.foldl max a)
noncomputable def ins (a:Int):List Int->List Int
 | []=>[a]
 | b::l=>if a<=b then a::b::l else b::ins a l
def ce6:List Int->List Int
 | []=>[]
 | a::l=>ins a (ce6 l)
noncomputable def cy3 (is:List Int):Bool:=is.all (λ i=>decide (-1000000000<=i/\i<=1000000000))&&decide (is.length<=1000000)
def mk:Mk->List D->M D
 | .tuple,l=>λ s=>.ok (.tp l) s
 | .list,l=>ag6 (.J l)
 | .all,l=>λ s=>match au2 l with|some bs=>.ok (.T (bs.all id)) s|none=>.B
 | .any,l=>λ s=>match au2 l with|some bs=>.ok (.T (bs.any id)) s|none=>.B
 | .sum,l=>λ s=>match qJ l with|some is=>if cy3 is then .ok (.int is.sum) s else .B|none=>.B
 | .min,l=>λ s=>match(qJ l).bind minI with|some m=>.ok (.int m) s|none=>.B
 | .max,l=>λ s=>match(qJ l).bind cx1 with|some m=>.ok (.int m) s|none=>.B
 | .sorted,l=>λ s=>match qJ l with|some is=>ag6 (.J ((ce6 is).map D.int)) s|none=>.B
 | .lenset,l=>bad
def mkD (k:Mk)(l:List D)(d:D):M D:=λ s=>match k with
 | .min=>match qJ l with|some is=>(match minI is with|some m=>.ok (.int m) s|none=>.ok d s)|none=>.B
 | .max=>match qJ l with|some is=>(match cx1 is with|some m=>.ok (.int m) s|none=>.ok d s)|none=>.B
 | _=>.B
def aZ7 (k v:D)(l:List (D×D)):List (D×D):=if(look k l).isSome then l.map (λ p=>if p.1=k then(p.1,v)else p)else l++[(k,v)]
def setIx (o i v:D):Sto->R Unit:=λ s=>match o with
 | .ref r=>match s[r]? with
  | some (.J l)=>match i with
   | .int i=>match ixn l.length i with|some j=>.ok () (s.set r (.J (l.set j v)))|none=>.B
   | _=>.B
  | some (.dc l)=>if i.key&&decide (l.length<LIM)then .ok () (s.set r (.dc (aZ7 i v l)))else .B
  | _=>.B
 | _=>.B
def meth:Mt->D->List D->M D
 | .append,.ref r,[d]=>λ s=>match s[r]? with
  | some (.J l)=>if l.length<LIM then .ok .N (s.set r (.J (l++[d])))else .B
  | _=>.B
 | _,_,_=>bad
structure Fns where
 call:String->List D->M D
 lam:String->List D->List D->M D
 con:String->Option D
 xcall:String->List D->Sto->Option (String×Sto)
 xc:String->Bool
 xt:String->Bool
 cdc:String->Option (List (List Nat×List Nat))
 kd:String->Bool
noncomputable def bq6 (U:Env)(i:Nat):M D:=λ s=>match U[i]? with|some (some d)=>.ok d s|_=>.B
noncomputable def ai1 (U:Env):List Nat->Option (List D)
 | []=>some []
 | i::is=>match U[i]?,ai1 U is with|some (some d),some l=>some (d::l)|_,_=>none
noncomputable def zX (U:Env)(caps:yD):Env:=caps.map λ o=>match o with|none=>none|some j=>(U[j]?).join
noncomputable def aT6 (U:Env)(i:Nat)(d:D):Option Env:=if i < U.length then some (U.set i (some d))else none
noncomputable def ai7 (U:Env)(i:Nat):Option Env:=if i < U.length then some (U.set i none)else none
def ar0 (U:Env):List Nat->List D->Option Env
 | [],[]=>some U
 | i::is,d::l=>(aT6 U i d).bind λ U=>ar0 U is l
 | _,_=>none
def jO (U:Env):Tg->D->Option Env
 | .Y i,d=>aT6 U i d
 | .tp is,.tp l=>ar0 U is l
 | _,_=>none
structure Sq where
 its:List D
 src:List Nat
noncomputable def av4 (d:D):M Sq:=λ s=>match d with
 | .tp l=>.ok ⟨l,[]⟩ s
 | .str l=>.ok ⟨l.map λ c=>.str [c],[]⟩ s
 | .ref r=>match s[r]? with
  | some (.J l)=>.ok ⟨l,[r]⟩ s
  | some (.ro l)=>.ok ⟨l,[]⟩ s
  | _=>.B
 | _=>.B
noncomputable def aj0 (d:D):M Sq:=λ s=>match d with
 | .tp l=>.ok ⟨l,[]⟩ s
 | .str l=>.ok ⟨l.map λ c=>.str [c],[]⟩ s
 | .ref r=>match s[r]? with
  | some (.J l)=>.ok ⟨l,[r]⟩ s
  | some (.ro l)=>.ok ⟨l,[]⟩ s
  | _=>.B
 | _=>.B
noncomputable def aZ4 (d:D):Sto->R (List D):=λ s=>match d with
 | .tp l=>.ok l s
 | .str l=>.ok (l.map λ c=>.str [c]) s
 | .ref r=>match s[r]? with
  | some (.J l)=>.ok l s
  | some (.ro l)=>.ok l s
  | _=>.B
 | _=>.B
noncomputable def Ww62:Int:=4611686018427387904
noncomputable def jU (a b:Int):List D:=(ai (b - a).toNat).map λ(k:Nat)=>.int (a+k)
noncomputable def aC5:List D->List D->List D
 | a::l,b::m=>.tp [a,b]::aC5 l m
 | _,_=>[]
noncomputable def chk (s0 s:Sto)(src:List Nat):Bool:=src.all λ r=>decide (s[r]?=s0[r]?)
noncomputable def tru (r:R D)(f:Bool->Sto->R α):R α:=r.bind λ d s=>match d with|.T b=>f b s|_=>.B
@[simp] theorem zH b s (f:Bool->Sto->R α):tru (.ok (.T b) s) f=f b s:=rfl
noncomputable def qX (ok:Sto->Bool)(g:D->Env->Sto->R (Option D×Env)):List D->Env->Sto->R (List D)
 | [],_,s=>if ok s then .ok [] s else .B
 | d::l,U,s=>if ok s then(g d U s).bind λ p s=>(qX ok g l p.2 s).bind λ r s=>.ok (match p.1 with|some v=>v::r|none=>r) s else .B
mutual
noncomputable def ev (F:Fns):E->Env->Sto->R D
 | .X i,U,s=>bq6 U i s
 | .K c,_,s=>.ok c.d s
 | .gl x,_,s=>match F.con x with|some d=>.ok d s|none=>.B
 | .G op a b,U,s=>(ev F a U s).bind λ x s=>(ev F b U s).bind λ y s=>jv op x y s
 | .neg a,U,s=>(ev F a U s).bind λ x s=>match x with|.int i=>.ok (.int (-i)) s|_=>.B
 | .not a,U,s=>tru (ev F a U s) λ b s=>.ok (.T (!b)) s
 | .Z op a b,U,s=>(ev F a U s).bind λ x s=>(ev F b U s).bind λ y s=>qj op x y s
 | .chain o p a b c,U,s=>(ev F a U s).bind λ x s=>(ev F b U s).bind λ y s=>tru (qj o x y s) λ k s=>if k then(ev F c U s).bind λ z s=>qj p y z s else .ok (.T false) s
 | .isN a,U,s=>(ev F a U s).bind λ x s=>.ok (.T (decide (x=.N))) s
 | .notN a,U,s=>(ev F a U s).bind λ x s=>.ok (.T (!decide (x=.N))) s
 | .and a b,U,s=>tru (ev F a U s) λ c s=>if c then tru (ev F b U s) λ c s=>.ok (.T c) s else .ok (.T false) s
 | .or a b,U,s=>tru (ev F a U s) λ c s=>if c then .ok (.T true) s else tru (ev F b U s) λ c s=>.ok (.T c) s
 | .ite c a b,U,s=>tru (ev F c U s) λ k s=>if k then ev F a U s else ev F b U s
 | .tp es,U,s=>(evs F es U s).bind λ l s=>.ok (.tp l) s
 | .J es,U,s=>(evs F es U s).bind λ l s=>ag6 (.J l) s
 | .dc .nil .nil,U,s=>ag6 (.dc []) s
 | .dc (.cons k .nil) (.cons v .nil),U,s=>(ev F k U (s++[.dc []])).bind λ kd s1=>(ev F v U s1).bind λ vd s2=>if kd.key=true/\s2[s.length]?=some (.dc [])then .ok (.ref s.length) (s2.set s.length (.dc [(kd,vd)]))else .B
 | .dc _ _,U,s=>.B
 | .ix a b,U,s=>(ev F a U s).bind λ x s=>(ev F b U s).bind λ y s=>ixM x y s
 | .slU a hi,U,s=>(ev F a U s).bind λ x s=>(ev F hi U s).bind λ y s=>match y with|.int i=>slM x none (some i) s|_=>.B
 | .call f as,U,s=>(an4 F as U s).bind λ l s=>F.call f l s
 | .callC f as,U,s=>(an4 F as U s).bind λ l s=>(F.call f l s).bind λ d s'=>if(d.ncl&&s'.all O.ncl)=true then .ok d s' else .B
 | .callV i es,U,s=>(evs F es U s).bind λ l s=>match U[i]? with
  | some (some (.fn f))=>F.call f l s
  | some (some (.clo id cs))=>F.lam id cs l s
  | _=>.B
 | .bi b es,U,s=>(evs F es U s).bind λ l s=>bi b l s
 | .mk k it,U,s=>(evL F it U s).bind λ q s=>mk k q s
 | .mkD k it d,U,s=>(evL F it U s).bind λ q s=>(ev F d U s).bind λ d s=>mkD k q d s
 | .me m o es,U,s=>(ev F o U s).bind λ x s=>(evs F es U s).bind λ l s=>meth m x l s
noncomputable def evs (F:Fns):Es->Env->Sto->R (List D)
 | .nil,_,s=>.ok [] s
 | .cons e es,U,s=>(ev F e U s).bind λ d s=>(evs F es U s).bind λ l s=>.ok (d::l) s
noncomputable def an4 (F:Fns):As->Env->Sto->R (List D)
 | .nil,_,s=>.ok [] s
 | .ex e as,U,s=>(ev F e U s).bind λ d s=>(an4 F as U s).bind λ l s=>.ok (d::l) s
 | .lam id caps as,U,s=>match ai1 U caps with
  | some cs=>(an4 F as U s).bind λ l s=>.ok (.clo id cs::l) s
  | none=>.B
 | .fn f as,U,s=>(an4 F as U s).bind λ l s=>.ok (.fn f::l) s
noncomputable def evI (F:Fns):I->Env->Sto->R Sq
 | .seq e,U,s=>(ev F e U s).bind λ d s=>av4 d s
 | .rg a,U,s=>(ev F a U s).bind λ x s=>match x with|.int i=>if -Ww62<=i/\i<Ww62 then .ok ⟨jU 0 i,[]⟩ s else .B|_=>.B
 | .zip (.seq a) (.seq b),U,s=>(ev F a U s).bind λ x s=>(ev F b U s).bind λ y s=>(aj0 x s).bind λ p s=>(aj0 y s).bind λ q s=>.ok ⟨aC5 p.its q.its,p.src++q.src⟩ s
 | .zip _ _,_,_=>.B
noncomputable def evL (F:Fns):L->Env->Sto->R (List D)
 | .comp tg it e caps,U,s=>(evI F it U s).bind λ q s0=>if q.its.length<=LIM then qX (λ s=>chk s0 s q.src) (λ d U s=>match jO U tg d with
   | some U=>(ev F e U s).bind λ v s=>.ok (some v,U) s
   | none=>.B) q.its (zX U caps) s0 else .B
 | .compIf tg it c e caps,U,s=>(evI F it U s).bind λ q s0=>if q.its.length<=LIM then qX (λ s=>chk s0 s q.src) (λ d U s=>match jO U tg d with
   | some U=>tru (ev F c U s) λ k s=>if k then(ev F e U s).bind λ v s=>.ok (some v,U) s else .ok (none,U) s
   | none=>.B) q.its (zX U caps) s0 else .B
 | .disp es,U,s=>evs F es U s
 | .seq e,U,s=>(ev F e U s).bind λ d s=>aZ4 d s
end
inductive Ct where
 | next (U:Env)|ret (d:D)|cont (U:Env)|brk (U:Env)
noncomputable def aX1 (ok:Sto->Bool)(g:D->Env->Sto->R Ct):List D->Env->Sto->R Ct
 | [],U,s=>if ok s then .ok (.next U) s else .B
 | d::l,U,s=>if ok s then(g d U s).bind λ c s=>match c with
   | .next U=>aX1 ok g l U s
   | .cont U=>aX1 ok g l U s
   | .brk U=>.ok (.next U) s
   | .ret d=>.ok (.ret d) s
  else .B
def jV (c:Env->Sto->R D)(g:Env->Sto->R Ct):Nat->Env->Sto->R Ct
 | 0,_,_=>.B
 | n+1,U,s=>tru (c U s) λ b s=>if b then(g U s).bind λ c' s=>match c' with
   | .next U=>jV c g n U s
   | .cont U=>jV c g n U s
   | .brk U=>.ok (.next U) s
   | .ret d=>.ok (.ret d) s
  else .ok (.next U) s
open Classical in
def whl (c:Env->Sto->R D)(g:Env->Sto->R Ct)(U:Env)(s:Sto):R Ct :=
 if h:∃ n,jV c g n U s≠.B then jV c g h.choose U s else .B
mutual
noncomputable def ex (F:Fns):S->Env->Sto->R Ct
 | .A tg e,U,s=>(ev F e U s).bind λ d s=>match jO U tg d with|some U=>.ok (.next U) s|none=>.B
 | .setIx o i e,U,s=>(ev F e U s).bind λ d s=>(ev F o U s).bind λ x s=>(ev F i U s).bind λ y s=>(setIx x y d s).bind λ _ s=>.ok (.next U) s
 | .ex e,U,s=>(ev F e U s).bind λ _ s=>.ok (.next U) s
 | .ret e,U,s=>(ev F e U s).bind λ d s=>.ok (.ret d) s
 | .ite c a b,U,s=>tru (ev F c U s) λ k s=>if k then exs F a U s else exs F b U s
 | .whl c b,U,s=>whl (ev F c) (exs F b) U s
 | .fo tg it b,U,s=>(evI F it U s).bind λ q s0=>aX1 (λ s=>chk s0 s q.src) (λ d U s=>match jO U tg d with
   | some U=>exs F b U s
   | none=>.B) q.its U s0
 | .raise,_,_=>.B
 | .und i,U,s=>match ai7 U i with|some U=>.ok (.next U) s|none=>.B
noncomputable def exs (F:Fns):Ss->Env->Sto->R Ct
 | .nil,U,s=>.ok (.next U) s
 | .cons st ss,U,s=>(ex F st U s).bind λ c s=>match c with|.next U=>exs F ss U s|c=>.ok c s
end
structure Df where
 name:String
 ps:Nat
 vs:Nat
 body:Ss
structure Lm where
 id:String
 ps:Nat
 cs:Nat
 body:E
set_option genInjectivity false in
inductive HT where
 | ve
 | isi (cs:List String)|Y (c:String)|not (t:HT)|or (a b:HT)
set_option genInjectivity false in
inductive Hd where
 | ret (t:HT)|iff (t:HT) (b:Bool) (h:Hd)|nob (b:Bool)|noe|iffN (t:HT) (h:Hd)|aoN (a b:HT)|sup (x:String) (h:Hd)
 | kin (f:String) (l:Bool)
noncomputable def subC (c d:String):Bool:=c==d||(d == "TollError"||d == "ValueError")
noncomputable def aU2:List String:=["NotSteady", "TooMuch", "TooLong", "NoMaking", "NoPaper", "NoPair", "NoText", "NoRow", "NoName"]
noncomputable def bF2:List (List Nat):=[[115,116,101,97,100,121],[109,117,99,104],[108,111,110,103],[109,97,107,105,110,103],[112,97,112,101,114],[112,97,105,114],[116,101,120,116],[114,111,119],[110,97,109,101]]
noncomputable def aA0:List Nat:=[97,110,111,116,104,101,114]
def cx6 (bs:List Bool):List Nat:=if bs.countP id=1 then bF2.getD (bs.findIdx id) []else aA0
def bW1 (c:String):List Nat:=cx6 (aU2.map (subC c))
def HT.val (c:String):HT->Bool
 | .isi cs=>cs.any (subC c)
 | .Y d=>subC c d
 | .not t=>!t.val c
 | .or a b=>if a.val c then true else b.val c
 | .ve=>true
noncomputable def HT.ok (p:String->Bool):HT->Bool
 | .isi cs=>cs.all p
 | .Y d=>p d
 | .not t=>t.ok p
 | .or a b=>a.ok p&&b.ok p
 | .ve=>true
noncomputable def Hd.val (c:String):Hd->Bool
 | .ret t=>t.val c
 | .iff t b h=>if t.val c then b else h.val c
 | .nob b=>b
 | .noe=>false
 | .iffN _ h=>h.val c
 | .aoN a b=>a.val c&&b.val c
 | .sup _ h=>h.val c
 | .kin _ _=>false
noncomputable def Hd.ok (p:String->Bool):Hd->Bool
 | .ret t=>t.ok p
 | .iff t _ h=>t.ok p&&h.ok p
 | .nob _=>true
 | .noe=>true
 | .iffN t h=>t.ok p&&h.ok p
 | .aoN a b=>a.ok p&&b.ok p
 | .sup x h=>p x&&h.ok p
 | .kin _ _=>aU2.all p
noncomputable def Hd.vD (c:String):Hd->D
 | .ret t=>.T (t.val c)
 | .iff t b h=>if t.val c then .T b else h.vD c
 | .nob b=>.T b
 | .noe=>.N
 | .iffN t h=>if t.val c then .N else h.vD c
 | .aoN a b=>if a.val c then(if b.val c then .T true else .N)else .N
 | .sup _ h=>h.vD c
 | .kin _ _=>.N
noncomputable def Hd.kn:Hd->Option (String×Bool)
 | .kin f l=>some (f,l)
 | .sup _ h=>h.kn
 | _=>none
noncomputable def Hd.kok (k:String->Bool)(h:Hd):Bool:=match h.kn with|some (f,_)=>k f|none=>true
noncomputable def Hd.cls (c:String):Hd->String
 | .sup x _=>x|_=>c
def Hd.supOk (c:String):Hd->Bool
 | .sup x _=>subC c x|_=>true
noncomputable def Hd.nn:Hd->Bool
 | .nob _=>true|.noe=>true|_=>false
noncomputable def aW5 (ok:Sto->Bool)(g:D->Env->Sto->R Ct)(gx:D->Env->Sto->Option (String×Sto)):List D->Env->Sto->Option (String×Sto)
 | [],_,_=>none
 | d::l,U,s=>if ok s then match g d U s with
   | .ok (.next U1) s1=>aW5 ok g gx l U1 s1
   | .ok (.cont U1) s1=>aW5 ok g gx l U1 s1
   | .ok _ _=>none
   | _=>gx d U s
  else none
noncomputable def aV4 (c:Env->Sto->R D)(g:Env->Sto->R Ct)(gx:Env->Sto->Option (String×Sto)):Nat->Env->Sto->Option (String×Sto)
 | 0,_,_=>none
 | n+1,U,s=>match c U s with
  | .ok (.T true) s1=>match g U s1 with
   | .ok (.next U1) s2=>aV4 c g gx n U1 s2
   | .ok (.cont U1) s2=>aV4 c g gx n U1 s2
   | .ok _ _=>none
   | _=>gx U s1
  | _=>none
open Classical in
def whlX (c:Env->Sto->R D)(g:Env->Sto->R Ct)(gx:Env->Sto->Option (String×Sto))(U:Env)(s:Sto):Option (String×Sto):=if h:∃ n,(aV4 c g gx n U s).isSome=true then aV4 c g gx h.choose U s else none
set_option genInjectivity false in
inductive XB where
 | no|rais (c:String)|call (f:String) (as:As)|iteT (c:E) (a r:XB)|seq (s:S) (b:XB)
 | kind|alt (a b:XB)
 | iteE (c:E) (a r:XB)|forX (tg:Tg) (it:I) (b:Ss) (x:XB)|whlX (c:E) (b:Ss) (x:XB)
def xB (F:Fns):XB->Env->Sto->Option (String×Sto)
 | .no,_,_=>none
 | .kind,_,_=>none
 | .alt a b,U,s=>match xB F a U s with|some r=>some r|none=>xB F b U s
 | .rais c,_,s=>if F.xc c=true then some (c,s)else none
 | .call f as,U,s=>match an4 F as U s with|.ok l s1=>F.xcall f l s1|_=>none
 | .iteT c a r,U,s=>match ev F c U s with|.ok (.T b) s1=>if b then xB F a U s1 else xB F r U s1|_=>none
 | .seq st b,U,s=>match ex F st U s with|.ok (.next U1) s1=>xB F b U1 s1|_=>none
 | .forX tg it b x,U,s=>match evI F it U s with
  | .ok q s0=>aW5 (λ s=>chk s0 s q.src) (λ d U s=>match jO U tg d with
   | some U=>exs F b U s
   | none=>.B) (λ d U s=>match jO U tg d with
   | some U=>xB F x U s
   | none=>none) q.its U s0
  | _=>none
 | .iteE c a r,U,s=>match ev F c U s with|.ok (.T b) s1=>if b then xB F a U s1 else xB F r U s1|_=>none
 | .whlX c b x,U,s=>DV.whlX (ev F c) (exs F b) (xB F x) U s
structure Xf where
 ps:Nat
 vs:Nat
 body:XB
structure Tf where
 ps:Nat
 vs:Nat
 body:Ss
 xb:XB
 c:String
 i:Nat
 h:Hd
 tl:Ss
 pre:Ss
structure Pr where
 df:String->Option Df
 lm:String->Option Lm
 con:String->Option D
 xf:String->Option Xf
 tf:String->Option Tf
 xc:String->Bool
 xt:String->Bool
 cdc:String->Option (List (List Nat×List Nat))
noncomputable def au4 (st st':Sto):Bool:=(ai st.length).all λ i=>decide (st'[i]?=st[i]?)||(match st'[i]? with|some o=>o.bnd st.length|none=>false)
def zJ (st:Sto)(d:D)(st':Sto):R D :=
 if au4 st st' then
  match d with
  | .ref r=>if r<st.length then .ok d (st'.take st.length)else match st'[r]? with
   | some o=>if o.bnd st.length then .ok (.ref st.length) (st'.take st.length++[o])else .ok d st'
   | none=>.B
  | d=>if d.bnd st.length then .ok d (st'.take st.length)else .ok d st'
 else .ok d st'
def Hd.out (h:Hd)(c:String)(s s':Sto):R D:=match h with
 | .noe=>zJ s (.ref s'.length) (s'++[.J []])
 | h=>match h.kn with
  | some (_,true)=>zJ s (.ref s'.length) (s'++[.J [.str (bW1 c)]])
  | some (_,false)=>zJ s (.str (bW1 c)) s'
  | none=>zJ s (h.vD c) s'
def Tf.tk (d:Tf)(c:String):Bool:=match d.h with|.sup x _=>subC c x|_=>c==d.c
noncomputable def XB.isK:XB->Bool
 | .kind=>true|_=>false
noncomputable def cu0 (P:Pr)(f:String):Bool:=match P.xf f with|some d=>d.ps==1&&(d.vs==1&&d.body.isK)|none=>false
def bM3 (F:Fns)(d:Tf)(s:Sto)(U0:Env)(s0:Sto):R D:=match xB F d.xb U0 s0 with
 | some (c,s')=>if d.tk c=true/\F.xc c=true/\d.h.ok F.xt=true/\d.h.kok F.kd=true then d.h.out c s s' else .B
 | none=>(exs F d.body U0 s0).bind λ c s1=>match c with
  | .ret v=>zJ s v s1
  | .next U=>(exs F d.tl U s1).bind λ c s2=>match c with
   | .ret v=>zJ s v s2
   | .next _=>zJ s .N s2
   | _=>.B
  | _=>.B
def co7 (F:Fns)(d:Tf)(l:List D)(s:Sto):R D:=match exs F d.pre (l.map some++aq d.vs none) s with
 | .ok (.next U0) s0=>bM3 F d s U0 s0
 | _=>.B
def aa1 (P:Pr):Nat->Fns
 | 0=>⟨λ _ _ _=>.B,λ _ _ _ _=>.B,P.con,λ _ _ _=>none,P.xc,P.xt,P.cdc,cu0 P⟩
 | n+1=>⟨λ f l s=>match P.df f with
   | some d=>if l.length=d.ps then(exs (aa1 P n) d.body (l.map some++aq d.vs none) s).bind λ c s'=>match c with
     | .ret v=>zJ s v s'
     | .next _=>zJ s .N s'
     | _=>.B else .B
   | none=>match P.tf f with
    | some d=>if l.length=d.ps then co7 (aa1 P n) d l s else .B
    | none=>.B,
  λ id cs l s=>match P.lm id with
   | some d=>if l.length=d.ps/\cs.length=d.cs/\(D.nclL l&&D.nclL cs&&s.all O.ncl)=true then(ev (aa1 P n) d.body (l.map some++cs.map some) s).bind λ v s'=>zJ s v s' else .B
   | none=>.B,P.con,
  λ f l s=>match P.xf f with
   | some d=>if l.length=d.ps then xB (aa1 P n) d.body (l.map some++aq d.vs none) s else none
   | none=>none,P.xc,P.xt,P.cdc,cu0 P⟩
def KP (s s':Sto):Prop:=∀(i:Nat) o ,s[i]?=some o->∃ o',s'[i]?=some o'/\o'.kd=o.kd
theorem KP.refl s :KP s s:=λ i o h=>⟨o,h,rfl⟩
theorem KP.trans (h:KP a b)(g:KP b c):KP a c:=λ i o e=>by
 obtain⟨G,e1,k1⟩:=h i o e
 obtain⟨y,e2,k2⟩:=g i G e1
 exact⟨y,e2,k2.trans k1⟩
theorem KP.app s t :KP s (s++t):=λ i o e=>⟨o,by rw[ax (ac.mp e).1];exact e,rfl⟩
theorem KP.set (h:s[r]?=some y)(k:o.kd=y.kd):KP s (s.set r o):=λ i u e=>by
 by_cases z:r=i
 .subst z
  rw[h]at e;cases e
  exact⟨o,aZ (ac.mp h).1,k⟩
 .exact⟨u,by rw[br z];exact e,rfl⟩
def KR (s:Sto)(r:R α):Prop:=∀ a s',r=.ok a s'->KP s s'
theorem KR.bad :KR s (.B:R α):=λ _ _ h=>by cases h
theorem KR.ok {a:α}:KR s (.ok a s):=λ _ _ h=>by cases h;exact KP.refl _
theorem KR.bind {f:α->Sto->R β}(h:KR s r)(g:∀ a s1,KR s1 (f a s1)):KR s (r.bind f):=λ b s' e=>by
 obtain⟨a,s1,e1,e2⟩:=R.bind_inv e
 exact(h a s1 e1).trans (g a s1 b s' e2)
theorem KR.tru {f:Bool->Sto->R α}(h:KR s r)(g:∀ a s1,KR s1 (f a s1)):KR s (tru r f):=KR.bind h λ a s1=>by
 cases a with
 | T b=>exact g b s1
 | _=>exact KR.bad
theorem KR.if {c}[Decidable c]{a b:R α}(h:KR s a)(g:KR s b):KR s (if c then a else b):=by split;exact h;exact g
theorem KR.al :KR s (ag6 o s):=λ _ _ h=>by cases h;exact KP.app _ _
theorem KR.pu :KR s (pur d s):=λ _ _ h=>by cases h;exact KP.refl _
theorem KR.bd :KR s ((DV.bad:M D) s):=λ _ _ h=>by cases h
theorem KR.im {c}{_:Decidable c}{d}:KR s ((if c then pur d else DV.bad) s):=by split;exact KR.pu;exact KR.bd
theorem KR.ia {c}{_:Decidable c}{o}:KR s (if c then ag6 o s else .B):=KR.if KR.al KR.bd
theorem bw8 op x y s :KR s (jv op x y s):=by
 cases op with
 | add=>cases x with
  | int a=>cases y with
   | int b=>exact KR.pu
   | _=>exact KR.bd
  | str a=>cases y with
   | str b=>exact KR.im
   | _=>exact KR.bd
  | tp a=>cases y with
   | tp b=>exact KR.im
   | _=>exact KR.bd
  | ref a=>cases y with
   | ref b =>
    show KR s (match s[a]?,s[b]? with|some (.J l),some (.J m)=>if l.length+m.length<=LIM then ag6 (.J (l++m)) s else .B|_,_=>.B)
    split
    .exact KR.ia
    .exact KR.bd
   | _=>exact KR.bd
  | _=>exact KR.bd
 | sub=>cases x with
  | int a=>cases y with
   | int b=>exact KR.pu
   | _=>exact KR.bd
  | _=>exact KR.bd
 | mul=>cases x with
  | int a=>cases y with
   | int b=>exact KR.im
   | _=>exact KR.bd
  | str a=>cases y with
   | int b=>exact KR.im
   | _=>exact KR.bd
  | tp a=>cases y with
   | int b=>exact KR.im
   | _=>exact KR.bd
  | ref a=>cases y with
   | int n =>
    show KR s (match s[a]? with|some (.J l)=>if 0<=n/\n<=1000000/\l.length*n.toNat<=LIM then ag6 (.J (ba4 n.toNat l)) s else .B|_=>.B)
    split
    .exact KR.ia
    .exact KR.bd
   | _=>exact KR.bd
  | _=>exact KR.bd
 | fdiv=>cases x with
  | int a=>cases y with
   | int b=>exact KR.im
   | _=>exact KR.bd
  | _=>exact KR.bd
 | mod=>cases x with
  | int a=>cases y with
   | int b=>exact KR.im
   | _=>exact KR.bd
  | _=>exact KR.bd
 | pow=>cases x with
  | int a=>cases y with
   | int b=>exact KR.im
   | _=>exact KR.bd
  | _=>exact KR.bd
 | shl=>cases x with
  | int a=>cases y with
   | int b=>exact KR.im
   | _=>exact KR.bd
  | _=>exact KR.bd
 | shr=>cases x with
  | int a=>cases y with
   | int b=>exact KR.im
   | _=>exact KR.bd
  | _=>exact KR.bd
 | band=>intro a s' h;exact absurd h (by nofun)
 | _=>exact KR.bd
theorem bK5 f x y s :KR s (cl3 f x y s):=by
 intro a s' h
 unfold cl3 at h
 split at h<;>cases h
 exact KP.refl _
theorem bn4 op x y s :KR s (qj op x y s):=by
 have G:∀ a b:D,KR s (inM a b s):=λ a b=>by
  intro r s' h
  unfold inM at h
  split at h
  .split at h<;>cases h;exact KP.refl _
  .split at h
   .split at h<;>cases h;exact KP.refl _
   .split at h<;>cases h;exact KP.refl _
   .cases h
  .split at h<;>cases h;exact KP.refl _
  .cases h
 cases op with
 | isin=>exact KR.bind (G x y) λ _ _=>KR.ok
 | notin=>exact KR.bind (G x y) λ _ _=>KR.ok
 | eq=>intro a s' h;change eqM x y s=_ at h;unfold eqM at h;split at h<;>cases h;exact KP.refl _
 | ne =>
  intro a s' h
  change(match eqv s DEEP x y with|some r=>R.ok (D.T (!r)) s|none=>.B)=_ at h
  split at h<;>cases h;exact KP.refl _
 | _ =>
  intro a s' h
  cases x with
  | int i=>(cases y with
   | int j=>cases h;exact KP.refl _
   | _=>cases h)
  | tp l=>(cases y with
   | tp m=>first|exact bK5 _ _ _ _ _ _ h|cases h
   | _=>cases h)
  | _=>cases h
theorem cq3 x y s :KR s (ixM x y s):=by
 intro a s' h
 unfold ixM at h
 repeat' split at h
 all_goals first|(cases h;exact KP.refl _;done)|(cases h;done)
theorem cm4 x G y s :KR s (slM x G y s):=by
 intro a s' h
 unfold slM at h
 repeat' split at h
 all_goals first|(cases h;exact KP.refl _;done)|(cases h;exact KP.app _ _;done)|(cases h;done)
theorem bM8 x s :KR s (aZ4 x s):=by
 intro a s' h
 unfold aZ4 at h
 repeat' split at h
 all_goals first|(cases h;exact KP.refl _;done)|(cases h;done)
theorem bT6 x s :KR s (av4 x s):=by
 intro a s' h
 unfold av4 at h
 repeat' split at h
 all_goals first|(cases h;exact KP.refl _;done)|(cases h;done)
theorem aS1 x s :KR s (aj0 x s):=by
 intro a s' h
 unfold aj0 at h
 repeat' split at h
 all_goals first|(cases h;exact KP.refl _;done)|(cases h;done)
theorem bI2 l s :KR s (bp9 l s):=by
 intro a s' h
 unfold bp9 at h
 split at h
 .split at h<;>cases h;exact KP.refl _
 .cases h;exact KP.refl _
 .cases h
theorem bT0 l s :KR s (aW0 l s):=by
 intro a s' h
 unfold aW0 at h
 split at h
 .split at h<;>cases h;exact KP.refl _
 .cases h
theorem co6 b l s :KR s (bi b l s):=by
 have k1:∀ f:D->M D,(∀ d,KR s (f d s))->KR s (bi1 f l s):=λ f y=>by
  cases l with
  | nil=>exact KR.bad
  | cons d t=>(cases t with
   | nil=>exact y d
   | cons _ _=>exact KR.bad)
 have k2:∀ k d,KR s (isK k d s):=λ k d=>by
  intro a s' h
  unfold isK at h
  repeat' split at h
  all_goals first|(cases h;exact KP.refl _;done)|(cases h;done)
 have G:∀ d,KR s (bG7 d s):=λ d=>by
  intro a s' h
  unfold bG7 at h
  repeat' split at h
  all_goals first|(cases h;exact KP.refl _;done)|(cases h;done)
 cases b with
 | len=>exact k1 _ G
 | isInt=>exact k1 _ (k2 1)
 | isBool=>exact k1 _ (k2 2)
 | isStr=>exact k1 _ (k2 3)
 | isTup=>exact k1 _ (k2 4)
 | isList=>exact k1 _ (k2 5)
 | str=>exact bI2 l s
 | int =>
  intro a s' h
  have h:(match au2 l with|some [b]=>R.ok (D.int (if b then 1 else 0)) s|some _=>.B|none=>aW0 l s)=.ok a s':=h
  split at h
  .cases h;exact KP.refl _
  .cases h
  .exact bT0 l s a s' h
 | _ =>
  intro a s' h
  unfold bi at h
  first|(cases h;done)|(simp only at h;split at h<;>first|(cases h;exact KP.refl _;done)|(cases h;done))
theorem cr9 k l s :KR s (mk k l s):=by
 cases k with
 | tuple=>exact KR.ok
 | list=>exact KR.al
 | lenset=>exact KR.bad
 | _ =>
  intro a s' h
  unfold mk at h
  simp only at h
  repeat' split at h
  all_goals first|(cases h;exact KP.refl _;done)|(cases h;exact KP.app _ _;done)|(cases h;done)
theorem bY7 k l d s :KR s (mkD k l d s):=by
 intro a s' h
 unfold mkD at h
 repeat' split at h
 all_goals first|(cases h;exact KP.refl _;done)|(cases h;done)
theorem bU2 m o l s :KR s (meth m o l s):=by
 have y:∀ {r:Nat} {f:List D->R D},(∀ l,s[r]?=some (.J l)->KR s (f l))->KR s (match s[r]? with|some (.J l)=>f l|_=>.B):=λ {r f} h=>by
  cases e:s[r]? with
  | none=>exact KR.bad
  | some ob=>cases ob with
   | J l=>exact h l e
   | _=>exact KR.bad
 cases o with
 | ref r=>cases m with
  | append=>match l with
   | [d]=>exact y λ l e=>KR.if (λ _ _ h=>by cases h;exact KP.set e rfl) KR.bad
   | []=>exact KR.bd
   | _::_::_=>exact KR.bd
  | _=>exact KR.bd
 | _=>cases m<;>exact KR.bd
theorem bu4 o i v s :KR s (setIx o i v s):=by
 intro a s' h
 unfold setIx at h
 cases o with
 | ref r =>
  simp only at h
  cases e:s[r]? with
  | none=>rw[e]at h;cases h
  | some ob =>
   rw[e]at h
   cases ob with
   | J l =>
    cases i with
    | int k=>simp only at h;split at h<;>cases h;exact KP.set e rfl
    | _=>cases h
   | dc l=>simp only at h;split at h<;>cases h;exact KP.set e rfl
   | _=>cases h
 | _=>cases h
structure FK (F:Fns):Prop where
 call:∀ f l s,KR s (F.call f l s)
 lam:∀ id cs l s,KR s (F.lam id cs l s)
 xcall:∀ f l s c s',F.xcall f l s=some (c,s')->KP s s'
theorem az9 (h:∀ d U s,KR s (g d U s)):∀ l U s ,KR s (qX ok g l U s)
 | [],U,s=>KR.if KR.ok KR.bad
 | d::l,U,s=>KR.if (KR.bind (h d U s) λ p s1=>KR.bind (az9 h l p.2 s1) λ r s2=>KR.ok) KR.bad
section
variable {F:Fns} (hF:FK F)
theorem bI8 U i s :KR s (bq6 U i s):=by
 intro a s' h
 unfold bq6 at h
 split at h<;>cases h;exact KP.refl _
include hF
mutual
theorem zI:∀(e:E) (U:Env) (s:Sto),KR s (ev F e U s)
 | .X i,U,s=>bI8 U i s
 | .K c,U,s=>KR.ok
 | .gl x,U,s=>by
  intro a s' h
  change(match F.con x with|some d=>R.ok d s|none=>.B)=_ at h
  split at h<;>cases h;exact KP.refl _
 | .G op a b,U,s=>KR.bind (zI a U s) λ x s=>KR.bind (zI b U s) λ y s=>bw8 op x y s
 | .neg a,U,s=>KR.bind (zI a U s) λ x s=>by
  cases x with
  | int i=>exact KR.ok
  | _=>exact KR.bad
 | .not a,U,s=>KR.tru (zI a U s) λ b s=>KR.ok
 | .Z op a b,U,s=>KR.bind (zI a U s) λ x s=>KR.bind (zI b U s) λ y s=>bn4 op x y s
 | .chain o p a b c,U,s=>KR.bind (zI a U s) λ x s=>KR.bind (zI b U s) λ y s=>KR.tru (bn4 o x y s) λ k s=>KR.if (KR.bind (zI c U s) λ z s=>bn4 p y z s) KR.ok
 | .isN a,U,s=>KR.bind (zI a U s) λ x s=>KR.ok
 | .notN a,U,s=>KR.bind (zI a U s) λ x s=>KR.ok
 | .and a b,U,s=>KR.tru (zI a U s) λ c s=>KR.if (KR.tru (zI b U s) λ c s=>KR.ok) KR.ok
 | .or a b,U,s=>KR.tru (zI a U s) λ c s=>KR.if KR.ok (KR.tru (zI b U s) λ c s=>KR.ok)
 | .ite c a b,U,s=>KR.tru (zI c U s) λ k s=>KR.if (zI a U s) (zI b U s)
 | .tp es,U,s=>KR.bind (am8 es U s) λ l s=>KR.ok
 | .J es,U,s=>KR.bind (am8 es U s) λ l s=>KR.al
 | .dc .nil .nil,U,s=>KR.al
 | .dc (.cons k .nil) (.cons v .nil),U,s=>by
  intro a s' h
  obtain⟨kd,s1,e1,h⟩:=R.bind_inv (show(ev F k U (s++[.dc []])).bind _=_ from h)
  obtain⟨G,s2,e2,h⟩:=R.bind_inv h
  split at h
  case isFalse=>cases h
  rename_i hc
  cases h
  exact((KP.app _ _).trans ((zI k U _ _ _ e1).trans (zI v U _ _ _ e2))).trans (KP.set hc.2 rfl)
 | .dc .nil (.cons _ _),U,s=>KR.bad
 | .dc (.cons _ .nil) .nil,U,s=>KR.bad
 | .dc (.cons _ .nil) (.cons _ (.cons _ _)),U,s=>KR.bad
 | .dc (.cons _ (.cons _ _)) _,U,s=>KR.bad
 | .ix a b,U,s=>KR.bind (zI a U s) λ x s=>KR.bind (zI b U s) λ y s=>cq3 x y s
 | .slU a hi,U,s=>KR.bind (zI a U s) λ x s=>KR.bind (zI hi U s) λ y s=>by
  cases y with
  | int i=>exact cm4 _ _ _ _
  | _=>exact KR.bad
 | .call f as,U,s=>KR.bind (ak9 as U s) λ l s=>hF.call f l s
 | .callC f as,U,s=>KR.bind (ak9 as U s) λ l s=>KR.bind (hF.call f l s) λ d s'=>KR.if KR.ok KR.bad
 | .callV i es,U,s=>KR.bind (am8 es U s) λ l s=>by
  intro a s' h
  split at h
  .exact hF.call _ _ _ _ _ h
  .exact hF.lam _ _ _ _ _ _ h
  .cases h
 | .bi b es,U,s=>KR.bind (am8 es U s) λ l s=>co6 b l s
 | .mk k it,U,s=>KR.bind (bB8 it U s) λ q s=>cr9 k q s
 | .mkD k it d,U,s=>KR.bind (bB8 it U s) λ q s=>KR.bind (zI d U s) λ d s=>bY7 k q d s
 | .me m o es,U,s=>KR.bind (zI o U s) λ x s=>KR.bind (am8 es U s) λ l s=>bU2 m x l s
theorem am8:∀(es:Es) (U:Env) (s:Sto),KR s (evs F es U s)
 | .nil,U,s=>KR.ok
 | .cons e es,U,s=>KR.bind (zI e U s) λ d s=>KR.bind (am8 es U s) λ l s=>KR.ok
theorem ak9:∀(y:As) (U:Env) (s:Sto),KR s (an4 F y U s)
 | .nil,U,s=>KR.ok
 | .ex e y,U,s=>KR.bind (zI e U s) λ d s=>KR.bind (ak9 y U s) λ l s=>KR.ok
 | .lam id caps y,U,s=>by
  intro a s' h
  change(match ai1 U caps with|some cs=>(an4 F y U s).bind λ l s=>R.ok (D.clo id cs::l) s|none=>.B)=_ at h
  split at h
  .exact KR.bind (ak9 y U s) (λ l s=>KR.ok) _ _ h
  .cases h
 | .fn f y,U,s=>KR.bind (ak9 y U s) λ l s=>KR.ok
theorem aQ7:∀(it:I) (U:Env) (s:Sto),KR s (evI F it U s)
 | .seq e,U,s=>KR.bind (zI e U s) λ d s=>bT6 d s
 | .rg a,U,s=>KR.bind (zI a U s) λ x s=>by
  cases x with
  | int i=>exact KR.if KR.ok KR.bad
  | _=>exact KR.bad
 | .zip (.seq a) (.seq b),U,s=>KR.bind (zI a U s) λ x s=>KR.bind (zI b U s) λ y s=>KR.bind (aS1 x s) λ p s=>KR.bind (aS1 y s) λ q s=>KR.ok
 | .zip (.rg _) _,U,s=>KR.bad
 | .zip (.zip _ _) _,U,s=>KR.bad
 | .zip (.seq _) (.rg _),U,s=>KR.bad
 | .zip (.seq _) (.zip _ _),U,s=>KR.bad
theorem bB8:∀(it:L) (U:Env) (s:Sto),KR s (evL F it U s)
 | .comp tg it e caps,U,s=>KR.bind (aQ7 it U s) λ q s0=>KR.if (az9 (λ d U s=>by
   intro a s' h
   split at h
   .exact KR.bind (zI e _ s) (λ v s=>KR.ok) _ _ h
   .cases h) _ _ _) KR.bad
 | .compIf tg it c e caps,U,s=>KR.bind (aQ7 it U s) λ q s0=>KR.if (az9 (λ d U s=>by
   intro a s' h
   split at h
   .exact KR.tru (zI c _ s) (λ k s=>KR.if (KR.bind (zI e _ s) λ v s=>KR.ok) KR.ok) _ _ h
   .cases h) _ _ _) KR.bad
 | .disp es,U,s=>am8 es U s
 | .seq e,U,s=>KR.bind (zI e U s) λ d s=>bM8 d s
end
theorem aK7 (h:∀ d U s,KR s (g d U s)):∀ l U s ,KR s (aX1 ok g l U s)
 | [],U,s=>KR.if KR.ok KR.bad
 | d::l,U,s=>KR.if (KR.bind (h d U s) λ c s=>by
   cases c with
   | next U=>exact aK7 h l U s
   | cont U=>exact aK7 h l U s
   | brk U=>exact KR.ok
   | ret d=>exact KR.ok) KR.bad
theorem aK1 (hc:∀ U s,KR s (c U s))(h:∀ U s,KR s (g U s)):∀ n U s ,KR s (jV c g n U s)
 | 0,U,s=>KR.bad
 | n+1,U,s=>KR.tru (hc U s) λ b s=>KR.if (KR.bind (h U s) λ y s=>by
   cases y with
   | next U=>exact aK1 hc h n U s
   | cont U=>exact aK1 hc h n U s
   | brk U=>exact KR.ok
   | ret d=>exact KR.ok) KR.ok
mutual
theorem cd6:∀(st:S) (U:Env) (s:Sto),KR s (ex F st U s)
 | .A tg e,U,s=>KR.bind (zI hF e U s) λ d s=>by
  intro a s' h
  split at h<;>cases h;exact KP.refl _
 | .setIx o i e,U,s=>KR.bind (zI hF e U s) λ d s=>KR.bind (zI hF o U s) λ x s=>KR.bind (zI hF i U s) λ y s=>KR.bind (bu4 x y d s) λ _ s=>KR.ok
 | .ex e,U,s=>KR.bind (zI hF e U s) λ d s=>KR.ok
 | .ret e,U,s=>KR.bind (zI hF e U s) λ d s=>KR.ok
 | .ite c a b,U,s=>KR.tru (zI hF c U s) λ k s=>KR.if (ah1 a U s) (ah1 b U s)
 | .whl c b,U,s=>by
  intro r s' h
  change whl (ev F c) (exs F b) U s=_ at h
  unfold whl at h
  split at h
  .exact aK1 hF (λ U s=>zI hF c U s) (λ U s=>ah1 b U s) _ U s _ _ h
  .cases h
 | .fo tg it b,U,s=>KR.bind (aQ7 hF it U s) λ q s0=>aK7 hF (λ d U s=>by
   intro a s' h
   split at h
   .exact ah1 b _ _ _ _ h
   .cases h) _ _ _
 | .raise,U,s=>KR.bad
 | .und i,U,s=>by
  intro a s' h
  change(match ai7 U i with|some U=>R.ok (Ct.next U) s|none=>.B)=_ at h
  split at h<;>cases h;exact KP.refl _
theorem ah1:∀(h:Ss) (U:Env) (s:Sto),KR s (exs F h U s)
 | .nil,U,s=>KR.ok
 | .cons st h,U,s=>KR.bind (cd6 st U s) λ c s=>by
  cases c with
  | next U=>exact ah1 h U s
  | _=>exact KR.ok
end
end
theorem qy (h:KP s st):KR s (zJ s d st):=by
 have tk:∀ t,KP s (st.take s.length++t):=λ t i o e=>by
  obtain⟨G,e',k⟩:=h i o e
  have Y:=(ac.mp e).1
  have J:=(ac.mp e').1
  refine⟨G,?_,k⟩
  rw[ax (by rw[bW];lia),jW,if_pos Y];exact e'
 have y:=by have:=tk [];rwa [bf]at this
 intro a s' e
 unfold zJ at e
 repeat' split at e
 all_goals first|(cases e;exact y;done)|(cases e;exact tk _;done)|(cases e;exact h;done)|(cases e;done)
theorem az7 (y:∀ d U s,KR s (g d U s))(hx:∀ d U s c s',G d U s=some (c,s')->KP s s'):∀ l U s c s' ,aW5 ok g G l U s=some (c,s')->KP s s'
 | [],U,s,c,s',h=>by cases h
 | d::l,U,s,c,s',h=>by
  unfold aW5 at h
  split at h
  .split at h
   .rename_i e;exact(y d U s _ _ e).trans (az7 y hx l _ _ _ _ h)
   .rename_i e;exact(y d U s _ _ e).trans (az7 y hx l _ _ _ _ h)
   .cases h
   .exact hx _ _ _ _ _ h
  .cases h
theorem az1 (ht:∀ U s,KR s (t U s))(y:∀ U s,KR s (g U s))(hx:∀ U s c s',G U s=some (c,s')->KP s s'):∀ n U s c s' ,aV4 t g G n U s=some (c,s')->KP s s'
 | 0,U,s,c,s',h=>by cases h
 | n+1,U,s,c,s',h=>by
  unfold aV4 at h
  split at h
  .rename_i s1 e1
   have k:=ht U s _ _ e1
   split at h
   .rename_i e;exact k.trans ((y U s1 _ _ e).trans (az1 ht y hx n _ _ _ _ h))
   .rename_i e;exact k.trans ((y U s1 _ _ e).trans (az1 ht y hx n _ _ _ _ h))
   .cases h
   .exact k.trans (hx _ _ _ _ h)
  .cases h
theorem aq8 (y:FK F):∀ b U s c s' ,xB F b U s=some (c,s')->KP s s'
 | .no,U,s,c,s',h=>by cases h
 | .alt a b,U,s,c,s',h=>by
  change(match xB F a U s with|some r=>some r|none=>xB F b U s)=_ at h
  split at h
  .rename_i r e
   cases h
   exact aq8 y a _ _ _ _ e
  .exact aq8 y b _ _ _ _ h
 | .rais d,U,s,c,s',h=>by
  change(if F.xc d=true then some (d,s)else none)=_ at h
  split at h
  .cases h;exact KP.refl _
  .cases h
 | .call f as,U,s,c,s',h=>by
  change(match an4 F as U s with|.ok l s1=>F.xcall f l s1|_=>none)=_ at h
  split at h
  .rename_i l s1 e;exact(ak9 y as U s _ _ e).trans (y.xcall _ _ _ _ _ h)
  .cases h
 | .iteT d a r,U,s,c,s',h=>by
  change(match ev F d U s with|.ok (.T b) s1=>if b then xB F a U s1 else xB F r U s1|_=>none)=_ at h
  split at h
  .rename_i b s1 e
   have k:=zI y d U s _ _ e
   split at h
   .exact k.trans (aq8 y a _ _ _ _ h)
   .exact k.trans (aq8 y r _ _ _ _ h)
  .cases h
 | .seq st b,U,s,c,s',h=>by
  change(match ex F st U s with|.ok (.next U1) s1=>xB F b U1 s1|_=>none)=_ at h
  split at h
  .rename_i U1 s1 e;exact(cd6 y st U s _ _ e).trans (aq8 y b _ _ _ _ h)
  .cases h
 | .iteE d a r,U,s,c,s',h=>by
  change(match ev F d U s with|.ok (.T b) s1=>if b then xB F a U s1 else xB F r U s1|_=>none)=_ at h
  split at h
  .rename_i b s1 e
   have k:=zI y d U s _ _ e
   split at h
   .exact k.trans (aq8 y a _ _ _ _ h)
   .exact k.trans (aq8 y r _ _ _ _ h)
  .cases h
 | .forX tg it b x,U,s,c,s',h=>by
  change(match evI F it U s with
   | .ok q s0=>aW5 (λ s=>chk s0 s q.src) (λ d U s=>match jO U tg d with
    | some U=>exs F b U s
    | none=>.B) (λ d U s=>match jO U tg d with
    | some U=>xB F x U s
    | none=>none) q.its U s0
   | _=>none)=_ at h
  split at h
  .rename_i q s0 e
   refine(aQ7 y it U s _ _ e).trans (az7 ?_ ?_ _ _ _ _ _ h)
   .intro d U s
    split
    .exact ah1 y _ _ _
    .exact KR.bad
   .intro d U s c s' h
    split at h
    .exact aq8 y x _ _ _ _ h
    .cases h
  .cases h
 | .whlX d b x,U,s,c,s',h=>by
  change whlX (ev F d) (exs F b) (xB F x) U s=_ at h
  unfold whlX at h
  split at h
  .exact az1 (zI y d) (ah1 y b) (λ U s c s' h=>aq8 y x _ _ _ _ h) _ _ _ _ _ h
  .cases h
theorem bZ4 {h:Hd}(k:KP s st):KR s (h.out c s st):=by
 unfold Hd.out
 split
 .exact qy (k.trans (KP.app _ _))
 .split
  .exact qy (k.trans (KP.app _ _))
  .exact qy k
  .exact qy k
theorem by0 (y:FK F) d (G:KP s s0) U0 :KR s (bM3 F d s U0 s0):=by
 intro a s' h
 unfold bM3 at h
 split at h
 .rename_i c s1 e
  have k:=G.trans (aq8 y _ _ _ _ _ e)
  split at h
  .exact bZ4 k _ _ h
  .cases h
 .obtain⟨c,s1,e1,h⟩:=R.bind_inv h
  have k1:=G.trans (ah1 y _ _ _ _ _ e1)
  cases c with
  | ret v=>exact qy k1 _ _ h
  | next U =>
   obtain⟨c,s2,e2,h⟩:=R.bind_inv h
   have k2:=k1.trans (ah1 y _ _ _ _ _ e2)
   cases c with
   | ret v=>exact qy k2 _ _ h
   | next U=>exact qy k2 _ _ h
   | _=>cases h
  | _=>cases h
theorem bM4 (y:FK F) d l s :KR s (co7 F d l s):=by
 intro a s' h
 unfold co7 at h
 split at h
 .rename_i U0 s0 e
  exact by0 y d (ah1 y _ _ _ _ _ e) U0 _ _ h
 .cases h
theorem ah9 P :∀ n,FK (aa1 P n)
 | 0=>⟨λ _ _ _=>KR.bad,λ _ _ _ _=>KR.bad,λ _ _ _ _ _ h=>by cases h⟩
 | n+1=>by
  refine⟨λ f l s=>?_,λ id cs l s=>?_,λ f l s c s' h=>?_⟩
  .intro a s' h
   unfold aa1 at h
   simp only at h
   split at h
   case h_2 =>
    split at h
    case h_2=>cases h
    split at h
    case isFalse=>cases h
    exact bM4 (ah9 P n) _ _ _ _ _ h
   split at h
   case isFalse=>cases h
   obtain⟨c,s1,e1,h⟩:=R.bind_inv h
   have k1:=ah1 (ah9 P n) _ _ _ _ _ e1
   cases c with
   | ret v=>exact qy k1 _ _ h
   | next U=>exact qy k1 _ _ h
   | _=>cases h
  .intro a s' h
   unfold aa1 at h
   simp only at h
   split at h
   case h_2=>cases h
   split at h
   case isFalse=>cases h
   obtain⟨v,s1,e1,h⟩:=R.bind_inv h
   exact qy (zI (ah9 P n) _ _ _ _ _ e1) _ _ h
  .unfold aa1 at h
   simp only at h
   split at h
   case h_2=>cases h
   split at h
   case isFalse=>cases h
   exact aq8 (ah9 P n) _ _ _ _ _ h
end DV
end
open DV renaming Sto->lM,D->lN,Env->lP,R->lQ,ev->lS,LIM->lU,eqv->lV,aa1->lW,tru->lX,DEEP->lY,Fns->lZ,Pr->l7,eqL->l8,rep->l9,aC5->mf,kd->mn,Es->mq,ag3->mr,chk->mw,evs->my,aS6->mz,O->mB,ai1->mD,aZ7->mG,jO->mH,look->mJ,Bi->mK,Tg->mM,Ct->mO,ba4->mP,sbd->mQ,qJ->mR,loB->mU,ag6->mV,inL->mW,ixn->mY,Sq->m7,As->m8,minI->m9,aD8->ng,aT6->nh,E->ni,an4->nj,M->nk,zX->nq,Ss->nr,Lm->nu,Df->nv,COp->nw,hiB->ny,slM->nA,au2->nB,ar0->nD,aw8->nE,bi->nF,jU->nG,qX->nH,Mk->nI,Mt->nJ,mk->nK,bg9->nM,pur->nN,inM->nO,bi1->nQ,aj0->nR,aX1->nT,evI->nU,meth->nV,BOp->nW,isK->nX,Ww62->n0,S->n4,exs->n5,ai7->n6,au4->n8
open DV.D renaming bndL->lO,bnd->lR,hdI->mF,nclL->mZ,ncl->nY
open DV.O renaming bnd->lT,ncl->nZ
noncomputable section
namespace L2
theorem fb {p:Prop}(h:(DV.R.B:lQ α)=.ok d s):p:=nomatch h
open PySem PySem.Spec PyProof.Rows
structure LamI where
 qual:Str
 params:bp
 body:Expr
 scope:Scope
 ps:List Str
 fr:List Str
 nm:Option (Str×Pos)
def CloAt (H:Hp)(f:Addr)(J:LamI)(cap:List V)(clos:yB):Prop:=match J.nm with
 | none=>aD0 H f J.qual J.params J.body J.scope J.fr cap clos
 | some p=>ap7 H f p.1 J.qual J.params [.Return (some J.body) p.2] J.scope J.fr cap clos
def ak2 (H:Hp)(f:Addr)(J:LamI)(clos:yB):Prop:=match J.nm with
 | none=>∃ pm c' ctv,H f=some (ay5 f (bR "<lambda>" J.qual J.params J.body J.scope clos pm (.ref c') ctv))/\H c'=some (qR c' J.qual)
 | some p=>∃ doc pm c' ctv,H f=some (ay5 f (cK p.1 J.qual J.params [.Return (some J.body) p.2] J.scope clos .none .none doc pm none (.ref c') ctv))/\H c'=some (qR c' J.qual)
structure Gm where
 K:af
 fa:String->Option Addr
 lg:String->LamI->Prop
 T:List (Addr×Str)
variable (Γ:Gm)
mutual
noncomputable def RV (C:Nat->Addr)(H:Hp):lN->V->Prop
 | .N,v=>v=.N
 | .T b,v=>v=.T b
 | .int i,v=>v=.int i
 | .str x,v=>v=.str ⟨x.toArray⟩/\x.length<=lU
 | .tp l,v=>∃ a xs,v=.ref a/\(SqT Γ.K H a xs/\(mF l=true->H a=some (.tp xs)))/\RVL C H l xs
 | .ref n,v=>v=.ref (C n)
 | .fn f,v=>∃ a,Γ.fa f=some a/\v=.ref a
 | .clo id cs,v=>∃ f cap J clos,v=.ref f/\Γ.lg id J/\CloAt H f J cap clos/\cap.length=J.fr.length/\RVL C H cs cap
noncomputable def RVL (C:Nat->Addr)(H:Hp):List lN->List V->Prop
 | [],xs=>xs=[]
 | d::l,xs=>∃ x r,xs=x::r/\RV C H d x/\RVL C H l r
end
noncomputable def cm0:HO->Bool
 | .tp _=>true
 | .frz _ _=>true
 | .ext _=>true
 | _=>false
def Kp (H H':Hp):Prop:=∀ b o,H b=some o->cm0 o=true->H' b=some o
theorem Kp.refl H :Kp H H:=λ _ _ h _=>h
theorem Kp.trans (a:Kp H y)(b:Kp y H2):Kp H H2:=λ c o h f=>b c o (a c o h f) f
theorem Kp.new (a:Kp H y)(h:y p=none):Kp H (upd y p o):=λ c u e f=>by
 have e1:=a c u e f
 rw[zm (zK e1 h)];exact e1
theorem Kp.put (a:Kp H y)(h:y p=some u)(hu:cm0 u=false):Kp H (upd y p o):=λ c v e f=>by
 have e1:=a c v e f
 rw[zm (λ z=>by subst z;rw[h]at e1;cases e1;rw[hu]at f;cases f)];exact e1
theorem Kp.sqT {K}(e:Kp H H')(h:SqT K H a y):SqT K H' a y:=by
 rcases h with(h|⟨o,h⟩)|h
 .exact .inl (.inl (e _ _ h rfl))
 .exact .inl (.inr ⟨o,e _ _ h rfl⟩)
 .exact .inr h
theorem aD0.kp (h:aD0 H f qual params body scope fr cap y)(e:Kp H H'):aD0 H' f qual params body scope fr cap y:=by
 obtain⟨pm,J,G,h1,Z,h3,Y,h5,h6⟩:=h
 refine⟨pm,J,G,e _ _ h1 rfl,e _ _ Z rfl,λ x c q=>?_,Y,h5,λ i x v a b=>?_⟩
 .obtain⟨o,v,z,d⟩:=h3 x c q
  exact⟨o,v,e _ _ z rfl,d⟩
 .obtain⟨c,o,u,z1,z2,z3⟩:=h6 i x v a b
  exact⟨c,o,u,z1,e _ _ z2 rfl,z3⟩
theorem ap7.kp (h:ap7 H f name qual params body scope fr cap y)(e:Kp H H'):ap7 H' f name qual params body scope fr cap y:=by
 obtain⟨G,pm,Y,J,h1,h2,h3,Z,h5,h6⟩:=h
 refine⟨G,pm,Y,J,e _ _ h1 rfl,e _ _ h2 rfl,λ x c q=>?_,Z,h5,λ i x v a b=>?_⟩
 .obtain⟨o,v,z,d⟩:=h3 x c q
  exact⟨o,v,e _ _ z rfl,d⟩
 .obtain⟨c,o,u,z1,z2,z3⟩:=h6 i x v a b
  exact⟨c,o,u,z1,e _ _ z2 rfl,z3⟩
theorem CloAt.kp (h:CloAt H f J cap y)(e:Kp H H'):CloAt H' f J cap y:=by
 unfold CloAt at h ⊢
 cases q:J.nm with
 | none=>rw[q]at h;exact aD0.kp h e
 | some p=>rw[q]at h;exact ap7.kp h e
theorem ak2.kp (h:ak2 H f J y)(e:Kp H H'):ak2 H' f J y:=by
 unfold ak2 at h ⊢
 cases q:J.nm with
 | none =>
  rw[q]at h
  obtain⟨Y,Z,G,h1,h2⟩:=h
  exact⟨Y,Z,G,e _ _ h1 rfl,e _ _ h2 rfl⟩
 | some p =>
  rw[q]at h
  obtain⟨a0,Y,Z,G,h1,h2⟩:=h
  exact⟨a0,Y,Z,G,e _ _ h1 rfl,e _ _ h2 rfl⟩
theorem CloAt.fn {K}(h:CloAt H f J cap y):bL2 K H f:=by
 unfold CloAt at h
 cases q:J.nm with
 | none=>rw[q]at h;obtain⟨Z,c',Y,G,_⟩:=h;exact .inl ⟨_,G⟩
 | some p=>rw[q]at h;exact ap7.fn h
structure Gw (C:Nat->Addr)(n:Nat)(H:Hp)(C':Nat->Addr)(H':Hp):Prop where
 map:∀ i,i<n->C' i=C i
 kp:Kp H H'
variable {Γ:Gm}
mutual
theorem RV.monoW {C C':Nat->Addr}{n:Nat}{H H':Hp}(g:Gw C n H C' H'):∀(d:lN) (v:V),d.bnd n=true->RV Γ C H d v->RV Γ C' H' d v
 | .N,_,_,h=>by unfold RV at h ⊢;exact h
 | .T _,_,_,h=>by unfold RV at h ⊢;exact h
 | .int _,_,_,h=>by unfold RV at h ⊢;exact h
 | .str _,_,_,h=>by unfold RV at h ⊢;exact h
 | .tp l,_,b,h=>by
  unfold RV at h ⊢
  unfold lR at b
  obtain⟨a,G,e,q,r⟩:=h
  exact⟨a,G,e,⟨g.kp.sqT q.1,λ z=>g.kp _ _ (q.2 z) rfl⟩,RVL.monoW g l G b r⟩
 | .ref k,_,b,h=>by
  unfold RV at h ⊢
  unfold lR at b
  rw[g.map k (of_decide_eq_true b)];exact h
 | .fn _,_,_,h=>by unfold RV at h ⊢;exact h
 | .clo id cs,_,b,h=>by
  unfold RV at h ⊢
  unfold lR at b
  obtain⟨f,cap,J,y,e,h1,Z,h3,Y⟩:=h
  exact⟨f,cap,J,y,e,h1,Z.kp g.kp,h3,RVL.monoW g cs cap b Y⟩
theorem RVL.monoW {C C':Nat->Addr}{n:Nat}{H H':Hp}(g:Gw C n H C' H'):∀(l:List lN) (y:List V),lO n l=true->RVL Γ C H l y->RVL Γ C' H' l y
 | [],_,_,h=>by unfold RVL at h ⊢;exact h
 | d::l,_,b,h=>by
  unfold RVL at h ⊢
  unfold lO at b
  rw[au]at b
  obtain⟨x,r,e,q,t⟩:=h
  exact⟨x,r,e,RV.monoW g d x b.1 q,RVL.monoW g l r b.2 t⟩
end
mutual
theorem zw {n m:Nat}(h:n<=m):∀ d:lN,d.bnd n=true->d.bnd m=true
 | .N,_=>rfl
 | .T _,_=>rfl
 | .int _,_=>rfl
 | .str _,_=>rfl
 | .tp l,b=>by unfold lR at b ⊢;exact ac9 h l b
 | .ref k,b=>by unfold lR at b ⊢;exact decide_eq_true (ar (of_decide_eq_true b) h)
 | .fn _,_=>rfl
 | .clo _ l,b=>by unfold lR at b ⊢;exact ac9 h l b
theorem ac9 {n m:Nat}(h:n<=m):∀ l:List lN,lO n l=true->lO m l=true
 | [],_=>rfl
 | d::l,b=>by
  unfold lO at b ⊢
  rw[au]at b ⊢
  exact⟨zw h d b.1,ac9 h l b.2⟩
end
theorem ab7 :∀ {l},lO n l=true↔∀ d∈l,d.bnd n=true
 | []=>by unfold lO;simp
 | d::l=>by
  unfold lO
  rw[au,ab7 ]
  simp
theorem qo (h:lO n l=true)(h':lO n m=true):lO n (l++m)=true :=
 ab7.mpr λ d hd=>(bM.mp hd).elim (ab7.mp h d) (ab7.mp h' d)
theorem aT3 (h:lO n l=true)(s:∀ d∈m,d∈l):lO n m=true:=ab7.mpr λ d hd=>ab7.mp h d (s d hd)
theorem ao7 {i:Nat}(h:lO n l=true)(e:l[i]?=some d):d.bnd n=true:=ab7.mp h d (aL e)
section
variable {C:Nat->Addr} {H:Hp}
theorem RVL.nil:RVL Γ C H [] []:=by unfold RVL;rfl
theorem RVL.cons (a:RV Γ C H d x)(b:RVL Γ C H l h):RVL Γ C H (d::l) (x::h):=by unfold RVL;exact⟨x,h,rfl,a,b⟩
theorem RVL.unnil (h:RVL Γ C H [] y):y=[]:=by unfold RVL at h;exact h
theorem RVL.uncons (h:RVL Γ C H (d::l) y):∃ x r,y=x::r/\RV Γ C H d x/\RVL Γ C H l r:=by unfold RVL at h;exact h
theorem RVL.length:∀ {l} {y},RVL Γ C H l y->y.length=l.length
 | [],_,h=>by rw[h.unnil];rfl
 | d::l,_,h=>by
  obtain⟨x,r,rfl,_,t⟩:=h.uncons
  rw[aR,aR,RVL.length t]
theorem RVL.get:∀ {l} {G} {i:Nat} {d},RVL Γ C H l G->l[i]?=some d->∃ x,G[i]?=some x/\RV Γ C H d x
 | [],_,_,_,_,e=>by simp at e
 | d::l,_,0,d',h,e=>by
  obtain⟨x,r,rfl,q,t⟩:=h.uncons
  have e':=by simpa using e
  subst e'
  exact⟨x,rfl,q⟩
 | d::l,_,i+1,_,h,e=>by
  obtain⟨x,r,rfl,q,t⟩:=h.uncons
  obtain⟨y,e1,e2⟩:=RVL.get t (by simpa using e)
  exact⟨y,by simpa using e1,e2⟩
theorem RVL.append:∀ {l m} {y ys},RVL Γ C H l y->RVL Γ C H m ys->RVL Γ C H (l++m) (y++ys)
 | [],_,_,_,h,h'=>by rw[h.unnil];exact h'
 | d::l,_,_,_,h,h'=>by
  obtain⟨x,r,rfl,q,t⟩:=h.uncons
  exact .cons q (RVL.append t h')
theorem RVL.drop:∀ {l} {y} n ,RVL Γ C H l y->RVL Γ C H (l.drop n) (y.drop n)
 | _,_,0,h=>h
 | [],_,n+1,h=>by rw[h.unnil];exact .nil
 | d::l,_,n+1,h=>by
  obtain⟨x,r,rfl,q,t⟩:=h.uncons
  exact RVL.drop n t
theorem RVL.take:∀ {l} {y} n ,RVL Γ C H l y->RVL Γ C H (l.take n) (y.take n)
 | _,_,0,h=>.nil
 | [],_,n+1,h=>by rw[h.unnil];exact .nil
 | d::l,_,n+1,h=>by
  obtain⟨x,r,rfl,q,t⟩:=h.uncons
  exact .cons q (RVL.take n t)
theorem RVL.set:∀ {l} {y} {d} {x} i ,RVL Γ C H l y->RV Γ C H d x->RVL Γ C H (l.set i d) (y.set i x)
 | [],_,_,_,_,h,_=>by rw[h.unnil];exact .nil
 | d::l,_,_,_,0,h,q=>by
  obtain⟨x,r,rfl,_,t⟩:=h.uncons
  exact .cons q t
 | d::l,_,_,_,i+1,h,q=>by
  obtain⟨x,r,rfl,G,t⟩:=h.uncons
  exact .cons G (RVL.set i t q)
theorem RV.intE (h:RV Γ C H (.int i) v):v=.int i:=by unfold RV at h;exact h
theorem RV.blE (h:RV Γ C H (.T i) v):v=.T i:=by unfold RV at h;exact h
theorem RV.nonE (h:RV Γ C H .N v):v=.N:=by unfold RV at h;exact h
theorem RV.strE (h:RV Γ C H (.str x) v):v=.str ⟨x.toArray⟩:=by unfold RV at h;exact h.1
theorem RV.strL (h:RV Γ C H (.str x) v):x.length<=lU:=by unfold RV at h;exact h.2
theorem RV.tupE (h:RV Γ C H (.tp l) v):∃ a y,v=.ref a/\SqT Γ.K H a y/\RVL Γ C H l y:=by unfold RV at h;obtain⟨a,y,e,q,r⟩:=h;exact⟨a,y,e,q.1,r⟩
theorem RV.tupZ (h:RV Γ C H (.tp l) v):∃ a y,(v=.ref a/\(mF l=true->H a=some (.tp y)))/\SqT Γ.K H a y/\RVL Γ C H l y:=by unfold RV at h;obtain⟨a,y,e,q,r⟩:=h;exact⟨a,y,⟨e,q.2⟩,q.1,r⟩
theorem RVL.tonil (h:RVL Γ C H l []):l=[]:=cH.mp h.length.symm
theorem RV.refE (h:RV Γ C H (.ref n) v):v=.ref (C n):=by unfold RV at h;exact h
theorem RV.intI :RV Γ C H (.int i) (.int i):=by unfold RV;rfl
theorem RV.blI :RV Γ C H (.T i) (.T i):=by unfold RV;rfl
theorem RV.nonI:RV Γ C H .N .N:=by unfold RV;rfl
theorem RV.strI (h:x.length<=lU):RV Γ C H (.str x) (.str ⟨x.toArray⟩):=by unfold RV;exact⟨rfl,h⟩
theorem RV.tupI (h:H a=some (.tp y))(q:RVL Γ C H l y):RV Γ C H (.tp l) (.ref a):=by unfold RV;exact⟨a,y,rfl,⟨SqT.of h,λ _=>h⟩,q⟩
theorem RV.tupC (h:SqT Γ.K H a y)(z:mF l=true->H a=some (.tp y))(q:RVL Γ C H l y):RV Γ C H (.tp l) (.ref a):=by unfold RV;exact⟨a,y,rfl,⟨h,z⟩,q⟩
theorem RV.refI :RV Γ C H (.ref n) (.ref (C n)):=by unfold RV;rfl
end
theorem bN8 (h:mF (mP n l)=true):mF l=true:=by
 cases n with
 | zero=>cases h
 | succ n =>
  cases l with
  | nil => 
   have:∀ k,mP k ([])=[]:=λ k=>by
    induction k with
    | zero=>rfl
    | succ k ih=>show[]++mP k []=[];rw[ih];rfl
   rw[this]at h;cases h
  | cons a l =>
   have e:mP (n+1) (a::l)=a::(l++mP n (a::l)):=rfl
   rw[e]at h
   cases a with
   | int _=>rfl
   | N=>rfl
   | tp _=>rfl
   | _=>cases h
theorem bg3 (h:(mz l y G).length=l.length):mz l y G=l:=by
 unfold mz at h ⊢
 rw[bW,eM]at h
 by_cases z:l=[]
 .subst z;simp
 .have J:=iJ.mpr z
  have e1:mU l.length y=0:=by lia
  rw[e1]at h ⊢
  rw[iq]
  exact gQ (by lia)
def SqF (K:af)(H:Hp)(a:Addr)(xs:List V):Prop:=SqL K H a xs/\∀ H',Kp H H'->SqL K H' a xs
noncomputable def bl4:lN->Option Key
 | .int i=>some (.inl i)
 | .str x=>some (.inr ⟨x.toArray⟩)
 | _=>none
def RVD {κ:Type}(kf:lN->Option κ)(Γ:Gm)(C:Nat->Addr)(H:Hp):List (lN×lN)->List (κ×V)->Prop
 | [],kvs=>kvs=[]
 | (d,e)::l,kvs=>∃ k v r,kvs=(k,v)::r/\kf d=some k/\RV Γ C H e v/\RVD kf Γ C H l r
variable (Γ)
def RO (C:Nat->Addr)(H:Hp)(a:Addr):mB->Prop
 | .J l=>∃ xs,H a=some (.J xs)/\RVL Γ C H l xs
 | .ro l=>∃ xs,SqF Γ.K H a xs/\RVL Γ C H l xs
 | .dc l=>∃ kvs,H a=some (.dK kvs)/\RVD bl4 Γ C H l kvs
 | .ins _ _=>False
abbrev okd:mB->Nat:=DV.O.kd
noncomputable def isMut:mB->Bool
 | .ro _=>false
 | _=>true
structure Rp (C:Nat->Addr)(H:Hp)(s:lM):Prop where
 inj:∀(i j:Nat) (o o':mB),s[i]?=some o->s[j]?=some o'->isMut o=true->isMut o'=true->C i=C j->i=j
 obj:∀(i:Nat) (o:mB),s[i]?=some o->RO Γ C H (C i) o
 wf:∀(i:Nat) (o:mB),s[i]?=some o->o.bnd s.length=true
 tab:TabsH Γ.T H
structure RE (C:Nat->Addr)(H:Hp)(n:Nat)(U:lP)(W:St):Prop where
 len:U.length=W.length
 val:∀(i:Nat) (d:lN),U[i]?=some (some d)->d.bnd n=true/\∃ v,W[i]?=some (some v)/\RV Γ C H d v
structure Gr (C:Nat->Addr)(s:lM)(H:Hp)(C':Nat->Addr)(s':lM)(H':Hp):Prop where
 w:Gw C s.length H C' H'
 le:s.length<=s'.length
 new:∀ i:Nat,s.length<=i->i<s'.length->H (C' i)=none
 kd:∀(i:Nat) (o o':mB),s[i]?=some o->s'[i]?=some o'->okd o'=okd o
 st:∀ b,H b≠none->H' b≠none
 fr:∀ b o,H b=some o->(∀ ps,o≠.tbl ps)->(∀(i:Nat) (ob:mB),s[i]?=some ob->isMut ob=true->C i≠b)->H' b=some o
variable {Γ}
theorem bH5 (h:okd y=okd o)(m:isMut y=true):isMut o=true:=by
 cases o with
 | ro _=>cases y with
  | ro _=>cases m
  | _=>cases h
 | _=>rfl
theorem Gr.mu (g:Gr C s H C' s' H')(i:Nat) o h (e:s[i]?=some o)(e':s'[i]?=some h)(m:isMut h=true):isMut o=true:=bH5 (g.kd i o h e e') m
theorem Gr.refl C s H :Gr C s H C s H:=⟨⟨λ _ _=>rfl,Kp.refl H⟩,ak _,λ i J y=>absurd y (by lia),λ i o G e e'=>by rw[e]at e';cases e';rfl,λ _ h=>h,λ _ _ h _ _=>h⟩
theorem Gr.trans (a:Gr C s H C1 s1 H1)(b:Gr C1 s1 H1 C2 s2 H2)(_h:s.length<=s1.length):Gr C s H C2 s2 H2:=by
 refine⟨⟨λ i y=>(b.w.map i (ar y a.le)).trans (a.w.map i y),a.w.kp.trans b.w.kp⟩,ao a.le b.le,λ i h1 h2=>?_,λ i o o' e e'=>?_,λ c h=>b.st c (a.st c h),λ c o h Y ne=>?_⟩
 .by_cases y:i<s1.length
  .rw[b.w.map i y];exact a.new i h1 y
  .have e:=b.new i (by lia) h2
   cases q:H (C2 i)with
   | none=>rfl
   | some o=>exact absurd e (a.st _ (by rw[q];simp))
 .have hl:i<s1.length:=ar (ac.mp e).1 a.le
  obtain⟨G,e1⟩:∃ G,s1[i]?=some G:=⟨s1[i],aj hl⟩
  exact(b.kd i G o' e1 e').trans (a.kd i o G e e1)
 .refine b.fr c o (a.fr c o h Y ne) Y λ i ob e m z=>?_
  by_cases y:i<s.length
  .obtain⟨J,Z⟩:∃ J,s[i]?=some J:=⟨s[i],aj y⟩
   exact ne i J Z (a.mu i J ob Z e m) (by rw[<-a.w.map i y];exact z)
  .have:=a.new i (by lia) (ac.mp e).1
   rw[z,h]at this;cases this
theorem RV.mono (g:Gr C s H C' s' H') d v (b:d.bnd s.length=true)(h:RV Γ C H d v):RV Γ C' H' d v:=RV.monoW g.w d v b h
theorem RVL.mono (g:Gr C s H C' s' H') d v (b:lO s.length d=true)(h:RVL Γ C H d v):RVL Γ C' H' d v:=RVL.monoW g.w d v b h
theorem RE.mono (h:RE Γ C H s.length U W)(g:Gr C s H C' s' H')(hn:s.length<=s'.length):RE Γ C' H' s'.length U W :=
 ⟨h.len,λ i d e=>by
  obtain⟨b,v,e1,e2⟩:=h.val i d e
  exact⟨zw hn d b,v,e1,RV.mono g d v b e2⟩⟩
def ag8 (Γ:Gm)(C:Nat->Addr)(s:lM)(H:Hp)(d:lN)(s':lM)(Q:VK):Prop :=
 ∀ v C' H',Gr C s H C' s' H'->s.length<=s'.length->d.bnd s'.length=true->RV Γ C' H' d v->Rp Γ C' H' s'->Q v H'
theorem ag8.trans (h:ag8 Γ C s H d s' Q)(g:Gr C s H C1 s1 y)(l:s.length<=s1.length):ag8 Γ C1 s1 y d s' Q :=
 λ v C' H' g' G b r p=>h v C' H' (g.trans g' l) (ao l G) b r p
theorem ag8.here (h:ag8 Γ C s H d s Q)(p:Rp Γ C H s)(b:d.bnd s.length=true)(r:RV Γ C H d v):Q v H :=
 h v C H (Gr.refl C s H) (ak _) b r p
theorem RVD.monoW (g:Gw C n H C' H'):∀ l (y:List (κ×V)),lO n (l.map (·.2))=true->RVD G Γ C H l y->RVD G Γ C' H' l y
 | [],_,_,h=>h
 | (d,e)::l,_,b,h=>by
  obtain⟨k,v,r,e1,e2,Y,J⟩:=h
  rw[aM]at b
  unfold lO at b
  rw[au]at b
  exact⟨k,v,r,e1,e2,RV.monoW g e v b.1 Y,RVD.monoW g l r b.2 J⟩
theorem RO.mono (h:RO Γ C H a o)(g:Gw C n H C' H')(b:o.bnd n=true)(hl:isMut o=true->∀ u,H a=some u->H' a=some u):RO Γ C' H' a o:=by
 cases o with
 | J l =>
  unfold lT at b
  obtain⟨y,e,r⟩:=h
  exact⟨y,hl rfl _ e,RVL.monoW g l y b r⟩
 | ro l =>
  unfold lT at b
  obtain⟨y,e,r⟩:=h
  exact⟨y,⟨e.2 _ g.kp,λ H2 k=>e.2 _ (g.kp.trans k)⟩,RVL.monoW g l y b r⟩
 | dc l =>
  unfold lT at b
  rw[au]at b
  obtain⟨G,e,r⟩:=h
  exact⟨G,hl rfl _ e,RVD.monoW g l G b.2 r⟩
 | ins _ _=>exact h.elim
theorem RO.there (h:RO Γ C H a o)(m:isMut o=true):∃ u,H a=some u/\cm0 u=false/\∀ ps,u≠.tbl ps:=by
 cases o with
 | J l=>obtain⟨y,e,_⟩:=h;exact⟨_,e,rfl,by nofun⟩
 | ro l=>cases m
 | dc l=>obtain⟨y,e,_⟩:=h;exact⟨_,e,rfl,by nofun⟩
 | ins _ _=>exact h.elim
theorem Rp.addr (p:Rp Γ C H s)(e:s[i]?=some (.J l)):∃ h,H (C i)=some (.J h)/\RVL Γ C H l h:=p.obj i _ e
theorem qO (h:n<=m)(o:mB)(b:o.bnd n=true):o.bnd m=true:=by
 cases o with
 | J l=>unfold lT at b ⊢;exact ac9 h l b
 | ro l=>unfold lT at b ⊢;exact ac9 h l b
 | dc l =>
  unfold lT at b ⊢
  rw[au]at b ⊢
  exact⟨ac9 h _ b.1,ac9 h _ b.2⟩
 | ins c l=>unfold lT at b ⊢;exact ac9 h _ b
theorem TabsH.keepF (h:TabsH T H)(k:∀ b o,(cm0 o=true\/∃ ps,o=.tbl ps)->H b=some o->H' b=some o):TabsH T H':=λ y hy=>by
 obtain⟨ps,e,t,c⟩:=h y hy
 refine⟨ps,k _ _ (.inr ⟨_,rfl⟩) e,t,λ pos J q=>?_⟩
 obtain⟨G,e1,e2⟩:=c pos J q
 exact⟨G,e1,k _ _ (.inl rfl) e2⟩
theorem Rp.new (r:Rp Γ C H s)(J:H p=none)(hb:o.bnd s.length=true)
  (ho:∀ C' H',Gw C s.length H C' H'->H' p=some u->RO Γ C' H' p o):Gr C s H (λ i=>if i=s.length then p else C i) (s++[o]) (upd H p u)/\Rp Γ (λ i=>if i=s.length then p else C i) (upd H p u) (s++[o]):=by
 have g:Gw C s.length H (λ i=>if i=s.length then p else C i) (upd H p u):=⟨λ i y=>if_neg (aA y),(Kp.refl H).new J⟩
 have key:∀ i G,(s++[o])[i]?=some G->(i<s.length/\s[i]?=some G)\/(i=s.length/\G=o):=λ i G e=>by
  rcases fX i s.length with h|h|h
  .rw[ax h]at e;exact .inl ⟨h,e⟩
  .subst h;simp at e;exact .inr ⟨rfl,e.symm⟩
  .rw[bG (by simp;lia)]at e;cases e
 refine⟨⟨g,by simp,λ i h1 h2=>?_,λ i o1 o2 e1 e2=>?_,λ b hb=>?_,λ b ob hb _ _=>by rw[zm (zK hb J)];exact hb⟩,λ i j Z oj Y ej mi mj e=>?_,λ i G e=>?_,λ i G e=>?_,r.tab.new J⟩
 .rw[aU,dt]at h2
  rw[if_pos (by lia)];exact J
 .rcases key i o2 e2 with⟨_,e⟩|⟨y,_⟩
  .rw[e1]at e;cases e;rfl
  .have:=(ac.mp e1).1;lia
 .unfold upd;split
  .simp
  .exact hb
 .rcases key i Z Y with⟨y,Y⟩|⟨y,rfl⟩<;>rcases key j oj ej with⟨hj,ej⟩|⟨hj,ej'⟩
  .rw[if_neg (aA y),if_neg (aA hj)]at e
   exact r.inj i j Z oj Y ej mi mj e
  .rw[if_neg (aA y),if_pos hj]at e
   obtain⟨u,hu,_,_⟩:=(r.obj i Z Y).there mi
   rw[e,J]at hu;cases hu
  .rw[if_neg (aA hj),if_pos y]at e
   obtain⟨u,hu,_,_⟩:=(r.obj j oj ej).there mj
   rw[<-e,J]at hu;cases hu
  .rw[y,hj]
 .rcases key i G e with⟨y,e⟩|⟨y,rfl⟩
  .show RO Γ _ _ (if i=s.length then p else C i) G
   rw[if_neg (aA y)]
   exact(r.obj i G e).mono g (r.wf i G e) λ _ v hv=>by rw[zm (zK hv J)];exact hv
  .show RO Γ _ _ (if i=s.length then p else C i) G
   rw[if_pos y]
   exact ho _ _ g zo
 .rw[aU,dt]
  rcases key i G e with⟨y,e⟩|⟨y,rfl⟩
  .exact qO (dC _) _ (r.wf i G e)
  .exact qO (dC _) _ hb
theorem Rp.set (r:Rp Γ C H s)(hk:s[k]?=some G)(Z:isMut G=true)(hb:o.bnd s.length=true)
  (ho:∀ H',Gw C s.length H C H'->H' (C k)=some u->RO Γ C H' (C k) o) (a2:okd o=okd G:=by rfl):Gr C s H C (s.set k o) (upd H (C k) u)/\Rp Γ C (upd H (C k) u) (s.set k o):=by
 obtain⟨v0,Y,f0,a1⟩:=(r.obj k G hk).there Z
 have a0:=(ac.mp hk).1
 have g:Gw C s.length H C (upd H (C k) u):=⟨λ _ _=>rfl,(Kp.refl H).put Y f0⟩
 have key:∀ i y,(s.set k o)[i]?=some y->(i≠k/\s[i]?=some y)\/(i=k/\y=o):=λ i y e=>by
  by_cases h:i=k
  .subst h;rw[aZ a0]at e;exact .inr ⟨rfl,(aw e).symm⟩
  .rw[br (cb h)]at e;exact .inl ⟨h,e⟩
 have mm:∀ i y,(s.set k o)[i]?=some y->isMut y=true->∃ J,s[i]?=some J/\isMut J=true:=λ i y e m=>by
  rcases key i y e with⟨_,e⟩|⟨h,_⟩
  .exact⟨y,e,m⟩
  .exact⟨G,by rw[h];exact hk,Z⟩
 refine⟨⟨g,by simp,λ i h1 h2=>by rw[bN]at h2;lia,λ i o1 o2 e1 e2=>?_,λ b hb=>?_,λ b ob hb nt ne=>by rw[zm (cb (ne k G hk Z))];exact hb⟩,λ i j oi oj ei ej mi mj e=>?_,λ i y e=>?_,λ i y e=>?_,r.tab.keepF λ b v hv q=>?_⟩
 .rcases key i o2 e2 with⟨_,e⟩|⟨h,rfl⟩
  .rw[e1]at e;cases e;rfl
  .subst h;rw[hk]at e1;cases e1;exact a2
 .unfold upd;split
  .simp
  .exact hb
 .obtain⟨o1,e1,m1⟩:=mm i oi ei mi
  obtain⟨o2,e2,m2⟩:=mm j oj ej mj
  exact r.inj i j o1 o2 e1 e2 m1 m2 e
 .rcases key i y e with⟨h,e⟩|⟨h,rfl⟩
  .refine(r.obj i y e).mono g (r.wf i y e) λ m v hv=>?_
   rw[zm λ z=>h (r.inj i k y G e hk m Z z)];exact hv
  .subst h
   exact ho _ g zo
 .rw[bN]
  rcases key i y e with⟨_,e⟩|⟨_,rfl⟩
  .exact r.wf i y e
  .exact hb
 .rw[zm λ z=>by
   subst z;rw[Y]at q;cases q
   rcases hv with h|⟨ps,h⟩
   .rw[f0]at h;cases h
   .exact a1 _ h]
  exact q
theorem Rp.same (r:Rp Γ C H s)(e:ai0 H H'):Gr C s H C s H'/\Rp Γ C H' s:=by
 have g:Gw C s.length H C H':=⟨λ _ _=>rfl,λ b o h _=>e b o h⟩
 exact⟨⟨g,ak _,λ i J y=>absurd y (by omega),λ i o G e e'=>by rw[e]at e';cases e';rfl,λ b hb=>by
  cases q:H b with
  | none=>exact absurd q hb
  | some o=>rw[e b o q];simp,λ b o h _ _=>e b o h⟩,r.inj,λ i o h=>(r.obj i o h).mono g (r.wf i o h) λ _ u hu=>e _ u hu,r.wf,r.tab.same e⟩
section
variable {C:Nat->Addr} {H:Hp} {s:lM} {Q:VK}
theorem ag8.alloc (h:ag8 Γ C s H (.ref s.length) (s++[.J l]) Q)(r:Rp Γ C H s)(hl:RVL Γ C H l y)(hb:lO s.length l=true)(G:H p=none):Q (.ref p) (upd H p (.J y)):=by
 obtain⟨g,J⟩:=r.new (o:=.J l) G hb λ C' H' g e=>⟨y,e,RVL.monoW g l y hb hl⟩
 have:=h (.ref p) _ _ g (by simp) (by unfold lR;simp) (by unfold RV;simp) J
 exact this
theorem ag8.tup (h:ag8 Γ C s H (.tp l) s Q)(r:Rp Γ C H s)(hl:RVL Γ C H l y)(hb:lO s.length l=true)(G:H p=none):Q (.ref p) (upd H p (.tp y)):=by
 obtain⟨g,J⟩:=r.same ((ai0.refl H).new G)
 exact h _ _ _ g (ak _) (by unfold lR;exact hb) (RV.tupI zo (RVL.mono g l y hb hl)) J
theorem ag8.put (h:ag8 Γ C s H d (s.set k (.J l)) Q)(r:Rp Γ C H s)(hk:s[k]?=some (.J l0))(hl:RVL Γ C H l y)(hb:lO s.length l=true)
  (hd:d.bnd s.length=true) (hv:RV Γ C H d v):Q v (upd H (C k) (.J y)):=by
 obtain⟨g,G⟩:=r.set (o:=.J l) hk rfl hb λ H' g e=>⟨y,e,RVL.monoW g l y hb hl⟩
 exact h _ _ _ g (by simp) (by rw[bN];exact hd) (RV.mono g d v hd hv) G
end
variable {Γ:Gm}
theorem keyOf_inj (ha:bl4 a=some k)(hb:bl4 b=some k):a=b:=by
 cases a with
 | int i =>
  cases ha
  cases b with
  | int j=>cases hb;rfl
  | str y=>cases hb
  | _=>cases hb
 | str x =>
  cases ha
  cases b with
  | int j=>cases hb
  | str y =>
   have h:=aw hb
   injection h with h
   injection h with h
   have G:=by simpa using h
   rw[G]
  | _=>cases hb
 | _=>cases ha
theorem an9 (h:d.key=true):∃ k,bl4 d=some k:=by
 cases d with
 | int i=>exact⟨_,rfl⟩
 | str x=>exact⟨_,rfl⟩
 | _=>cases h
theorem aQ5 (h:bl4 d=some k)(r:RV Γ C H d v):v=kV k:=by
 cases d with
 | int i=>cases h;exact r.intE
 | str x=>cases h;exact r.strE
 | _=>cases h
def cl9 {κ:Type}(kf:lN->Option κ):Prop:=∀ {a b} {k},kf a=some k->kf b=some k->a=b
section
variable {κ:Type} [DecidableEq κ] {kf:lN->Option κ}
theorem RVD.val (G:cl9 kf)(hk:kf d=some k):∀ {l} {y},RVD kf Γ C H l y->(mJ d l=none/\aX0 y k=none)\/∃ e v,mJ d l=some e/\aX0 y k=some v/\RV Γ C H e v/\e∈l.map (·.2)
 | [],y,h=>by
  have h:=h
  subst h
  exact .inl ⟨rfl,rfl⟩
 | (a,e)::l,y,h=>by
  obtain⟨J,v,r,rfl,e2,e3,Y⟩:=h
  by_cases z:a=d
  .subst z
   rw[hk]at e2;cases e2
   exact .inr ⟨e,v,by unfold mJ;rw[if_pos rfl],an6 rfl,e3,by simp⟩
  .have Z:¬ J=k:=λ q=>z (G e2 (by rw[q];exact hk))
   have e5:mJ d ((a,e)::l)=mJ d l:=by
    conv=>lhs;unfold mJ
    rw[if_neg z]
   rw[e5,ao5 (Z)]
   rcases RVD.val G hk Y with q|⟨e',v',q1,q2,q3,q4⟩
   .exact .inl q
   .exact .inr ⟨e',v',q1,q2,q3,by simp at q4 ⊢;exact .inr q4⟩
theorem RVD.repl (G:cl9 kf)(hk:kf d=some k)(hv:RV Γ C H e v):∀ {l} {y},RVD kf Γ C H l y->RVD kf Γ C H (l.map λ p=>if p.1=d then(p.1,e)else p) (y.map λ J=>if J.1=k then(J.1,v)else J)
 | [],y,h=>by
  have h:=h
  subst h;exact(rfl)
 | (a,e0)::l,y,h=>by
  obtain⟨Y,v0,r,rfl,e2,e3,Z⟩:=h
  rw[aM,aM]
  by_cases z:a=d
  .subst z
   rw[hk]at e2;cases e2
   rw[if_pos rfl,if_pos rfl]
   exact⟨k,v,_,rfl,hk,hv,RVD.repl G hk hv Z⟩
  .have zk:¬ Y=k:=λ q=>z (G e2 (by rw[q];exact hk))
   rw[if_neg z,if_neg zk]
   exact⟨Y,v0,_,rfl,e2,e3,RVD.repl G hk hv Z⟩
theorem RVD.snoc (G:cl9 kf)(hk:kf d=some k)(hv:RV Γ C H e v):∀ {l} {y},RVD kf Γ C H l y->RVD kf Γ C H (l++[(d,e)]) (y++[(k,v)])
 | [],y,h=>by
  have h:=h
  subst h;exact⟨k,v,[],rfl,hk,hv,rfl⟩
 | (a,e0)::l,y,h=>by
  obtain⟨J,v0,r,rfl,e2,Z,Y⟩:=h
  exact⟨J,v0,_,rfl,e2,Z,RVD.snoc G hk hv Y⟩
theorem RVD.put (G:cl9 kf)(hk:kf d=some k)(hv:RV Γ C H e v)(h:RVD kf Γ C H l y):RVD kf Γ C H (mG d e l) (aJ2 y k v):=by
 unfold mG aJ2
 rw[az4]
 rcases h.val G hk with⟨q1,q2⟩|⟨e',v',q1,q2,_⟩
 .rw[q1,q2];exact h.snoc G hk hv
 .rw[q1,q2];exact h.repl G hk hv
theorem RVD.get :∀ {l} {y} {i:Nat} {d e},RVD kf Γ C H l y->l[i]?=some (d,e)->∃ k v,y[i]?=some (k,v)/\kf d=some k/\RV Γ C H e v
 | [],_,_,_,_,_,h=>by cases h
 | (a,b)::l,y,0,d,e,h,q=>by
  obtain⟨k,v,r,rfl,e2,J,G⟩:=h
  cases q
  exact⟨k,v,rfl,e2,J⟩
 | (a,b)::l,y,i+1,d,e,h,q=>by
  obtain⟨k,v,r,rfl,e2,J,G⟩:=h
  exact RVD.get (i:=i) G (q)
theorem RVD.keys :∀ {l} {y},RVD kf Γ C H l y->∀ kv∈y,∃ d,kf d=some kv.1
 | [],y,h,kv,hk=>by
  have h:=h
  subst h;cases hk
 | (a,b)::l,y,h,kv,hk=>by
  obtain⟨k,v,r,rfl,e2,J,G⟩:=h
  rcases aB.mp hk with z|z
  .subst z;exact⟨a,e2⟩
  .exact RVD.keys G kv z
theorem RVD.length :∀ {l} {y},RVD kf Γ C H l y->y.length=l.length
 | [],y,h=>by
  have h:=h
  subst h;rfl
 | (a,e)::l,y,h=>by
  obtain⟨J,v,r,rfl,e2,Y,G⟩:=h
  rw[aR,aR,RVD.length G]
end
theorem bu2 (h:(DV.O.dc l).bnd n=true)(hd:d.bnd n=true)(J:e.bnd n=true):(DV.O.dc (mG d e l)).bnd n=true:=by
 unfold lT at h ⊢
 rw[au]at h ⊢
 obtain⟨Y,Z⟩:=h
 have g1:=ab7.mp Y
 have G:=ab7.mp Z
 unfold mG
 refine⟨ab7.mpr λ x hx=>?_,ab7.mpr λ x hx=>?_⟩
 .obtain⟨p,y,rfl⟩:=az.mp hx
  split at y
  .obtain⟨q,hq,rfl⟩:=az.mp y
   split
   .exact g1 _ (bw (f:=(·.1)) hq)
   .exact g1 _ (bw hq)
  .rcases bM.mp y with q|q
   .exact g1 _ (bw q)
   .rw[bv.mp q];exact hd
 .obtain⟨p,y,rfl⟩:=az.mp hx
  split at y
  .obtain⟨q,hq,rfl⟩:=az.mp y
   split
   .exact J
   .exact G _ (bw hq)
  .rcases bM.mp y with q|q
   .exact G _ (bw q)
   .rw[bv.mp q];exact J
theorem ao2 (h:l8 f (a::l) (b::m)=some z):∃ x y,f a b=some x/\l8 f l m=some y/\z=(x&&y):=by
 unfold l8 at h
 cases e1:f a b with
 | none=>rw[e1]at h;cases h
 | some x =>
  cases e2:l8 f l m with
  | none=>rw[e1,e2]at h;cases h
  | some y=>rw[e1,e2]at h;exact⟨x,y,rfl,rfl,(aw h).symm⟩
theorem bj5 :∀ {l m} {z},l8 f l m=some z->∃ e,(∀ j d d',l[j]?=some d->m[j]?=some d'->f d d'=some (e j))/\((l.length==m.length)&&(ai (min l.length m.length)).all e)=z
 | [],[],z,h=>by
  unfold l8 at h
  cases h
  exact⟨λ _=>true,λ j d d' h=>by simp at h,by simp⟩
 | [],b::m,z,h=>by
  unfold l8 at h
  cases h
  exact⟨λ _=>true,λ j d d' h=>by simp at h,by simp⟩
 | a::l,[],z,h=>by
  unfold l8 at h
  cases h
  exact⟨λ _=>true,λ j d d' Y G=>by simp at G,by simp⟩
 | a::l,b::m,z,h=>by
  obtain⟨x,y,e1,e2,Z⟩:=ao2 h
  obtain⟨e,Y,G⟩:=bj5 e2
  refine⟨λ j=>match j with|0=>x|j+1=>e j,λ j d d' g1 J=>?_,?_⟩
  .cases j with
   | zero=>simp at g1 J;subst g1;subst J;exact e1
   | succ j=>exact Y j d d' (by simpa using g1) (by simpa using J)
  .rw[aR,aR,show min (l.length+1) (m.length+1)=min l.length m.length+1 by lia,eF,dP,List.all_map,Z,<-G]
   have:((l.length+1==m.length+1)=(l.length==m.length)):=by
    by_cases q:l.length=m.length
    .simp[]
    .have:=by omega
     simp[]
   rw[this]
   show((l.length==m.length)&&(x&&(ai _).all e))=_
   cases x<;>cases(l.length==m.length)<;>simp
section
variable {X:Cx} {pins:yA} {W:St} {H:Hp} {sh:ah} {C:Nat->Addr} {s:lM}
theorem ar3 (I:Inv X pins W H sh)(h:H a=some (.J y))(h':SqT X.K H a ys):False:=by
 rcases h' with(z|⟨o,z⟩)|⟨o,its,n,hk,_⟩
 .rw[h]at z;cases z
 .rw[h]at z;cases z
 .have:=(I.bs a o (I.mod.kin a o hk)).2
  rw[h]at this;cases this
theorem rv_two (I:Inv X pins W H sh)(hK:X.K=Γ.K)(R:Rp Γ C H s)(J:RV Γ C H a x)(y:RV Γ C H b x)(n1:mn s a≠9)(n2:mn s b≠9):a=b\/∃ l m p Y,a=.tp l/\b=.tp m/\x=.ref p/\RVL Γ C H l Y/\RVL Γ C H m Y:=by
 have G:∀ {r:Nat},mn s (.ref r)≠9->∃ l,s[r]?=some (.J l):=λ {r} h=>by
  have h:(match s[r]? with|some (DV.O.J l)=>4|_=>9:Nat)≠9:=h
  cases hs:s[r]? with
  | none=>rw[hs]at h;exact absurd rfl h
  | some o =>
   rw[hs]at h
   cases o with
   | J l=>exact⟨l,rfl⟩
   | _=>exact absurd rfl h
 cases a with
 | N=>have e:=J.nonE;subst e;cases b with
  | N=>exact .inl rfl
  | T _=>cases y.blE
  | int _=>cases y.intE
  | str _=>cases y.strE
  | tp _=>obtain⟨_,_,e,_⟩:=y.tupE;cases e
  | ref _=>cases y.refE
  | fn _=>exact absurd rfl n2
  | clo _ _=>exact absurd rfl n2
 | T p=>have e:=J.blE;subst e;cases b with
  | N=>cases y.nonE
  | T _=>cases y.blE;exact .inl rfl
  | int _=>cases y.intE
  | str _=>cases y.strE
  | tp _=>obtain⟨_,_,e,_⟩:=y.tupE;cases e
  | ref _=>cases y.refE
  | fn _=>exact absurd rfl n2
  | clo _ _=>exact absurd rfl n2
 | int p=>have e:=J.intE;subst e;cases b with
  | N=>cases y.nonE
  | T _=>cases y.blE
  | int _=>cases y.intE;exact .inl rfl
  | str _=>cases y.strE
  | tp _=>obtain⟨_,_,e,_⟩:=y.tupE;cases e
  | ref _=>cases y.refE
  | fn _=>exact absurd rfl n2
  | clo _ _=>exact absurd rfl n2
 | str p=>have e:=J.strE;subst e;cases b with
  | N=>cases y.nonE
  | T _=>cases y.blE
  | int _=>cases y.intE
  | str q =>
   have e':p.toArray=q.toArray:=Str.mk.inj (V.str.inj y.strE)
   have a0:p=q:=by simpa using congrArg j0 e'
   subst a0;exact .inl rfl
  | tp _=>obtain⟨_,_,e,_⟩:=y.tupE;cases e
  | ref _=>cases y.refE
  | fn _=>exact absurd rfl n2
  | clo _ _=>exact absurd rfl n2
 | tp l =>
  obtain⟨p,Y,e,q1,d1⟩:=J.tupE;subst e;cases b with
  | N=>cases y.nonE
  | T _=>cases y.blE
  | int _=>cases y.intE
  | str _=>cases y.strE
  | tp m =>
   obtain⟨p',ys,e,q2,Z⟩:=y.tupE
   cases e
   rw[<-hK]at q1 q2
   rw[I.tuple_inj q2 q1]at Z
   exact .inr ⟨l,m,p,Y,rfl,rfl,rfl,d1,Z⟩
  | ref r =>
   cases y.refE
   obtain⟨m,hm⟩:=G n2
   obtain⟨ys,hy,_⟩:=R.addr hm
   rw[<-hK]at q1
   exact(ar3 I hy q1).elim
  | fn _=>exact absurd rfl n2
  | clo _ _=>exact absurd rfl n2
 | ref r =>
  have e:=J.refE;subst e
  obtain⟨l,hl⟩:=G n1
  obtain⟨Y,hx,_⟩:=R.addr hl
  cases b with
  | N=>cases y.nonE
  | T _=>cases y.blE
  | int _=>cases y.intE
  | str _=>cases y.strE
  | tp m =>
   obtain⟨p',ys,e,q2,Z⟩:=y.tupE
   cases e
   rw[<-hK]at q2
   exact(ar3 I hx q2).elim
  | ref r' =>
   obtain⟨m,hm⟩:=G n2
   have e:C r=C r':=V.ref.inj y.refE
   rw[R.inj r r' _ _ hl hm rfl rfl e]
   exact .inl rfl
  | fn _=>exact absurd rfl n2
  | clo _ _=>exact absurd rfl n2
 | fn _=>exact absurd rfl n1
 | clo _ _=>exact absurd rfl n1
theorem jH (h:mr s a b=some z):nM a b=some z\/(nM a b=none/\ng (mn s a) (mn s b)=false/\z=false):=by
 unfold mr at h
 cases e:nM a b with
 | some w=>rw[e]at h;exact .inl h
 | none =>
  rw[e]at h
  cases q:ng (mn s a) (mn s b)with
  | true=>rw[q]at h;cases h
  | false=>rw[q]at h;exact .inr ⟨rfl,rfl,(aw h).symm⟩
theorem by3 (h:nM a b=some z):mn s a≠9/\mn s b≠9:=by
 cases a<;>cases b<;>first|(cases h;done)|(constructor<;>(intro z;cases z))
theorem aj5 (h:mr s a b=some z):mn s a≠9/\mn s b≠9:=by
 rcases jH h with h|⟨_,h,_⟩
 .exact by3 h
 .unfold ng at h
  simp only[eT,beq_eq_false_iff_ne]at h
  exact⟨h.1.1,h.1.2⟩
theorem aM1 (h:mr s a a=some z):z=true:=by
 rcases jH h with h|⟨_,h,_⟩
 .cases a<;>cases h<;>first|rfl|exact beq_self_eq_true _
 .unfold ng at h;simp at h
theorem aR7 (I:Inv X pins W H sh)(hK:X.K=Γ.K)(R:Rp Γ C H s):∀ n a b x z ,lV s n a b=some z->RV Γ C H a x->RV Γ C H b x->z=true:=by
 have Y:∀ a b x z ,mr s a b=some z->RV Γ C H a x->RV Γ C H b x->z=true:=by
  intro a b x z h G y
  rcases rv_two I hK R G y (aj5 h).1 (aj5 h).2 with e|⟨l,m,_,_,rfl,rfl,_⟩
  .subst e;exact aM1 h
  .rcases jH h with h|⟨_,h,_⟩
   .cases h
   .unfold ng at h;simp[mn]at h
 intro n
 induction n with
 | zero=>intro a b x z h;unfold lV at h;exact Y a b x z h
 | succ n ih =>
  have a0:∀ l m J z ,l8 (lV s n) l m=some z->RVL Γ C H l J->RVL Γ C H m J->z=true:=by
   intro l
   induction l with
   | nil =>
    intro m J z h G y
    cases m with
    | nil=>unfold l8 at h;exact(aw h).symm
    | cons b m=>obtain⟨x,r,e,_⟩:=y.uncons;rw[G.unnil]at e;cases e
   | cons a l ihl =>
    intro m J z h G y
    cases m with
    | nil=>obtain⟨x,r,e,_⟩:=G.uncons;rw[y.unnil]at e;cases e
    | cons b m =>
     obtain⟨p,q,e1,e2,ez⟩:=ao2 h
     obtain⟨v,r,rfl,g1,g2⟩:=G.uncons
     obtain⟨v',r',e,g3,g4⟩:=y.uncons
     cases e
     rw[ez,ih a b v p e1 g1 g3,ihl m r q e2 g2 g4];rfl
  intro a b x z h G y
  unfold lV at h
  split at h
  .rename_i l m
   obtain⟨a,J,rfl,q1,d1⟩:=G.tupE
   obtain⟨b,ys,e,q2,Z⟩:=y.tupE
   cases e
   rw[<-hK]at q1 q2
   rw[I.tuple_inj q2 q1]at Z
   exact a0 l m J z h d1 Z
  .rename_i p q
   split at h
   .rename_i l m hl hm
    obtain⟨J,e1,d1⟩:=R.addr hl
    obtain⟨ys,e2,Z⟩:=R.addr hm
    have e:=G.refE.symm.trans y.refE
    have e':=V.ref.inj e
    rw[e',e2]at e1
    have e3:=by injection (aw e1)
    subst e3
    split at h
    .exact a0 l m ys z h d1 Z
    .rename_i hlen;exact absurd (d1.length.symm.trans Z.length) hlen
   .cases h
  .exact Y a b x z h G y
end
variable {Γ:Gm}
inductive Vw (sh:ah):Nat->Value->Prop where
 | N:Vw sh 0 .none
 | T (b:Bool):Vw sh 1 (.bool b)
 | int (i:Int) (t:Tok):Vw sh 1 (.int i t)
 | str (x:Str) (t:Tok):Vw sh 2 (.str x t)
 | tp {l:Addr} {items:yJ} (h:sh.heap.IsTuple l items):Vw sh 3 (.ref l)
 | J {l:Addr} {items:yJ} (h:sh.heap.IsList l items):Vw sh 4 (.ref l)
theorem Vw.eq (a:Vw sh k u)(b:Vw sh G v)(y:k≠G)(hu:A.units<cLine):gR A sh u v false:=by
 cases a with
 | N=>cases b with
  | N=>exact absurd rfl y
  | T b=>exact SeqAt.EqAt.none_bool b
  | int i t=>exact iB i t
  | str x t=>exact iC x t
  | tp h=>exact SeqAt.EqAt.none_tuple h hu
  | J h=>exact SeqAt.EqAt.none_list h hu
 | T a=>cases b with
  | N=>exact SeqAt.EqAt.bool_none a
  | T b=>exact absurd rfl y
  | int i t=>exact absurd rfl y
  | str x t=>exact SeqAt.EqAt.bool_str a x t
  | tp h=>exact SeqAt.EqAt.bool_tuple a h hu
  | J h=>exact SeqAt.EqAt.bool_list a h hu
 | int a q=>cases b with
  | N=>exact iD a q
  | T b=>exact absurd rfl y
  | int i t=>exact absurd rfl y
  | str x t=>exact iV a q x t
  | tp h=>exact SeqAt.EqAt.int_tuple a q h hu
  | J h=>exact SeqAt.EqAt.int_list a q h hu
 | str a q=>cases b with
  | N=>exact iE a q
  | T b=>exact SeqAt.EqAt.str_bool a q b
  | int i t=>exact iW a q i t
  | str x t=>exact absurd rfl y
  | tp h=>exact SeqAt.EqAt.str_tuple a q h hu
  | J h=>exact SeqAt.EqAt.str_list a q h hu
 | tp g=>cases b with
  | N=>exact SeqAt.EqAt.tuple_none g hu
  | T b=>exact SeqAt.EqAt.tuple_bool b g hu
  | int i t=>exact SeqAt.EqAt.tuple_int i t g hu
  | str x t=>exact SeqAt.EqAt.tuple_str x t g hu
  | tp h=>exact absurd rfl y
  | J h=>exact SeqAt.EqAt.tuple_list g h hu
 | J g=>cases b with
  | N=>exact SeqAt.EqAt.list_none g hu
  | T b=>exact SeqAt.EqAt.list_bool b g hu
  | int i t=>exact SeqAt.EqAt.list_int i t g hu
  | str x t=>exact SeqAt.EqAt.list_str x t g hu
  | tp h=>exact SeqAt.EqAt.list_tuple g h hu
  | J h=>exact absurd rfl y
theorem Vw.rc (a:Vw sh k u)(b:Vw sh G v)(y:k≠G)(hu:A.units<cLine):lL A sh u v false:=by
 cases a with
 | N=>cases b with
  | N=>exact absurd rfl y
  | T b=>exact SeqAt.RcAt.none_bool b
  | int i t=>exact SeqAt.RcAt.none_int i t
  | str x t=>exact SeqAt.RcAt.none_str x t
  | tp h=>exact SeqAt.RcAt.none_tuple h hu
  | J h=>exact SeqAt.RcAt.none_list h hu
 | T a=>cases b with
  | N=>exact SeqAt.RcAt.bool_none a
  | T b=>exact absurd rfl y
  | int i t=>exact absurd rfl y
  | str x t=>exact SeqAt.RcAt.bool_str a x t
  | tp h=>exact SeqAt.RcAt.bool_tuple a h hu
  | J h=>exact SeqAt.RcAt.bool_list a h hu
 | int a q=>cases b with
  | N=>exact SeqAt.RcAt.int_none a q
  | T b=>exact absurd rfl y
  | int i t=>exact absurd rfl y
  | str x t=>exact SeqAt.RcAt.int_str a q x t
  | tp h=>exact SeqAt.RcAt.int_tuple a q h hu
  | J h=>exact SeqAt.RcAt.int_list a q h hu
 | str a q=>cases b with
  | N=>exact SeqAt.RcAt.str_none a q
  | T b=>exact SeqAt.RcAt.str_bool a q b
  | int i t=>exact SeqAt.RcAt.str_int a q i t
  | str x t=>exact absurd rfl y
  | tp h=>exact SeqAt.RcAt.str_tuple a q h hu
  | J h=>exact SeqAt.RcAt.str_list a q h hu
 | tp g=>cases b with
  | N=>exact SeqAt.RcAt.tuple_none g hu
  | T b=>exact SeqAt.RcAt.tuple_bool b g hu
  | int i t=>exact SeqAt.RcAt.tuple_int i t g hu
  | str x t=>exact SeqAt.RcAt.tuple_str x t g hu
  | tp h=>exact absurd rfl y
  | J h=>exact SeqAt.RcAt.tuple_list g h hu
 | J g=>cases b with
  | N=>exact SeqAt.RcAt.list_none g hu
  | T b=>exact SeqAt.RcAt.list_bool b g hu
  | int i t=>exact SeqAt.RcAt.list_int i t g hu
  | str x t=>exact SeqAt.RcAt.list_str x t g hu
  | tp h=>exact SeqAt.RcAt.list_tuple g h hu
  | J h=>exact absurd rfl y
theorem Vw.ne (a:Vw sh k u)(b:Vw sh G v)(y:k≠G)(hu:A.units<cLine):ly A sh u v true:=by
 cases a with
 | N=>cases b with
  | N=>exact absurd rfl y
  | T b=>exact SeqAt.RcNeAt.none_bool b
  | int i t=>exact SeqAt.RcNeAt.none_int i t
  | str x t=>exact SeqAt.RcNeAt.none_str x t
  | tp h=>exact SeqAt.RcNeAt.none_tuple h hu
  | J h=>exact SeqAt.RcNeAt.none_list h hu
 | T a=>cases b with
  | N=>exact SeqAt.RcNeAt.bool_none a
  | T b=>exact absurd rfl y
  | int i t=>exact absurd rfl y
  | str x t=>exact SeqAt.RcNeAt.bool_str a x t
  | tp h=>exact SeqAt.RcNeAt.bool_tuple a h hu
  | J h=>exact SeqAt.RcNeAt.bool_list a h hu
 | int a q=>cases b with
  | N=>exact SeqAt.RcNeAt.int_none a q
  | T b=>exact absurd rfl y
  | int i t=>exact absurd rfl y
  | str x t=>exact SeqAt.RcNeAt.int_str a q x t
  | tp h=>exact SeqAt.RcNeAt.int_tuple a q h hu
  | J h=>exact SeqAt.RcNeAt.int_list a q h hu
 | str a q=>cases b with
  | N=>exact SeqAt.RcNeAt.str_none a q
  | T b=>exact SeqAt.RcNeAt.str_bool a q b
  | int i t=>exact SeqAt.RcNeAt.str_int a q i t
  | str x t=>exact absurd rfl y
  | tp h=>exact SeqAt.RcNeAt.str_tuple a q h hu
  | J h=>exact SeqAt.RcNeAt.str_list a q h hu
 | tp g=>cases b with
  | N=>exact SeqAt.RcNeAt.tuple_none g hu
  | T b=>exact SeqAt.RcNeAt.tuple_bool b g hu
  | int i t=>exact SeqAt.RcNeAt.tuple_int i t g hu
  | str x t=>exact SeqAt.RcNeAt.tuple_str x t g hu
  | tp h=>exact absurd rfl y
  | J h=>exact SeqAt.RcNeAt.tuple_list g h hu
 | J g=>cases b with
  | N=>exact SeqAt.RcNeAt.list_none g hu
  | T b=>exact SeqAt.RcNeAt.list_bool b g hu
  | int i t=>exact SeqAt.RcNeAt.list_int i t g hu
  | str x t=>exact SeqAt.RcNeAt.list_str x t g hu
  | tp h=>exact SeqAt.RcNeAt.list_tuple g h hu
  | J h=>exact absurd rfl y
theorem cb7 (a b:List Nat):((⟨a.toArray⟩:Str)==⟨b.toArray⟩)=(a==b):=by
 by_cases e:a=b
 .subst e;simp
 .have:(⟨a.toArray⟩:Str)≠⟨b.toArray⟩:=λ q=>e (by simpa using congrArg (λ z=>z.cps.toList) q)
  rw[beq_eq_false_iff_ne.mpr this,beq_eq_false_iff_ne.mpr e]
structure Cmp (A:aV)(sh:ah)(u v:Value)(z:Bool):Prop where
 rc:lL A sh u v z
 ne:ly A sh u v (!z)
section
variable {X:Cx} {pins:yA} {W:St} {H:Hp} {sh:ah} {C:Nat->Addr} {s:lM}
theorem cc3 (I:Inv X pins W H sh)(J:X.K=Γ.K)(R:Rp Γ C H s)(h:RV Γ C H d x)(r:RelV x u)(hk:mn s d≠9):Vw sh (mn s d) u:=by
 cases d with
 | N=>have e:=h.nonE;subst e;cases r;exact .N
 | T b=>have e:=h.blE;subst e;cases r;exact .T b
 | int i=>have e:=h.intE;subst e;obtain⟨t,rfl⟩:=r;exact .int i t
 | str y=>have e:=h.strE;subst e;obtain⟨t,rfl⟩:=r;exact .str _ t
 | tp l =>
  obtain⟨a,G,e,q,_⟩:=h.tupE
  subst e;cases r
  rw[<-J]at q
  obtain⟨its,_,t,_⟩:=I.tuple q
  exact .tp t
 | ref n =>
  have e:=h.refE;subst e;cases r
  have hk:(match s[n]? with|some (DV.O.J l)=>4|_=>9:Nat)≠9:=hk
  show Vw sh (match s[n]? with|some (DV.O.J l)=>4|_=>9:Nat) _
  cases hs:s[n]? with
  | none=>rw[hs]at hk;exact absurd rfl hk
  | some o =>
   rw[hs]at hk
   cases o with
   | J l =>
    obtain⟨G,e,_⟩:=R.addr hs
    obtain⟨its,_,t,_⟩:=I.list (SqL.of e)
    exact .J t.isList
   | _=>exact absurd rfl hk
 | fn _=>exact absurd rfl hk
 | clo _ _=>exact absurd rfl hk
theorem aG0 (I:Inv X pins W H sh)(hK:X.K=Γ.K)(R:Rp Γ C H s)(h:mr s a b=some z)(G:RV Γ C H a x)(Y:RV Γ C H b y)(r1:RelV x u)(J:RelV y v)(hu:A.units<cLine) :
  gR A sh u v z/\Cmp A sh u v z:=by
 rcases jH h with h|⟨_,hn,hz⟩
 .cases a<;>cases b<;>try cases h
  .cases G.nonE;cases Y.nonE;cases r1;cases J
   exact⟨eX _,SeqAt.RcAt.none_none,SeqAt.RcNeAt.none_none⟩
  .cases G.blE;cases Y.blE;cases r1;cases J
   exact⟨SeqAt.EqAt.bool_bool _ _,SeqAt.RcAt.bool_bool _ _,SeqAt.RcNeAt.bool_bool _ _⟩
  .cases G.blE;cases Y.intE;cases r1;obtain⟨t',rfl⟩:=J
   exact⟨SeqAt.EqAt.bool_int _ _ _,SeqAt.RcAt.bool_int _ _ _,SeqAt.RcNeAt.bool_int _ _ _⟩
  .cases G.intE;cases Y.blE;obtain⟨t,rfl⟩:=r1;cases J
   exact⟨SeqAt.EqAt.int_bool _ _ _,SeqAt.RcAt.int_bool _ _ _,SeqAt.RcNeAt.int_bool _ _ _⟩
  .cases G.intE;cases Y.intE;obtain⟨t,rfl⟩:=r1;obtain⟨t',rfl⟩:=J
   exact⟨SeqAt.EqAt.int_int _ _ _ _,SeqAt.RcAt.int_int _ _ _ _,SeqAt.RcNeAt.int_int _ _ _ _⟩
  .cases G.strE;cases Y.strE;obtain⟨t,rfl⟩:=r1;obtain⟨t',rfl⟩:=J
   rw[<-cb7]
   exact⟨SeqAt.EqAt.str_str _ _ _ _,SeqAt.RcAt.str_str _ _ _ _,SeqAt.RcNeAt.str_str _ _ _ _⟩
 .subst hz
  unfold ng at hn
  simp only[eT,beq_eq_false_iff_ne]at hn
  have Z:=cc3 I hK R G r1 hn.1.1
  have w2:=cc3 I hK R Y J hn.1.2
  exact⟨Z.eq w2 hn.2 hu,Z.rc w2 hn.2 hu,Z.ne w2 hn.2 hu⟩
theorem be4 (I:Inv X pins W H sh)(hK:X.K=Γ.K)(R:Rp Γ C H s):∀ n a b x y u v A z ,lV s n a b=some z->RV Γ C H a x->RV Γ C H b y->RelV x u->RelV y v->Room n A ->
  gR A sh u v z/\Cmp A sh u v z:=by
 intro n
 induction n with
 | zero=>intro a b x y u v A z h h1 h2 r1 r2 J;unfold lV at h;exact aG0 I hK R h h1 h2 r1 r2 J.units0
 | succ n ih =>
  have G:∀ {l m:List lN} {xs ys:List V} {its its':yG} {A:aV} {e:Nat->Bool},RVL Γ C H l xs->RVL Γ C H m ys->Vals xs its->Vals ys its'->Room n A->(∀ j d d',l[j]?=some d->m[j]?=some d'->lV s n d d'=some (e j)) ->
    ∀ j (h1:j<its.toArray.size) (h2:j<its'.toArray.size),gR A sh its.toArray[j] its'.toArray[j] (e j):=by
   intro l m xs ys its its' A e d1 d2 v1 v2 J he j h1 h2
   have l1:=v1.length
   have l2:=v2.length
   have e1:=d1.length
   have e2:=d2.length
   have a2:=by simpa using h1
   have a3:=by simpa using h2
   have hj:j<l.length:=by lia
   have a0:j<m.length:=by lia
   obtain⟨x,ex,dx⟩:=d1.get (aj hj)
   obtain⟨y,ey,dy⟩:=d2.get (aj a0)
   obtain⟨u,eu,ru⟩:=v1.get ex
   obtain⟨w,ew,a1⟩:=v2.get ey
   have g1:its.toArray[j]=u:=by
    have:=aj a2
    rw[eu]at this
    simpa using(aw this).symm
   have g2:its'.toArray[j]=w:=by
    have:=aj a3
    rw[ew]at this
    simpa using(aw this).symm
   rw[g1,g2]
   exact(ih _ _ x y u w A (e j) (he j _ _ (aj hj) (aj a0)) dx dy ru a1 J).1
  intro a b x y u v A z h h1 h2 r1 r2 J
  have hz:=h
  unfold lV at h
  split at h
  .rename_i l m
   obtain⟨p,xs,ex,q1,d1⟩:=id h1.tupE
   obtain⟨q,ys,ey,q2,d2⟩:=id h2.tupE
   subst ex;subst ey
   cases r1;cases r2
   rw[<-hK]at q1 q2
   obtain⟨its,v1,t1,_⟩:=I.tuple q1
   obtain⟨its',v2,t2,_⟩:=I.tuple q2
   obtain⟨e,he,Z⟩:=bj5 h
   have l1:=v1.length
   have l2:=v2.length
   have e1:=d1.length
   have e2:=d2.length
   have sz:((ai (min its.toArray.size its'.toArray.size)).all e&&its.toArray.size==its'.toArray.size)=z:=by
    rw[<-Z,Bool.and_comm,show its.toArray.size=l.length by simp;lia,show its'.toArray.size=m.length by simp;lia]
   have key:=SeqAt.RcAt.tuples t1 t2 J.units0 (G d1 d2 v1 v2 J.in1 he)
   have Y:=SeqAt.RcNeAt.tuples t1 t2 J.units0 (G d1 d2 v1 v2 J.in1 he)
   rw[sz]at key Y
   refine⟨?_,key,Y⟩
   by_cases hab:p=q
   .subst hab
    rw[aR7 I hK R _ _ _ _ _ hz h1 h2]
    exact eX _
   .exact jX hab key
  .rename_i p q
   split at h
   .rename_i l m hl hm
    obtain⟨xs,e1,d1⟩:=R.addr hl
    obtain⟨ys,e2,d2⟩:=R.addr hm
    have ex:=h1.refE
    have ey:=h2.refE
    subst ex;subst ey
    cases r1;cases r2
    obtain⟨its,v1,t1,_⟩:=I.list (SqL.of e1)
    obtain⟨its',v2,t2,_⟩:=I.list (SqL.of e2)
    have l1:=v1.length
    have l2:=v2.length
    have c1:=d1.length
    have c2:=d2.length
    have fin:Cmp A sh (.ref (C p)) (.ref (C q)) z:=by
     split at h
     .rename_i hlen
      obtain⟨e,he,Z⟩:=bj5 h
      have sz:(ai its.toArray.size).all e=z:=by
       rw[<-Z,show its.toArray.size=l.length by simp;omega,hlen]
       simp
      have key:=SeqAt.RcAt.lists t1.isList t2.isList (by simp;lia) J.units0 (G d1 d2 v1 v2 J.in1 he)
      have Y:=SeqAt.RcNeAt.lists (e:=e) t1.isList t2.isList (by simp;omega) J.units0 (G d1 d2 v1 v2 J.in1 he)
      rw[sz]at key Y
      exact⟨key,Y⟩
     .rename_i hlen
      cases h
      have hs:(its.toArray.size != its'.toArray.size)=true:=by simp;lia
      exact⟨SeqAt.RcAt.lists_lengths t1.isList t2.isList hs J.units0,SeqAt.RcNeAt.lists_lengths t1.isList t2.isList hs J.units0⟩
    refine⟨?_,fin⟩
    by_cases hab:C p=C q
    .rw[aR7 I hK R _ _ _ _ _ hz RV.refI (by rw[hab];exact RV.refI),hab]
     exact eX _
    .exact jX hab fin.rc
   .cases h
  .exact aG0 I hK R h h1 h2 r1 r2 J.units0
end
variable {Γ:Gm} {X:Cx}
noncomputable def cq0:nW->Operator
 | .add=>.Add|.sub=>.Sub|.mul=>.Mult|.fdiv=>.FloorDiv|.mod=>.Mod|.pow=>.Pow|.shl=>.LShift|.shr=>.RShift|.band=>.BitAnd|.bor=>.BitOr
noncomputable def au3:nw->CmpOp
 | .eq=>.Eq|.ne=>.NotEq|.lt=>.Lt|.le=>.LtE|.gt=>.Gt|.ge=>.GtE|.isin=>.In|.notin=>.NotIn
def rOp (Γ:Gm)(f:lN->lN->lM->lQ lN):R2:=λ x y H Q=>∃ C s a b d s',Rp Γ C H s/\RV Γ C H a x/\RV Γ C H b y/\a.bnd s.length=true/\b.bnd s.length=true/\f a b s=.ok d s'/\ag8 Γ C s H d s' Q
theorem qG (h:nN d s=.ok e t):d=e/\s=t:=by
 unfold nN at h
 cases h
 exact⟨rfl,rfl⟩
theorem qS (h:mV o s=.ok e t):e=.ref s.length/\t=s++[o]:=by
 unfold mV at h
 cases h
 exact⟨rfl,rfl⟩
theorem bq5 (a b:List Nat):(⟨a.toArray⟩:Str)++⟨b.toArray⟩=⟨(a++b).toArray⟩:=by
 show Str.append _ _=_
 unfold Str.append
 simp
theorem qA:lU<=aQ:=by rw[fQ];decide
theorem bF5:OpR X (cz .Mult) (rI (λ i j=>DV.mulOk i j=true) λ i j=>.int (i*j)):=opI λ i j _ _ _ _ _ hc q=>mul_int q (by
 unfold DV.mulOk at hc
 simp only[bT,au,decide_eq_true_eq]at hc
 rcases hc with(h|h)|⟨y,G⟩
 .exact cl0.ok (.inl (by omega))
 .exact cl0.ok (.inr (by omega))
 .unfold DV.BIG at y G
  exact IntMulOk.of_le (intBits_le_iff.mpr y) (intBits_le_iff.mpr G) (by decide))
theorem aT2 l :∀ n h ,(aq n l.toArray).foldl (·++·) h=h++(l9 n l).toArray
 | 0,h=>by simp[l9]
 | n+1,h=>by
  rw[bO,cx,aT2 l n]
  simp[l9]
theorem bS7 l :l9 1 l=l:=by simp[l9]
theorem bb7:∀ n,l9 n []=[]
 | 0=>rfl
 | n+1=>by simp[l9,bb7 n]
theorem rep_len l :∀ n,(l9 n l).length=l.length*n
 | 0=>by simp[l9]
 | n+1=>by simp[l9,rep_len l n,ip];lia
theorem bQ9:OpR X (cz .Mult) (λ x y H Q=>∃ l n ,x=.str ⟨l.toArray⟩/\y=.int n/\(0<=n/\n<=1000000/\l.length*n.toNat<=lU)/\Q (.str ⟨(l9 n.toNat l).toArray⟩) H):=by
 intro J s W H x y v u Q I rx Y h
 obtain⟨l,n,rfl,rfl,⟨h0,h1,h2⟩,q⟩:=h
 obtain⟨t,rfl⟩:=rx
 obtain⟨t',rfl⟩:=Y
 have hlen:(⟨l.toArray⟩:Str).length=l.length:=by show l.toArray.size=_;simp
 have hL:=qA
 have a0:=ar4
 refine SB.mul ⟨?_,λ hn _=>?_,λ hn _=>?_⟩ λ t2 k=>?_
 .rw[decide_eq_false (by lia),decide_eq_false (by lia)];rfl
 .rw[hlen]
  have G:1<=n:=by omega
  intro Z
  have h3:(l.length:Int)*n<=1000000:=by
   have:=Int.ofNat_le.mpr h2
   rw[gZ,iL h0]at this
   have e:((lU:Nat):Int)=1000000:=by unfold lU;rfl
   lia
  have h4:=by
   have:(l.length:Int)*1<=(l.length:Int)*n:=c9 G (by lia)
   omega
  have h5:(1000000:Int)<=(2^63 - 1) / n:=by
   rw[Int.le_ediv_iff_mul_le (by omega)]
   have:=c9 h1 (by omega)
   lia
  omega
 .rw[hlen]
  unfold k9
  exact decide_eq_false (by lia)
 .have e:Txt.mul ⟨l.toArray⟩ n=⟨(l9 n.toNat l).toArray⟩:=by
   unfold Txt.mul
   split
   .have:n.toNat=0:=by lia
    rw[this];rfl
   .split
    .rename_i hc
     rw[bT]at hc
     rcases hc with hc|hc
     .have:=by simpa using hc
      subst this
      show(⟨l.toArray⟩:Str)=⟨(l9 1 l).toArray⟩
      rw[bS7]
     .have:=by
       have:=eq_of_beq hc
       rw[hlen]at this
       exact cH.mp this
      subst this
      rw[bb7]
    .skip
     rw[aT2];simp
  rw[e]
  exact⟨.str _,H,I.tok _,⟨_,rfl⟩,q⟩
theorem aq9 (h:lO n l=true):∀ k,lO n (mP k l)=true
 | 0=>rfl
 | k+1=>qo h (aq9 h k)
theorem RVL.repD (h:RVL Γ C H l y):∀ k,RVL Γ C H (mP k l) (at2 k y)
 | 0=>RVL.nil
 | k+1=>h.append (RVL.repD h k)
theorem aC8 (h:List α):∀ k,at2 k h=(aq k h).flatten
 | 0=>rfl
 | k+1=>by rw[bO,cW,<-aC8 h k];rfl
theorem bW7 (hK:X.K=Γ.K) op :OpR X (cz (cq0 op)) (rOp Γ (DV.jv op)):=by
 intro J s W H x y v u Q I rx Z h
 obtain⟨C,st,a,b,d,a0,R,ha,hb,na,nb,G,q⟩:=h
 cases op with
 | add =>
  cases a with
  | int a =>
   cases b with
   | int b =>
    obtain⟨rfl,rfl⟩:=qG G
    have ex:=ha.intE;have Y:=hb.intE;subst ex;subst Y
    exact bX9 J s W H _ _ v u Q I rx Z ⟨_,_,rfl,rfl,q.here R rfl RV.intI⟩
   | _=>exact fb G
  | str a =>
   cases b with
   | str b =>
    change(if _ then _ else _:nk lN) st=_ at G
    split at G
    .rename_i hl
     obtain⟨rfl,rfl⟩:=qG G
     have ex:=ha.strE;have Y:=hb.strE;subst ex;subst Y
     refine aY7 J s W H _ _ v u Q I rx Z ⟨_,_,rfl,rfl,?_,?_⟩
     .show a.toArray.size+b.toArray.size<=_
      simp only[ay]
      exact ao hl qA
     .rw[bq5];exact q.here R rfl (RV.strI (by rw[aU];exact hl))
    .exact fb G
   | _=>exact fb G
  | tp a =>
   cases b with
   | tp b =>
    change(if _ then _ else _:nk lN) st=_ at G
    split at G
    .rename_i hl
     obtain⟨rfl,rfl⟩:=qG G
     obtain⟨p,xs,⟨rfl,z1⟩,h1,d1⟩:=ha.tupZ
     obtain⟨p',ys,⟨rfl,z2⟩,h2,d2⟩:=hb.tupZ
     refine bN6 hK J s W H _ _ v u Q I rx Z ⟨p,p',xs,ys,rfl,rfl,h1,h2,?_,λ t H' e ht hn=>?_⟩
     .rw[d1.length,d2.length];exact ao hl qA
     .obtain⟨g,r'⟩:=R.same e
      unfold lR at na nb
      refine q _ _ _ g (ak _) (by unfold lR;exact qo na nb) (RV.tupC ht (λ z=>?_) ((RVL.mono g _ _ na d1).append (RVL.mono g _ _ nb d2))) r'
      rcases hn with hn|⟨rfl,rfl⟩|⟨rfl,rfl⟩
      .exact hn
      .rw[d2.tonil,bf]at z;rw[bf];exact e _ _ (z1 z)
      .rw[d1.tonil]at z;exact e _ _ (z2 z)
    .exact fb G
   | _=>exact fb G
  | ref a =>
   cases b with
   | ref b =>
    change(match st[a]?,st[b]? with|some (DV.O.J l),some (DV.O.J m)=>if l.length+m.length<=lU then mV (.J (l++m)) st else .B|_,_=>.B:lQ lN)=_ at G
    split at G
    .rename_i l m h1 h2
     split at G
     .rename_i hl
      obtain⟨rfl,rfl⟩:=qS G
      obtain⟨xs,e1,d1⟩:=R.addr h1
      obtain⟨ys,e2,d2⟩:=R.addr h2
      have ex:=ha.refE;have Y:=hb.refE;subst ex;subst Y
      have b1:=R.wf _ _ h1
      have b2:=R.wf _ _ h2
      unfold lT at b1 b2
      refine ch0 J s W H _ _ v u Q I rx Z ⟨C a,C b,xs,ys,rfl,rfl,e1,e2,?_,λ p hp=>?_⟩
      .rw[d1.length,d2.length];exact ao hl qA
      .exact q.alloc R (d1.append d2) (qo b1 b2) hp
     .exact fb G
    .exact fb G
   | _=>exact fb G
  | _=>exact fb G
 | sub =>
  cases a with
  | int a =>
   cases b with
   | int b =>
    obtain⟨rfl,rfl⟩:=qG G
    have ex:=ha.intE;have Y:=hb.intE;subst ex;subst Y
    exact cb4 J s W H _ _ v u Q I rx Z ⟨_,_,rfl,rfl,q.here R rfl RV.intI⟩
   | _=>exact fb G
  | _=>exact fb G
 | mul =>
  cases a with
  | int a =>
   cases b with
   | int b =>
    change(if _ then _ else _:nk lN) st=_ at G
    split at G
    .rename_i hc
     obtain⟨rfl,rfl⟩:=qG G
     have ex:=ha.intE;have Y:=hb.intE;subst ex;subst Y
     exact bF5 J s W H _ _ v u Q I rx Z ⟨_,_,rfl,rfl,hc,q.here R rfl RV.intI⟩
    .exact fb G
   | _=>exact fb G
  | str a =>
   cases b with
   | int b =>
    change(if _ then _ else _:nk lN) st=_ at G
    split at G
    .rename_i hc
     obtain⟨rfl,rfl⟩:=qG G
     have ex:=ha.strE;have Y:=hb.intE;subst ex;subst Y
     exact bQ9 J s W H _ _ v u Q I rx Z ⟨_,_,rfl,rfl,hc,q.here R rfl (RV.strI (by rw[rep_len];exact hc.2.2))⟩
    .exact fb G
   | _=>exact fb G
  | tp a =>
   cases b with
   | int b =>
    change(if _ then _ else _:nk lN) st=_ at G
    split at G
    .rename_i hc
     obtain⟨rfl,rfl⟩:=qG G
     obtain⟨p,xs,⟨rfl,z1⟩,h1,d1⟩:=ha.tupZ
     have Y:=hb.intE;subst Y
     refine bJ1 hK J s W H _ _ v u Q I rx Z ⟨p,xs,_,rfl,rfl,h1,⟨hc.1,hc.2.1,by rw[d1.length];exact hc.2.2⟩,λ t H' e ht hn=>?_⟩
     obtain⟨g,r'⟩:=R.same e
     unfold lR at na
     refine q _ _ _ g (ak _) (by unfold lR;exact aq9 na _) (RV.tupC ht (λ z=>?_) (RVL.repD (RVL.mono g _ _ na d1) _)) r'
     rcases hn with hn|⟨rfl,ex⟩
     .exact hn
     .rw[ex];exact e _ _ (z1 (bN8 z))
    .exact fb G
   | _=>exact fb G
  | ref a =>
   cases b with
   | int b =>
    change(match st[a]? with|some (DV.O.J l)=>if 0<=b/\b<=1000000/\l.length*b.toNat<=lU then mV (.J (mP b.toNat l)) st else .B|_=>.B:lQ lN)=_ at G
    split at G
    .rename_i l h1
     split at G
     .rename_i hc
      obtain⟨rfl,rfl⟩:=qS G
      obtain⟨xs,e1,d1⟩:=R.addr h1
      have ex:=ha.refE;have Y:=hb.intE;subst ex;subst Y
      have b1:=R.wf _ _ h1
      unfold lT at b1
      refine cc6 J s W H _ _ v u Q I rx Z ⟨C a,b,xs,rfl,rfl,e1,by lia,by omega,?_,λ p hp=>?_⟩
      .rw[d1.length];exact ao hc.2.2 qA
      .rw[<-aC8];exact q.alloc R (RVL.repD d1 _) (aq9 b1 _) hp
     .exact fb G
    .exact fb G
   | _=>exact fb G
  | _=>exact fb G
 | fdiv =>
  cases a with
  | int a =>
   cases b with
   | int b =>
    change(if _ then _ else _:nk lN) st=_ at G
    split at G
    .rename_i hc
     obtain⟨rfl,rfl⟩:=qG G
     have ex:=ha.intE;have Y:=hb.intE;subst ex;subst Y
     refine bt5 J s W H _ _ v u Q I rx Z ⟨_,_,rfl,rfl,⟨hc.1,?_⟩,q.here R rfl RV.intI⟩
     have:=hc.2
     unfold DV.DIVL at this
     simpa using this
    .exact fb G
   | _=>exact fb G
  | _=>exact fb G
 | mod =>
  cases a with
  | int a =>
   cases b with
   | int b =>
    change(if _ then _ else _:nk lN) st=_ at G
    split at G
    .rename_i hc
     obtain⟨rfl,rfl⟩:=qG G
     have ex:=ha.intE;have Y:=hb.intE;subst ex;subst Y
     exact cf9 J s W H _ _ v u Q I rx Z ⟨_,_,rfl,rfl,hc,q.here R rfl RV.intI⟩
    .exact fb G
   | _=>exact fb G
  | _=>exact fb G
 | pow =>
  cases a with
  | int a =>
   cases b with
   | int b =>
    change(if _ then _ else _:nk lN) st=_ at G
    split at G
    .rename_i hc
     obtain⟨rfl,rfl⟩:=qG G
     have ex:=ha.intE;have Y:=hb.intE;subst ex;subst Y
     exact bV8 J s W H _ _ v u Q I rx Z ⟨_,_,rfl,rfl,hc,q.here R rfl RV.intI⟩
    .exact fb G
   | _=>exact fb G
  | _=>exact fb G
 | shl =>
  cases a with
  | int a =>
   cases b with
   | int b =>
    change(if _ then _ else _:nk lN) st=_ at G
    split at G
    .rename_i hc
     obtain⟨rfl,rfl⟩:=qG G
     have ex:=ha.intE;have Y:=hb.intE;subst ex;subst Y
     exact cc8 J s W H _ _ v u Q I rx Z ⟨_,_,rfl,rfl,hc,q.here R rfl RV.intI⟩
    .exact fb G
   | _=>exact fb G
  | _=>exact fb G
 | shr =>
  cases a with
  | int a =>
   cases b with
   | int b =>
    change(if _ then _ else _:nk lN) st=_ at G
    split at G
    .rename_i hc
     obtain⟨rfl,rfl⟩:=qG G
     have ex:=ha.intE;have Y:=hb.intE;subst ex;subst Y
     exact ch2 J s W H _ _ v u Q I rx Z ⟨_,_,rfl,rfl,hc,q.here R rfl RV.intI⟩
    .exact fb G
   | _=>exact fb G
  | _=>exact fb G
 | band=>exact fb G
 | bor=>exact fb G
variable {Γ:Gm} {X:Cx} {pins:yA} {W:St} {H:Hp} {sh:ah} {C:Nat->Addr} {s:lM}
theorem aU6 (h:lV s n a b=some z):mn s a≠9:=by
 cases n with
 | zero=>unfold lV at h;exact(aj5 h).1
 | succ n =>
  unfold lV at h
  split at h
  .simp[mn]
  .split at h
   .rename_i y _;simp[mn,y]
   .cases h
  .exact(aj5 h).1
theorem ba9 (I:Inv X pins W H sh)(Y:X.K=Γ.K)(R:Rp Γ C H s):∀ n a b c x p q ,RV Γ C H a x->RV Γ C H b x->lV s n a c=some p->lV s n b c=some q->p=q:=by
 intro n
 induction n with
 | zero =>
  intro a b c x p q y h e1 e2
  rcases rv_two I Y R y h (aU6 e1) (aU6 e2)with e|⟨l,m,_,_,rfl,rfl,_⟩
  .subst e;rw[e1]at e2;exact aw e2
  .unfold lV at e1 e2
   have:mr s (.tp l) c=mr s (.tp m) c:=by unfold mr;cases c<;>rfl
   rw[this,e2]at e1;exact(aw e1).symm
 | succ n ih =>
  have J:∀ l m k G p q ,RVL Γ C H l G->RVL Γ C H m G->l8 (lV s n) l k=some p->l8 (lV s n) m k=some q->p=q:=by
   intro l
   induction l with
   | nil =>
    intro m k G p q y h e1 e2
    have:=y.unnil;subst this
    have hm:=by have:=h.length;exact cH.mp this.symm
    subst hm
    rw[e1]at e2;exact aw e2
   | cons a l ihl =>
    intro m k G p q y h e1 e2
    obtain⟨x,r,rfl,g1,g2⟩:=y.uncons
    cases m with
    | nil=>have:=h.unnil;cases this
    | cons b m =>
     obtain⟨x',r',e,g3,g4⟩:=h.uncons
     cases e
     cases k with
     | nil=>unfold l8 at e1 e2;rw[<-aw e1,<-aw e2]
     | cons c k =>
      obtain⟨p1,p2,a1,a2,a3⟩:=ao2 e1
      obtain⟨q1,q2,b1,b2,b3⟩:=ao2 e2
      rw[a3,b3,ih a b c x p1 q1 g1 g3 a1 b1,ihl m k r p2 q2 g2 g4 a2 b2]
  intro a b c x p q y h e1 e2
  rcases rv_two I Y R y h (aU6 e1) (aU6 e2)with e|⟨l,m,_,G,rfl,rfl,_,d1,Z⟩
  .subst e;rw[e1]at e2;exact aw e2
  .cases c with
   | tp k=>unfold lV at e1 e2;exact J l m k G p q d1 Z e1 e2
   | _ =>
    unfold lV at e1 e2
    simp only at e1 e2
    have e3:mr s (.tp l)=mr s (.tp m):=by funext c;unfold mr;cases c<;>rfl
    rw[e3]at e1
    exact aw (e1.symm.trans e2)
theorem bD1 :∀ {l} {z},mW s x l=some z->∃ e:Nat->Bool,(∀ j d,l[j]?=some d->lV s lY d x=some (e j))/\(z=true↔∃ j,j<l.length/\e j=true)
 | [],z,h=>by
  unfold mW at h
  cases h
  exact⟨λ _=>true,λ j d h=>by simp at h,by simp⟩
 | y::l,z,h=>by
  unfold mW at h
  cases e1:lV s lY y x with
  | none=>rw[e1]at h;cases h
  | some a =>
   cases e2:mW s x l with
   | none=>rw[e1,e2]at h;cases h
   | some b =>
    rw[e1,e2]at h
    obtain⟨e,G,J⟩:=bD1 e2
    refine⟨λ j=>match j with|0=>a|j+1=>e j,λ j d g=>?_,?_⟩
    .cases j with
     | zero=>simp at g;subst g;exact e1
     | succ j=>exact G j d (by simpa using g)
    .have hz:=aw h
     rw[<-hz,bT,J]
     constructor
     .rintro(q|⟨j,hj,q⟩)
      .exact⟨0,by simp,q⟩
      .exact⟨j+1,by simpa using hj,q⟩
     .rintro⟨j,hj,q⟩
      cases j with
      | zero=>exact .inl q
      | succ j=>exact .inr ⟨j,by simpa using hj,q⟩
theorem bD2 (I:Inv X pins W H sh)(hK:X.K=Γ.K)(R:Rp Γ C H s)(hx:RV Γ C H x xv)(rx:RelV xv xu){its:yG}(hl:RVL Γ C H l ys)(hv:Vals ys its)(h:mW s x l=some z)(hr:Room lY A) :
  ∃ e:Value->Bool,(∀ y,y∈its.toArray->gR A sh y xu (e y))/\its.toArray.any e=z:=by
 obtain⟨e,h1,h2⟩:=bD1 h
 have len:its.length=l.length:=by rw[<-hv.length];exact hl.length
 have G:∀ j u,its[j]?=some u->∃ d y,l[j]?=some d/\ys[j]?=some y/\RV Γ C H d y/\RelV y u:=λ j u g=>by
  have hj:j<l.length:=by rw[<-len];exact(ac.mp g).1
  obtain⟨y,g1,g2⟩:=hl.get (aj hj)
  obtain⟨u',J,Z⟩:=hv.get g1
  rw[g]at J;cases J
  exact⟨_,y,aj hj,g1,g2,Z⟩
 classical
 let f:Value->Bool:=λ u=>decide (∃ j,its[j]?=some u/\e j=true)
 have hf:∀ j u,its[j]?=some u->f u=e j:=λ j u g=>by
  obtain⟨d,y,g1,g2,J,Z⟩:=G j u g
  cases q:e j with
  | true=>exact decide_eq_true ⟨j,g,q⟩
  | false =>
   refine decide_eq_false λ⟨k,g',q'⟩=>?_
   obtain⟨d',y',k1,k2,k3,k4⟩:=G k u g'
   have ey:y'=y:=k4.inj Z
   subst ey
   have:=ba9 I hK R _ d d' x _ _ _ J k3 (h1 j d g1) (h1 k d' k1)
   rw[q,q']at this;cases this
 refine⟨f,λ u hu=>?_,?_⟩
 .obtain⟨j,hj,g⟩:=dD.mp (by simpa using hu:u∈its)
  have g':its[j]?=some u:=by rw[aj hj,g]
  obtain⟨d,y,g1,g2,J,Z⟩:=G j u g'
  rw[hf j u g']
  exact(be4 I hK R _ d x y xv u xu A _ (h1 j d g1) J hx Z rx hr).1
 .have e1:its.toArray.any f=true↔z=true:=by
   rw[h2,List.any_toArray,kq]
   constructor
   .rintro⟨u,hu,q⟩
    obtain⟨j,hj,g⟩:=dD.mp hu
    have g':its[j]?=some u:=by rw[aj hj,g]
    exact⟨j,by lia,by rw[<-hf j u g'];exact q⟩
   .rintro⟨j,hj,q⟩
    have Y:j<its.length:=by lia
    exact⟨its[j],gA Y,by rw[hf j _ (aj Y)];exact q⟩
  cases z<;>cases q:its.toArray.any f
  .rfl
  .have:=e1.mp q;cases this
  .rw[q]at e1;have:=e1.mpr rfl;cases this
  .rfl
variable {Γ:Gm} {X:Cx}
theorem aa0 {r:lQ α}{b:β}(h:r.bind f=.ok b t):∃ a s,r=.ok a s/\f a s=.ok b t:=DV.R.bind_inv h
theorem bE6 (hK:X.K=Γ.K)(hr:Room (lY+1) X.A)(neg:Bool){st }
  (I:Inv X G W H sh) (rx:RelV x v) (ry:RelV y u) (R:Rp Γ C H st) (ha:RV Γ C H a x) (hb:RV Γ C H b y) (h:nO a b st=.ok z Z) :
  Z=st/\∀ Q:Value->ah->Prop,(∀ a1,Inv X G W H a1->Q (.bool (if neg then !z else z)) a1)->wpAny (model X.prog X.w) X.A (cF (if neg then .NotIn else .In) v u) Q X.xe sh:=by
 unfold nO at h
 cases b with
 | tp l =>
  simp only at h
  cases e:mW st a l with
  | none=>rw[e]at h;cases h
  | some w =>
   rw[e]at h
   cases h
   obtain⟨p,ys,rfl,q,d⟩:=hb.tupE
   cases ry
   rw[<-hK]at q
   obtain⟨its,rv,t,_⟩:=I.tuple q
   obtain⟨f,h1,Y⟩:=bD2 I hK R ha rx d rv e (A:=X.A.in1) hr.in1
   refine⟨rfl,λ Q hq=>?_⟩
   cases neg with
   | false=>exact SeqAt.in_tupleAt f t h1 (by rw[Y];exact hq _ I)
   | true=>exact SeqAt.notIn_tupleAt f t h1 (by rw[Y];exact hq _ I)
 | str y0 =>
  simp only at h
  split at h
  case h_2=>exact fb h
  rename_i c
  cases h
  refine⟨rfl,λ Q hq=>?_⟩
  have e1:=ha.strE
  have e2:=hb.strE
  subst e1 e2
  obtain⟨t1,rfl⟩:=rx
  obtain⟨t2,rfl⟩:=ry
  have a0:=ls (⟨y0.toArray⟩:Str) c
  cases neg with
  | false=>exact in_str (by rw[show(⟨[c].toArray⟩:Str)=⟨#[c]⟩from rfl,a0];simpa using hq _ I)
  | true=>exact notIn_str (by rw[show(⟨[c].toArray⟩:Str)=⟨#[c]⟩from rfl,a0];simpa using hq _ I)
 | ref r =>
  simp only at h
  cases hs:st[r]? with
  | none=>rw[hs]at h;cases h
  | some o =>
   rw[hs]at h
   cases o with
   | J l =>
    simp only at h
    cases e:mW st a l with
    | none=>rw[e]at h;cases h
    | some w =>
     rw[e]at h
     cases h
     obtain⟨ys,e1,d⟩:=R.addr hs
     have ey:=hb.refE;subst ey
     cases ry
     obtain⟨its,rv,t,_⟩:=I.list (SqL.of e1)
     obtain⟨f,h1,Y⟩:=bD2 I hK R ha rx d rv e (A:=X.A.in1) hr.in1
     refine⟨rfl,λ Q hq=>?_⟩
     cases neg with
     | false=>exact SeqAt.in_listAt f t.isList h1 (by rw[Y];exact hq _ I)
     | true=>exact SeqAt.notIn_listAt f t.isList h1 (by rw[Y];exact hq _ I)
   | dc l =>
    simp only at h
    split at h
    case isFalse=>exact fb h
    rename_i J
    cases h
    obtain⟨k,hk⟩:=an9 J
    obtain⟨a2,e1,d⟩:=R.obj r _ hs
    have ey:=hb.refE;subst ey
    cases ry
    have ex:=aQ5 hk ha;subst ex
    have ez:(mJ a l).isSome=(aX0 a2 k).isSome:=by
     rcases d.val keyOf_inj hk with⟨q1,q2⟩|⟨_,_,q1,q2,_⟩<;>rw[q1,q2]<;>rfl
    refine⟨rfl,λ Q hq=>?_⟩
    rw[ez]at hq
    cases neg with
    | false=>exact cx9 (aQ1 hr) I (br1.k e1) rx hq
    | true=>exact bT3 (aQ1 hr) I (br1.k e1) rx hq
   | ro l=>exact fb h
   | ins c l=>exact fb h
 | _=>exact fb h
theorem cj3 {st }(h:DV.qj .le a b st=.ok d y):∃ i j,a=.int i/\b=.int j:=by
 cases a with
 | int i =>
  (cases b with
  | int j=>exact⟨i,j,rfl,rfl⟩
  | _=>exact fb h)
 | _=>exact fb h
theorem aE0 (h:DV.bs9 a=some (i,x)):a=.tp [.int i,.str x]:=by
 unfold DV.bs9 at h
 split at h
 .cases h;rfl
 .cases h
theorem br5 {st }(h:DV.cl3 f a b st=.ok d G):∃ i x j y,a=.tp [.int i,.str x]/\b=.tp [.int j,.str y]:=by
 unfold DV.cl3 at h
 split at h
 .rename_i i x j y e1 e2
  exact⟨i,x,j,y,aE0 e1,aE0 e2⟩
 .exact fb h
theorem ord_inv {st }(ho:op=.lt\/op=.gt\/op=.ge)(h:DV.qj op a b st=.ok d G):(∃ i j,a=.int i/\b=.int j)\/∃ i x j y,a=.tp [.int i,.str x]/\b=.tp [.int j,.str y]:=by
 rcases ho with rfl|rfl|rfl <;>
 (cases a with
 | int i =>
  (cases b with
  | int j=>exact .inl ⟨i,j,rfl,rfl⟩
  | _=>exact fb h)
 | tp l =>
  (cases b with
  | tp m=>first|exact .inr (br5 h)|exact fb h
  | _=>exact fb h)
 | _=>exact fb h)
section
variable {pins:yA} {sh:ah} {W:St} {H:Hp} {C:Nat->Addr} {st:lM}
end
theorem bh8 (hK:X.K=Γ.K)(hr:Room (lY+1) X.A) op :OpR X (cF (au3 op)) (rOp Γ (DV.qj op)):=by
 intro J s W H x y v u Q I rx Z h
 obtain⟨C,st,a,b,d,Y,R,ha,hb,na,nb,G,q⟩:=h
 cases op with
 | eq =>
  have G:DV.eqM a b st=.ok d Y:=G
  unfold DV.eqM at G
  cases e:lV st lY a b with
  | none=>rw[e]at G;cases G
  | some z =>
   rw[e]at G;cases G
   exact(be4 I hK R _ a b x y v u X.A z e ha hb rx Z (hr.mono (by lia))).2.rc X.prog X.w X.xe _ ⟨.T z,H,I,rfl,q.here R rfl RV.blI⟩
 | ne =>
  have G:(match lV st lY a b with|some r=>.ok (.T (!r)) st|none=>.B:lQ lN)=.ok d Y:=G
  cases e:lV st lY a b with
  | none=>rw[e]at G;cases G
  | some z =>
   rw[e]at G;cases G
   exact(be4 I hK R _ a b x y v u X.A z e ha hb rx Z (hr.mono (by omega))).2.ne X.prog X.w X.xe _ ⟨.T (!z),H,I,rfl,q.here R rfl RV.blI⟩
 | lt =>
  rcases ord_inv (.inl rfl) G with⟨i,j,rfl,rfl⟩|⟨i,x0,j,y0,rfl,rfl⟩
  .cases G
   have ex:=ha.intE;have ey:=hb.intE;subst ex;subst ey
   exact cq8 J s W H _ _ v u Q I rx Z ⟨_,_,rfl,rfl,q.here R rfl RV.blI⟩
  .exact fb G
 | le =>
  obtain⟨i,j,rfl,rfl⟩:=cj3 G
  cases G
  have ex:=ha.intE;have ey:=hb.intE;subst ex;subst ey
  exact cn0 J s W H _ _ v u Q I rx Z ⟨_,_,rfl,rfl,q.here R rfl RV.blI⟩
 | gt =>
  rcases ord_inv (.inr (.inl rfl)) G with⟨i,j,rfl,rfl⟩|⟨i,x0,j,y0,rfl,rfl⟩
  .cases G
   have ex:=ha.intE;have ey:=hb.intE;subst ex;subst ey
   exact cp0 J s W H _ _ v u Q I rx Z ⟨_,_,rfl,rfl,q.here R rfl RV.blI⟩
  .exact fb G
 | ge =>
  rcases ord_inv (.inr (.inr rfl)) G with⟨i,j,rfl,rfl⟩|⟨i,x0,j,y0,rfl,rfl⟩
  .cases G
   have ex:=ha.intE;have ey:=hb.intE;subst ex;subst ey
   exact cs6 J s W H _ _ v u Q I rx Z ⟨_,_,rfl,rfl,q.here R rfl RV.blI⟩
  .exact fb G
 | isin =>
  have G:=G
  obtain⟨z,s1,e1,e2⟩:=aa0 G
  obtain⟨rfl,w⟩:=bE6 hK hr false I rx Z R ha hb e1
  cases e2
  exact w _ λ s' I'=>⟨.T z,H,I',rfl,q.here R rfl RV.blI⟩
 | notin =>
  have G:=G
  obtain⟨z,s1,e1,e2⟩:=aa0 G
  obtain⟨rfl,w⟩:=bE6 hK hr true I rx Z R ha hb e1
  cases e2
  exact w _ λ s' I'=>⟨.T (!z),H,I',rfl,q.here R rfl RV.blI⟩
theorem bh4 (h:RVL Γ C H l y)(e:((mY l.length i).bind λ j=>l[j]?)=some d):∃ v,atI y i=some v/\RV Γ C H d v:=by
 cases hj:mY l.length i with
 | none=>rw[hj]at e;cases e
 | some j =>
  rw[hj]at e
  obtain⟨v,e1,e2⟩:=h.get (e)
  refine⟨v,?_,e2⟩
  unfold atI
  have:ixN y.length i=some j:=by rw[h.length];exact hj
  rw[this];exact e1
theorem aN0 {l:List lN}(e:((mY l.length i).bind λ j=>l[j]?)=some d):d∈l:=by
 cases hj:mY l.length i with
 | none=>rw[hj]at e;cases e
 | some j=>rw[hj]at e;exact aL (e)
theorem co8 (hK:X.K=Γ.K)(hu:X.A.units+2<cLine):IxR X (rOp Γ DV.ixM):=by
 intro Y J Z s W H x y v u Q I rx ry h hs
 obtain⟨C,st,a,b,d,a2,R,ha,hb,na,nb,G,q⟩:=h
 unfold DV.ixM at G
 cases a with
 | tp l =>
  cases b with
  | int i =>
   simp only at G
   split at G
   .rename_i d' e
    cases G
    obtain⟨p,xs,rfl,h1,d1⟩:=ha.tupE
    have ey:=hb.intE;subst ey
    obtain⟨w,e1,e2⟩:=bh4 d1 e
    unfold lR at na
    exact bO3 hK Y J Z s W H _ _ v u Q I rx ry ⟨p,xs,i,w,rfl,rfl,h1,e1,q.here R (ab7.mp na _ (aN0 e)) e2⟩ hs
   .exact fb G
  | _=>exact fb G
 | str l =>
  cases b with
  | int i =>
   simp only at G
   split at G
   .rename_i c e
    cases G
    have hl:=ha.strL
    have ex:=ha.strE;have ey:=hb.intE;subst ex;subst ey
    exact ix_str Y J Z s W H _ _ v u Q I rx ry ⟨⟨l.toArray⟩,i,c,rfl,rfl,by show l.toArray.size<=_;rw[ay];exact ao hl qA,e,q.here R rfl (RV.strI (by simp;decide))⟩ hs
   .exact fb G
  | _=>exact fb G
 | ref r =>
  have ex:=ha.refE;subst ex
  simp only at G
  cases hsr:st[r]? with
  | none=>rw[hsr]at G;cases G
  | some o =>
   rw[hsr]at G
   cases o with
   | J l =>
    cases b with
    | int i =>
     simp only at G
     split at G
     .rename_i d' e
      cases G
      have ey:=hb.intE;subst ey
      obtain⟨xs,e1,d1⟩:=R.addr hsr
      obtain⟨w,e2,e3⟩:=bh4 d1 e
      have wf:=R.wf _ _ hsr
      unfold lT at wf
      exact aP1 hK Y J Z s W H _ _ v u Q I rx ry ⟨C r,xs,i,w,rfl,rfl,SqL.of e1,e2,q.here R (ab7.mp wf _ (aN0 e)) e3⟩ hs
     .exact fb G
    | _=>exact fb G
   | ro l =>
    cases b with
    | int i =>
     simp only at G
     split at G
     .rename_i d' e
      cases G
      have ey:=hb.intE;subst ey
      obtain⟨xs,e1,d1⟩:=R.obj _ _ hsr
      obtain⟨w,e2,e3⟩:=bh4 d1 e
      have wf:=R.wf _ _ hsr
      unfold lT at wf
      exact aP1 hK Y J Z s W H _ _ v u Q I rx ry ⟨C r,xs,i,w,rfl,rfl,e1.1,e2,q.here R (ab7.mp wf _ (aN0 e)) e3⟩ hs
     .exact fb G
    | _=>exact fb G
   | dc l =>
    simp only at G
    split at G
    case isFalse=>exact fb G
    rename_i a0
    obtain⟨k,hk⟩:=an9 a0
    obtain⟨a3,e1,d1⟩:=R.obj r _ hsr
    have ey:=aQ5 hk hb;subst ey
    cases rx
    rcases d1.val keyOf_inj hk with⟨q1,_⟩|⟨e,v',q1,q2,q3,q4⟩
    .rw[q1]at G;cases G
    .rw[q1]at G
     cases G
     have wf:=R.wf _ _ hsr
     unfold lT at wf
     rw[au]at wf
     have g:br1 H (C r) (kV k) (some v'):=by rw[<-q2];exact br1.k e1
     exact tail_any (aK4 I g) PySem.F.slot_dict_getitem.lookup (ba8 hu I g ry λ w' s' I' a1=>⟨v',H,I',a1,q.here R (ab7.mp wf.2 _ q4) q3⟩) hs
   | ins c l=>cases b<;>cases G
 | _=>cases b<;>cases G
theorem bc1 n d i :HT.sIx n d (some i)=mQ n i:=by
 show(if i<0 then(i+(n)).toNat else min i.toNat n)=_
 unfold mQ
 by_cases h:i<0
 .rw[if_pos h,if_neg (by lia)]
 .rw[if_neg h,if_pos (by lia)]
theorem bB7 (h:RVL Γ C H l y)(J G:Option Int):RVL Γ C H (mz l J G) (aZ9 y J G):=by
 unfold mz aZ9
 have e1:HT.sIx y.length 0 J=mU l.length J:=by
  cases J with
  | none=>rfl
  | some i=>rw[bc1,h.length];rfl
 have e2:HT.sIx y.length y.length G=ny l.length G:=by
  cases G with
  | none=>exact h.length
  | some i=>rw[bc1,h.length];rfl
 rw[e1,e2]
 exact(h.drop _).take _
theorem aQ8 :∀ d∈mz l y h,d∈l:=λ d hd=>List.mem_of_mem_drop (ir hd)
theorem bv4 (l:List α) y h :(mz l y h).length<=l.length:=by
 unfold mz
 rw[bW,eM]
 lia
theorem cr1 y G n :bF y G 1 n=(ai (ny n G - mU n y)).map (mU n y+·):=by
 rw[<-sliceRange_one]
 unfold bF
 have cl:∀ i:Int,max 0 (min (if i<0 then i+(n)else i) (n))=((mQ n i)):=λ i=>by
  unfold mQ
  by_cases h:i<0
  .rw[if_pos h,if_neg (by omega)];omega
  .rw[if_neg h,if_pos (by omega)];omega
 simp only[if_true]
 cases y<;>cases G<;>simp only[cl,ny]<;>rfl
theorem aS5 {l:List Nat}:∀ a k ,a+k<=l.length->((ai k).map (a+·)).filterMap (λ x=>l.toArray[x]?)=(l.drop a).take k
 | a,0,_=>by simp
 | a,k+1,h=>by
  rw[cJ,cg,List.filterMap_append,aS5 a k (by lia)]
  have hk:a+k<l.length:=by lia
  rw[List.take_add_one,List.getElem?_drop]
  simp[hk]
theorem bi9 l y h :fc ⟨l.toArray⟩ y h=⟨(mz l y h).toArray⟩:=by
 unfold fc
 have hn:(⟨l.toArray⟩:Str).length=l.length:=by show l.toArray.size=_;simp
 rw[hn,cr1]
 have hb:ny l.length h<=l.length:=by
  cases h with
  | none=>exact ak _
  | some i=>show mQ l.length i<=_;unfold mQ;split<;>lia
 have ha:mU l.length y<=l.length:=by
  cases y with
  | none=>exact c8 _
  | some i=>show mQ l.length i<=_;unfold mQ;split<;>lia
 unfold mz
 generalize ny l.length h=b at *
 generalize mU l.length y=a at *
 by_cases hc:((1:Int)==1&&((ai (b - a)).map (a+·)).length==l.length)=true
 .rw[if_pos hc]
  have:=by simpa using hc
  have h0:a=0\/l.length=0:=by lia
  rcases h0 with h0|h0
  .subst h0
   rw[this];simp
  .have:=cH.mp h0
   subst this;simp
 .rw[if_neg hc]
  by_cases hab:a<=b
  .have e:=aS5 (l:=l) a (b - a) (by omega)
   rw[e]
  .rw[show b - a=0 by lia];simp
def rSl (Γ:Gm):V->Option Int->Option Int->Hp->VK->Prop:=λ x lo hi H Q=>∃ C s a d s',Rp Γ C H s/\RV Γ C H a x/\a.bnd s.length=true/\nA a lo hi s=.ok d s'/\ag8 Γ C s H d s' Q
theorem cr3 (hK:X.K=Γ.K):SlR X (rSl Γ):=by
 intro y s W H x v vl vu Y J sl Q I rx hs pl pu h
 obtain⟨C,st,a,d,a0,R,ha,Z,G,q⟩:=h
 unfold nA at G
 cases a with
 | tp l =>
  cases G
  obtain⟨p,xs,⟨rfl,z1⟩,h1,d1⟩:=ha.tupZ
  unfold lR at Z
  refine bN3 hK y s W H _ v vl vu Y J sl Q I rx hs pl pu ⟨p,xs,rfl,h1,λ t H' e ht hn=>?_⟩
  obtain⟨g,r'⟩:=R.same e
  have d2:=bB7 (RVL.mono g _ _ Z d1) Y J
  refine q _ _ _ g (ak _) (by unfold lR;exact aT3 Z aQ8) (RV.tupC ht (λ z=>?_) d2) r'
  rcases hn with hn|⟨rfl,ex⟩
  .exact hn
  .rw[ex]
   refine e _ _ (z1 ?_)
   have hl:(mz l Y J).length=l.length:=by rw[<-d2.length,ex,d1.length]
   rwa [bg3 hl]at z
 | str l =>
  cases G
  have hl:=ha.strL
  have ex:=ha.strE;subst ex
  refine bZ7 y s W H _ v vl vu Y J sl Q I rx hs pl pu ⟨_,rfl,by show l.toArray.size<=_;rw[ay];exact ao hl qA,?_⟩
  rw[bi9]
  exact q.here R rfl (RV.strI (ao (bv4 l Y J) hl))
 | ref r =>
  have ex:=ha.refE;subst ex
  simp only at G
  cases hsr:st[r]? with
  | none=>rw[hsr]at G;cases G
  | some o =>
   rw[hsr]at G
   cases o with
   | J l =>
    obtain⟨rfl,rfl⟩:=qS G
    obtain⟨xs,e1,d1⟩:=R.addr hsr
    have wf:=R.wf _ _ hsr
    unfold lT at wf
    exact bx7 hK y s W H _ v vl vu Y J sl Q I rx hs pl pu ⟨C r,xs,rfl,SqL.of e1,λ p hp=>q.alloc R (bB7 d1 Y J) (aT3 wf aQ8) hp⟩
   | _=>exact fb G
 | _=>exact fb G
variable {Γ:Gm} {X:Cx}
def rCl (Γ:Gm)(f:List lN->lM->lQ lN):List V->Hp->VK->Prop:=λ xs H Q=>∃ C s l d s',Rp Γ C H s/\RVL Γ C H l xs/\lO s.length l=true/\f l s=.ok d s'/\ag8 Γ C s H d s' Q
theorem RVL.one (h:RVL Γ C H [d] y):∃ x,y=[x]/\RV Γ C H d x:=by
 obtain⟨x,r,rfl,G,J⟩:=h.uncons
 rw[J.unnil];exact⟨x,rfl,G⟩
theorem bN9 a b c :mx3 a b c=max (max a b) c:=by unfold mx3 mx;split<;>split<;>lia
noncomputable def biN:mK->Option (String×Nat)
 | .len=>some ("len",1)|.abs=>some ("abs",1)|.min2=>some ("min",2)|.max2=>some ("max",2)|.max3=>some ("max",3)|_=>none
theorem ql:∀ {l} {is},mR l=some is->l=is.map DV.D.int
 | [],is,h=>by unfold mR at h;cases h;rfl
 | d::l,is,h=>by
  cases d with
  | int i =>
   have h:(mR l).map (i::·)=some is:=h
   cases e:mR l with
   | none=>rw[e]at h;cases h
   | some m=>rw[e]at h;cases h;rw[ql e];rfl
  | _=>cases h
theorem aG8:∀ {l} {is},nB l=some is->l=is.map DV.D.T
 | [],is,h=>by unfold nB at h;cases h;rfl
 | d::l,is,h=>by
  cases d with
  | T i =>
   have h:(nB l).map (i::·)=some is:=h
   cases e:nB l with
   | none=>rw[e]at h;cases h
   | some m=>rw[e]at h;cases h;rw[aG8 e];rfl
  | _=>cases h
theorem RVL.ints :∀ {is:List Int} {y},RVL Γ C H (is.map DV.D.int) y->y=is.map V.int
 | [],_,h=>h.unnil
 | i::is,_,h=>by
  obtain⟨x,r,rfl,G,J⟩:=RVL.uncons h
  rw[G.intE,RVL.ints J];rfl
theorem RVL.bls :∀ {is:List Bool} {y},RVL Γ C H (is.map DV.D.T) y->y=is.map V.T
 | [],_,h=>h.unnil
 | i::is,_,h=>by
  obtain⟨x,r,rfl,G,J⟩:=RVL.uncons h
  rw[G.blE,RVL.bls J];rfl
theorem bd8 (h:nQ f l s=.ok d s'):∃ a,l=[a]/\f a s=.ok d s':=by
 match l,h with
 | [a],h=>exact⟨a,rfl,h⟩
 | [],h=>exact fb h
 | _::_::_,h=>exact fb h
theorem bg0 (Z:X.K=Γ.K)(hc:X.calm=true)(hn:biN b=some (nm,k)):af9 X (.builtin nm) (rCl Γ (nF b)):=by
 intro y s W H xs us Q I r h
 obtain⟨C,st,l,d,Y,R,hl,nl,G,q⟩:=h
 cases b with
 | len =>
  cases hn
  have G:=G
  obtain⟨a,rfl,J⟩:=bd8 G
  clear G
  obtain⟨x,rfl,hx⟩:=hl.one
  unfold DV.bG7 at J
  cases a with
  | tp l =>
   cases J
   obtain⟨p,ys,rfl,h1,d1⟩:=hx.tupE
   refine at1 Z y s W H _ us Q I r ⟨p,ys,rfl,.inr h1,?_⟩
   rw[d1.length];exact q.here R rfl RV.intI
  | str l =>
   cases J
   have hL:=hx.strL
   have e:=hx.strE;subst e
   refine aJ0 y s W H _ us Q I r ⟨_,rfl,by show l.toArray.size<=_;rw[ay];exact ao hL qA,?_⟩
   show Q (.int ((l.toArray.size))) H
   rw[ay]
   exact q.here R rfl RV.intI
  | ref n =>
   have e:=hx.refE;subst e
   simp only at J
   cases hs:st[n]? with
   | none=>rw[hs]at J;cases J
   | some o =>
    rw[hs]at J
    cases o with
    | J l =>
     cases J
     obtain⟨ys,e1,d1⟩:=R.addr hs
     refine at1 Z y s W H _ us Q I r ⟨C n,ys,rfl,.inl (SqL.of e1),?_⟩
     rw[d1.length];exact q.here R rfl RV.intI
    | ro l =>
     cases J
     obtain⟨ys,e1,d1⟩:=R.obj _ _ hs
     refine at1 Z y s W H _ us Q I r ⟨C n,ys,rfl,.inl e1.1,?_⟩
     rw[d1.length];exact q.here R rfl RV.intI
    | dc l=>exact fb J
    | ins c l=>exact fb J
  | _=>exact fb J
 | abs =>
  cases hn
  have G:(match mR l with|some [i]=>.ok (.int (if i<0 then -i else i)) st|_=>.B:lQ lN)=.ok d Y:=G
  split at G
  .rename_i i e
   cases G
   have:=ql e;subst this
   have:=RVL.ints hl;subst this
   exact bw7 y s W H _ us Q I r ⟨i,rfl,q.here R rfl RV.intI⟩
  .exact fb G
 | min2 =>
  cases hn
  have G:(match mR l with|some [a,b]=>.ok (.int (if b<a then b else a)) st|_=>.B:lQ lN)=.ok d Y:=G
  split at G
  .rename_i a b e
   cases G
   have:=ql e;subst this
   have:=RVL.ints hl;subst this
   exact bp0 hc y s W H _ us Q I r ⟨_,_,rfl,q.here R rfl RV.intI⟩
  .exact fb G
 | max2 =>
  cases hn
  have G:(match mR l with|some [a,b]=>.ok (.int (if b > a then b else a)) st|_=>.B:lQ lN)=.ok d Y:=G
  split at G
  .rename_i a b e
   cases G
   have:=ql e;subst this
   have:=RVL.ints hl;subst this
   exact bj1 hc y s W H _ us Q I r ⟨_,_,rfl,q.here R rfl RV.intI⟩
  .exact fb G
 | max3 =>
  cases hn
  have G:(match mR l with|some [a,b,c]=>.ok (.int (max (max a b) c)) st|_=>.B:lQ lN)=.ok d Y:=G
  split at G
  .rename_i a b c e
   cases G
   have:=ql e;subst this
   have:=RVL.ints hl;subst this
   refine bm7 hc y s W H _ us Q I r ⟨_,_,_,rfl,?_⟩
   rw[bN9]
   exact q.here R rfl RV.intI
  .exact fb G
 | _=>cases hn
theorem aP9:∀ j:Nat,j<=9->bD (toString (j:Int))=(⟨[48+j].toArray⟩):=by decide
theorem ck8:af9 X (.type "int") (rCl Γ (nF .int)):=by
 intro G s W H xs us Q I r h
 obtain⟨C,st,l,d,J,R,hl,nl,y,q⟩:=h
 have y:(match nB l with|some [b]=>.ok (.int (if b then 1 else 0)) st|some _=>.B|none=>DV.aW0 l st:lQ lN)=.ok d J:=y
 split at y
 .rename_i b e
  cases y
  have:=aG8 e;subst this
  have:=RVL.bls hl;subst this
  exact bn5 G s W H _ us Q I r (.inr ⟨b,rfl,q.here R rfl RV.intI⟩)
 .exact fb y
 .unfold DV.aW0 at y
  split at y
  .rename_i c _ _
   split at y
   .rename_i hc
    cases y
    obtain⟨x,Y,rfl,r1,Z⟩:=hl.uncons
    cases(Z)
    have:=r1.strE
    subst this
    obtain⟨u,rfl,t,rfl⟩:=aj8 r
    obtain⟨j,hj,rfl⟩:∃ j,j<=9/\c=48+j:=⟨c - 48,by omega,by omega⟩
    rw[(aP9 j hj).symm]
    refine PySem.W.KIN.call_num (by lia) (by lia) ⟨.int (j),H,I.tok _,⟨_,rfl⟩,?_⟩
    have:=q.here R rfl (RV.intI )
    rw[show 48+j - 48=j by lia]at this
    exact this
   .exact fb y
  .exact fb y
theorem cj4:af9 X (.type "str") (rCl Γ (nF .str)):=by
 intro Z s W H xs us Q I r h
 obtain⟨C,st,l,d,J,R,hl,nl,y,q⟩:=h
 have y:DV.bp9 l st=.ok d J:=y
 unfold DV.bp9 at y
 split at y
 .rename_i i _
  split at y
  .rename_i hi
   cases y
   obtain⟨x,G,rfl,r1,Y⟩:=hl.uncons
   cases(Y)
   have:=r1.intE
   subst this
   obtain⟨u,rfl,t,rfl⟩:=aj8 r
   obtain⟨j,rfl⟩:∃ j:Nat,i=(j):=⟨i.toNat,by lia⟩
   have hj:j<=9:=by lia
   refine PySem.P.str_of_int ?_ ⟨.str ⟨[48+j].toArray⟩,H,I.tok _,⟨s.toks,?_⟩,?_⟩
   .have:(j:Int).natAbs.log2<=(j:Int).natAbs:=Nat.log2_le_self _
    lia
   .rw[<-aP9 j hj]
   .have:=q.here R rfl (RV.strI (by show 1<=lU;decide))
    rw[dz]at this
    exact this
  .exact fb y
 .rename_i w _
  cases y
  obtain⟨x,G,rfl,r1,Y⟩:=hl.uncons
  cases(Y)
  have e:=r1.strE
  subst e
  obtain⟨u,rfl,t,rfl⟩:=aj8 r
  refine PySem.P.str_of_str ⟨.str ⟨w.toArray⟩,H,I,⟨_,rfl⟩,?_⟩
  unfold lO at nl
  exact q.here R rfl r1
 .exact fb y
noncomputable def au0:Nat->String
 | 1 => "int" | 2 => "bool" | 3 => "str" | 4 => "tuple" | _ => "list"
theorem bH9 {K} k (hk:1<=k/\k<=5):cu K (.type "NoneType") (.type (au0 k))=some false/\cu K (.type "bool") (.type (au0 k))=some (k==1||k==2) /\
  cu K (.type "int") (.type (au0 k))=some (k==1)/\cu K (.type "str") (.type (au0 k))=some (k==3)/\cu K (.type "tuple") (.type (au0 k))=some (k==4)/\cu K (.type "list") (.type (au0 k))=some (k==5):=by
 obtain⟨y,G⟩:=hk
 rcases(by lia:k=1\/k=2\/k=3\/k=4\/k=5)with h|h|h|h|h<;>subst h<;>refine⟨?_,?_,?_,?_,?_,?_⟩<;>with_unfolding_all rfl
theorem aY3 {s}(I:Inv X y W H s)(Y:SqT X.K H a J)(e:cu X.K (.type "tuple") c=some b)
  (h:∀ tk,Q (.bool b) { s with toks:=tk }):wpAny (model X.prog X.w) A (call (.builtin "isinstance") [.ref a,c]) Q E s:=by
 obtain⟨its,_,⟨o,g1,G,_⟩,_⟩:=I.tuple Y
 exact cf iZ I.kIn ⟨o,g1,G⟩ e (λ z=>nomatch z) h
theorem bX1 (hK:X.K=Γ.K)(hk:1<=k/\k<=5):af9 X (.builtin "isinstance") (λ Y H Q=>∃ x,Y=[x,.ty (au0 k)]/\rCl Γ (nQ (nX k)) [x] H Q):=by
 intro Z s W H Y us Q I r h
 obtain⟨x,rfl,C,st,l,d,G,R,hl,nl,J,q⟩:=h
 obtain⟨a,rfl,y⟩:=bd8 J
 clear J
 obtain⟨u,w',rfl,r1,r2⟩:=bK0 r
 cases r2
 obtain⟨x',e',hx⟩:=hl.one
 cases e'
 obtain⟨k0,k1,k2,k3,k4,k5⟩:=bH9 k hk
 unfold nX at y
 cases a with
 | N=>cases y;have e:=hx.nonE;subst e;exact jA I r1 .N k0 λ tk=>⟨.T _,H,I.tok _,rfl,q.here R rfl RV.blI⟩
 | T b=>cases y;have e:=hx.blE;subst e;exact jA I r1 (.T b) k1 λ tk=>⟨.T _,H,I.tok _,rfl,q.here R rfl RV.blI⟩
 | int b=>cases y;have e:=hx.intE;subst e;exact jA I r1 (.int b) k2 λ tk=>⟨.T _,H,I.tok _,rfl,q.here R rfl RV.blI⟩
 | str b=>cases y;have e:=hx.strE;subst e;exact jA I r1 (.str _) k3 λ tk=>⟨.T _,H,I.tok _,rfl,q.here R rfl RV.blI⟩
 | tp l =>
  cases y
  obtain⟨p,ys,rfl,h1,d1⟩:=hx.tupE
  cases r1
  rw[<-hK]at h1
  exact aY3 I h1 k4 λ tk=>⟨.T _,H,I.tok _,rfl,q.here R rfl RV.blI⟩
 | ref n =>
  have e:=hx.refE;subst e
  have y:(match st[n]? with|some (.J _)=>.ok (.T (k==5)) st|_=>.B:lQ lN)=.ok d G:=y
  cases hs:st[n]? with
  | none=>rw[hs]at y;cases y
  | some o =>
   rw[hs]at y
   cases o with
   | J l =>
    cases y
    obtain⟨ys,e1,d1⟩:=R.addr hs
    exact jA I r1 (.J e1) k5 λ tk=>⟨.T _,H,I.tok _,rfl,q.here R rfl RV.blI⟩
   | _=>exact fb y
 | _=>exact fb y
variable {X:Cx}
noncomputable def sgV (x:List Nat):List V:=x.map λ c=>.str ⟨#[c]⟩
theorem bR2 {y:yG}(hl:vs.length=y.length)(h:∀(i:Nat) (x:V) (u:Value),vs[i]?=some x->y[i]?=some u->RelV x u):Vals vs y:=by
 induction vs generalizing y with
 | nil=>cases y with
  | nil=>exact .nil
  | cons _ _=>cases hl
 | cons v vs ih=>cases y with
  | nil=>cases hl
  | cons a y=>exact .cons (h 0 v a rfl rfl) (ih (by simpa using hl) λ i x u e1 e2=>h (i+1) x u e1 e2)
theorem av3 {y:yJ}(h:ItemsOf (SignAt ⟨x.toArray⟩) y x.length):Vals (sgV x) y.toList:=by
 have hl:(sgV x).length=y.toList.length:=by unfold sgV;rw[aD];simpa using h.1.symm
 refine bR2 hl λ i v u e1 e2=>?_
 obtain⟨c,t,G,J⟩:=h.2 i u (by rw[<-Array.getElem?_toList];exact e2)
 unfold sgV at e1
 rw[av]at e1
 have G:=by simpa using G
 rw[G]at e1
 cases e1
 exact⟨t,J⟩
theorem aM4 (hc:X.calm=true):af9 X (.type "tuple") (λ Z H Q=>∃ x,Z=[.str ⟨x.toArray⟩]/\x.length<=lU/\∀ l,H l=none->Q (.ref l) (upd H l (.tp (sgV x)))):=by
 intro y s W H Z us Q I r h
 obtain⟨x,rfl,hl,q⟩:=h
 obtain⟨u,rfl,rx⟩:=aj8 r
 obtain⟨t,rfl⟩:=rx
 have hz:(sgV x).length<=aQ:=by unfold sgV;rw[aD];exact ao hl qA
 refine call_tuple_str (I.ok.hd hc) _ t (λ h' tk G kp J=>?_) (by skip;rw[ay];exact ao hl qA)
 have J:=by simpa using J
 have rv:=av3 J
 have Y:=I.kept (t':=tk) kp
 have I2 :=
  Y.laid (t':=tk) (λ b o e=>ag _ e) (ak _) (show ag0 X.prog X.w _ _ _ (.tp (sgV x))from⟨hz,G.toList,rv,kj _ _⟩)
 exact⟨.ref h'.objs.size,_,I2,rfl,q _ (Y.hok.fresh (ak _))⟩
theorem aY5 (hc:X.calm=true):af9 X (.type "list") (λ J H Q=>∃ x,J=[.str ⟨x.toArray⟩]/\x.length<=lU/\∀ l,H l=none->Q (.ref l) (upd H l (.J (sgV x)))):=by
 intro Y s W H J us Q I r h
 obtain⟨x,rfl,hl,q⟩:=h
 obtain⟨u,rfl,rx⟩:=aj8 r
 obtain⟨t,rfl⟩:=rx
 have hz:(sgV x).length<=aQ:=by unfold sgV;rw[aD];exact ao hl qA
 refine call_list_str (I.ok.hd hc) _ t (λ h' tk y Z kp e G=>?_) (by skip;rw[ay];exact ao hl qA)
 have G:=by simpa using G
 have rv:=av3 G
 exact⟨.ref s.heap.objs.size,_,I.laid kp (ak _) (show ag0 X.prog X.w _ h' _ (.J (sgV x))from⟨hz,y.toList,Z,rv,e⟩),rfl,q _ (I.hok.fresh (ak _))⟩
section
variable {Γ:Gm} {C C':Nat->Addr} {H H' H1 H2 H3:Hp} {clos:yB} {s s':lM}
theorem qr (hc:Cells clos H)(e:H a=some u)(hu:∀ o,u≠.frz o (.own a)):isC clos a≠true:=λ z=>by
 obtain⟨o,v,q,_⟩:=hc.at z
 rw[e]at q;cases q;exact hu o rfl
theorem SqT.dropC {K}(hc:Cells clos H)(h:SqT K H a y):SqT K (ae9 clos H) a y:=by
 rcases h with(h|⟨o,h⟩)|h
 .exact .inl (.inl (by rw[ae9.ne (qr hc h (λ _ z=>by cases z))];exact h))
 .exact .inl (.inr ⟨o,by rw[ae9.ne (qr hc h (λ _ z=>by cases z))];exact h⟩)
 .exact .inr h
theorem SqL.dropC {K}(hc:Cells clos H)(h:SqL K H a y):SqL K (ae9 clos H) a y:=by
 rcases h with(h|⟨o,h⟩)|h
 .exact .inl (.inl (by rw[ae9.ne (qr hc h (λ _ z=>by cases z))];exact h))
 .exact .inl (.inr ⟨o,by rw[ae9.ne (qr hc h (λ _ z=>by cases z))];exact h⟩)
 .exact .inr h
theorem SqF.dropC {K}(hc:Cells clos H)(h:SqF K H a y):SqF K (ae9 clos H) a y:=by
 refine⟨SqL.dropC hc h.1,λ H2 k=>?_⟩
 have hk:Kp H (λ b=>if isC clos b=true then H b else H2 b):=λ b o e f=>by
  by_cases z:isC clos b=true
  .show(if isC clos b=true then H b else H2 b)=_;rw[if_pos z];exact e
  .show(if isC clos b=true then H b else H2 b)=_
   rw[if_neg z]
   exact k b o (by rw[ae9.ne z];exact e) f
 have q:=h.2 _ hk
 have at_:∀ u,(if isC clos a=true then H a else H2 a)=some u->(∀ o,u≠.frz o (.own a))->H2 a=some u:=λ u e hu=>by
  by_cases z:isC clos a=true
  .rw[if_pos z]at e
   exact absurd z (qr hc e hu)
  .rw[if_neg z]at e;exact e
 rcases q with(q|⟨o,q⟩)|q
 .exact .inl (.inl (at_ _ q (λ _ z=>by cases z)))
 .exact .inl (.inr ⟨o,at_ _ q (λ _ z=>by cases z)⟩)
 .exact .inr q
mutual
theorem RV.dropC (hc:Cells clos H):∀(d:lN) (v:V),d.ncl=true->RV Γ C H d v->RV Γ C (ae9 clos H) d v
 | .N,_,_,h=>by unfold RV at h ⊢;exact h
 | .T _,_,_,h=>by unfold RV at h ⊢;exact h
 | .int _,_,_,h=>by unfold RV at h ⊢;exact h
 | .str _,_,_,h=>by unfold RV at h ⊢;exact h
 | .tp l,_,n,h=>by
  unfold RV at h ⊢
  unfold nY at n
  obtain⟨a,y,e,q,r⟩:=h
  exact⟨a,y,e,⟨SqT.dropC hc q.1,λ z=>by rw[ae9.ne (qr hc (q.2 z) (λ _ z=>by cases z))];exact q.2 z⟩,RVL.dropC hc l y n r⟩
 | .ref k,_,_,h=>by unfold RV at h ⊢;exact h
 | .fn _,_,_,h=>by unfold RV at h ⊢;exact h
 | .clo id cs,_,n,h=>by unfold nY at n;cases n
theorem RVL.dropC (hc:Cells clos H):∀(l:List lN) (y:List V),mZ l=true->RVL Γ C H l y->RVL Γ C (ae9 clos H) l y
 | [],_,_,h=>by unfold RVL at h ⊢;exact h
 | d::l,_,n,h=>by
  unfold mZ at n
  rw[au]at n
  obtain⟨x,r,e,G,J⟩:=h.uncons
  subst e
  exact .cons (RV.dropC hc d x n.1 G) (RVL.dropC hc l r n.2 J)
end
theorem RVD.dropC (hc:Cells clos H):∀ l y ,mZ (l.map (·.2))=true->RVD G Γ C H l y->RVD G Γ C (ae9 clos H) l y
 | [],_,_,h=>h
 | (d,e)::l,_,n,h=>by
  obtain⟨k,v,r,e1,e2,Y,J⟩:=h
  rw[aM]at n
  unfold mZ at n
  rw[au]at n
  exact⟨k,v,r,e1,e2,RV.dropC hc e v n.1 Y,RVD.dropC hc l r n.2 J⟩
theorem RO.dropC (hc:Cells clos H)(h:RO Γ C H a o)(n:o.ncl=true):RO Γ C (ae9 clos H) a o:=by
 cases o with
 | J l =>
  obtain⟨y,e,r⟩:=h
  exact⟨y,by rw[ae9.ne (qr hc e (λ _ z=>by cases z))];exact e,RVL.dropC hc l y n r⟩
 | ro l =>
  obtain⟨y,e,r⟩:=h
  exact⟨y,SqF.dropC hc e,RVL.dropC hc l y n r⟩
 | dc l =>
  obtain⟨y,e,r⟩:=h
  exact⟨y,by rw[ae9.ne (qr hc e (λ _ z=>by cases z))];exact e,RVD.dropC hc l y n r⟩
 | ins _ _=>exact h.elim
theorem TabsH.dropC (hc:Cells clos H)(h:TabsH T H):TabsH T (ae9 clos H):=λ y hy=>by
 obtain⟨ps,e,t,c⟩:=h y hy
 refine⟨ps,by rw[ae9.ne (qr hc e (λ _ z=>by cases z))];exact e,t,λ pos J q=>?_⟩
 obtain⟨G,e1,e2⟩:=c pos J q
 exact⟨G,e1,by rw[ae9.ne (qr hc e2 (λ _ z=>by unfold qR at z;cases z))];exact e2⟩
theorem Rp.dropC (hc:Cells clos H)(r:Rp Γ C H s)(n:s.all nZ=true):Rp Γ C (ae9 clos H) s :=
 ⟨r.inj,λ i o e=>RO.dropC hc (r.obj i o e) (aX.mp n o (aL e)),r.wf,TabsH.dropC hc r.tab⟩
theorem Gr.caught {kd:Str->Option bQ}(y:Caught clos N kd W H1 H2)(g:Gr C s H2 C' s' H3):Gr C s H1 C' s' (ae9 clos H3):=by
 have h:∀ b o,H1 b=some o->isC clos b≠true:=λ b o e z=>by rw[y.free b z]at e;cases e
 have up:∀ b o,H1 b=some o->H2 b=some o:=λ b o e=>by rw[y.ne b (h b o e)];exact e
 refine⟨⟨g.w.map,λ b o e f=>?_⟩,g.le,λ i G Y=>?_,g.kd,λ b e=>?_,λ b o e Z J=>?_⟩
 .rw[ae9.ne (h b o e)];exact g.w.kp b o (up b o e) f
 .have:=g.new i G Y
  by_cases z:isC clos (C' i)=true
  .exact y.free _ z
  .rw[<-y.ne _ z];exact this
 .cases q:H1 b with
  | none=>exact absurd q e
  | some o =>
   rw[ae9.ne (h b o q)]
   exact g.st b (by rw[up b o q];simp)
 .rw[ae9.ne (h b o e)];exact g.fr b o (up b o e) Z J
theorem bd9 (h:∀ b,isC clos b=true->H' b=none):ai0 H' (Put clos H H'):=λ b o e=>by
 rw[Put.ne (λ z=>by rw[h b z]at e;cases e)];exact e
theorem Gr.put (hc:Cells clos H)(y:∀ b,isC clos b=true->H' b=none)(Z:∀ b o,Γ.K.lookup b=some o->H b=none)(R':Rp Γ C' H' s')(g:Gr C s (ae9 clos H) C' s' H'):Gr C s H C' s' (Put clos H H'):=by
 refine⟨⟨g.w.map,λ b o e f=>?_⟩,g.le,λ i h1 J=>?_,g.kd,λ b e=>?_,λ b o e nt no=>?_⟩
 .by_cases z:isC clos b=true
  .rw[Put.cell z];exact e
  .rw[Put.ne z];exact g.w.kp b o (by rw[ae9.ne z];exact e) f
 .have hd:=g.new i h1 J
  by_cases z:isC clos (C' i)=true
  .have G:=y _ z
   obtain⟨o,eo⟩:∃ o,s'[i]?=some o:=⟨s'[i],aj J⟩
   have h:=R'.obj i o eo
   cases o with
   | J l=>obtain⟨Y,e,_⟩:=h;rw[G]at e;cases e
   | ro l =>
    obtain⟨Y,e,_⟩:=h
    rcases e.1 with(e|⟨_,e⟩)|⟨ob,its,n,e,_⟩
    .rw[G]at e;cases e
    .rw[G]at e;cases e
    .exact Z _ _ e
   | dc l=>obtain⟨Y,e,_⟩:=h;rw[G]at e;cases e
   | ins _ _=>exact h.elim
  .rw[ae9.ne z]at hd;exact hd
 .by_cases z:isC clos b=true
  .rw[Put.cell z];exact e
  .rw[Put.ne z];exact g.st b (by rw[ae9.ne z];exact e)
 .by_cases z:isC clos b=true
  .rw[Put.cell z];exact e
  .rw[Put.ne z];exact g.fr b o (by rw[ae9.ne z];exact e) nt no
theorem bz6 (hT:TabsH T H)(nd:(T.map (·.1)).Nodup)(hm:(P,q)∈T)
  (go:∀(f:Addr) (H':Hp),bn7 H H'->(∀ b,H b≠none->H' b≠none)->TabsH T H'->H f=none->(∃ pm G Y,H' f=some (ay5 f (bR "<lambda>" q params body scope (ag5 cells scope.names []) pm (.ref G) Y))/\H' G=some (qR G q))->Q (.ref f) H') :
  cx4 cells P q params body scope pos W H Q:=by
 obtain⟨ps,hP,ht,hc⟩:=hT _ hm
 refine⟨ps,hP,ht,λ hn G f pm Y n1 n2 ne=>?_,λ cv e=>?_⟩
 .have cP:G≠P:=λ z=>by rw[z,hP]at n1;cases n1
  have fP:f≠P:=λ z=>by rw[z,hP]at n2;cases n2
  have Z:∀ b,b≠P->H b≠none->∀ o1 o2 o3,upd (upd (upd H P o1) G o2) f o3 b=H b:=λ b z1 z2 o1 o2 o3=>by
   rw[zm λ z=>by subst z;exact z2 n2,zm λ z=>by subst z;exact z2 n1,zm z1]
  refine go f _ (λ b o d e=>?_) (λ b hb=>?_) (λ y hy=>?_) n2 ⟨pm,G,Y,zo,by rw[zm ne,zo]⟩
  .rw[Z b (λ z=>by subst z;rw[hP]at e;cases e;exact d _ rfl) (by rw[e];simp)];exact e
  .by_cases z:b=P
   .subst z;rw[zm (cb fP),zm (cb cP),zo];simp
   .rw[Z b z hb];exact hb
  .by_cases z:y.1=P
   .have ey:=by
     have:∀(l:List (Addr×Str)),(l.map (·.1)).Nodup->y∈l->(P,q)∈l->y=(P,q):=by
      intro l
      induction l with
      | nil=>intro _ h;simp at h
      | cons a l ih =>
       intro hn h1 h2
       rw[aM,cI]at hn
       rcases aB.mp h1 with e1|h1<;>rcases aB.mp h2 with e2|h2
       .rw[e1,e2]
       .exact absurd (by rw[<-e1,z];exact bw h2) hn.1
       .exact absurd (by rw[<-e2,<-z];exact bw (f:=(·.1)) h1) hn.1
       .exact ih hn.2 h1 h2
     exact this T nd hy hm
    subst ey
    refine⟨_,by rw[zm (cb fP),zm (cb cP),zo],?_,λ J cv e=>?_⟩
    .rw[dL];exact TriplesOk_snoc _ _ _ _ ht
    .rw[dL]at e
     rcases codeAmong_add _ ht e with e'|e'
     .obtain⟨c2,e1,e2⟩:=hc J cv e'
      exact⟨c2,e1,by rw[Z c2 (λ z=>by subst z;rw[hP]at e2;unfold qR at e2;cases e2) (by rw[e2];simp)];exact e2⟩
     .exact⟨G,e',by rw[zm ne,zo]⟩
   .obtain⟨qs,e1,e2,e3⟩:=hT y hy
    refine⟨qs,by rw[Z y.1 z (by rw[e1];simp)];exact e1,e2,λ J cv e=>?_⟩
    obtain⟨c2,e4,e5⟩:=e3 J cv e
    exact⟨c2,e4,by rw[Z c2 (λ z=>by subst z;rw[hP]at e5;unfold qR at e5;cases e5) (by rw[e5];simp)];exact e5⟩
 .obtain⟨G,e1,e2⟩:=hc pos cv e
  refine⟨G,e1,λ f pm Y n=>go f _ (.of ((ai0.refl H).new n)) (λ b hb=>by
   by_cases z:b=f
   .subst z;rw[zo];simp
   .rw[zm z];exact hb) (hT.new n) n ⟨pm,G,Y,zo,?_⟩⟩
  rw[zm (zK e2 n)];exact e2
theorem bO9 {K:af}{body:yL}{h:yB}
  (S:LamScope N ps fr scope) (len:∀ vs H Q E,sp vs H Q E->vs.length=ps.length) (a7:cap.length=fr.length)
  (a2:∀(Z pm:Value) (c':Addr) (a0:Value) (us:yG),us.length=ps.length->ee (cK name qual params body scope h .none .none Z pm none (.ref c') a0) ⟨us,[]⟩=pure (ps.zip us))
  (a1:∀(A:aV) (G:List Env) (s:ah) (H:Hp) (cd:Value) (vs:List V) (Q:VK),Room k (A.deeper (db qual scope s.heap.objs.size f cd (aP (s.heap.objs.size+1) scope.names h)))->ap7 H f name qual params body scope fr cap h->(∀ b o,K.lookup b=some o->H b=none)->sp vs H Q E0 ->
   ∃ t,PSs (aN6 P w K mg base N qual scope f cd h A G s H) body t/\t { nx:=λ _ H'=>(∀ b,isC h b=true->H' b=none)->Q .N (Put h H H'),rt:=λ v H'=>(∀ b,isC h b=true->H' b=none)->Q v (Put h H H') } (vs.map some++cap.map some) (ae9 h H)) :
  ClOk P w K mg base (k+1) (λ H=>ap7 H f name qual params body scope fr cap h) f sp:=by
 refine⟨λ A G s H us vs Q hr Y hR r a4=>?_⟩
 have hl:=len _ _ _ _ a4
 obtain⟨Z,pm,c',a0,h1,h2,h3,h4,h5,h6⟩:=id hR
 have a5:s.heap.NoLimit:=Y.mod.nolimit.keeps λ b o e=>(Y.bs b o e).1
 refine g8 hr.depth (az5 Y.hok h1) rfl S.co S.gen rfl (aF7 Y.hok h2) ?_
 rw[a2 Z pm c' a0 us (by rw[<-r.length];exact hl)]
 refine aC (av8 S.kind (λ y hy=>?_) λ env he s1 x=>?_)
 .rcases S.par y.1 (dS (show(y.1,y.2)∈ps.zip us from hy)).1 with q|q
  .exact .inl q
  .exact .inr ⟨q,qu q⟩
 .subst he
  refine⟨a5.keeps x.toInCall.keep,codeAny_func ?_⟩
  obtain⟨t,ht,hq⟩:=a1 A G s H (.ref c') vs Q (hr.deeper _) hR (λ b o e=>(Y.bs b o (Y.mod.kin b o e)).2) a4
  have I:=bm4 S hr.hd Y hl a7 r h3 h4 h5 h6 x
  refine cj (ht [] s1 _ _ _ I hq) (λ fl s' hs=>?_) λ e s' hs=>hs.elim
  have fin:∀ {W':St} {H':Hp} {v:V} {u:Value},Inv (aN6 P w K mg base N qual scope f (.ref c') h A G s H) [] W' H' s'->RelV v u->((∀ b,isC h b=true->H' b=none)->Q v (Put h H H'))->CE G P w H s Q u s':=λ {W' H' v u} J rv q=>by
   obtain⟨un,a6⟩:=bn0 Y.hok h3 Y.frf J.base J.hok
   have a3:∀ b,isC h b=true->H' b=none:=λ b y=>by
    obtain⟨o,v,z,_⟩:=h3.at y
    exact(show Un (frs G) [] (ae9 h H) H' s.heap s'.heap from J.base).free b o (Y.hok b _ z).1 (ae9.cell y) (by simp)
   exact⟨v,_,J.os,J.bare,un,a6,rv,q a3⟩
  cases fl with
  | ret u =>
   obtain⟨v,W',H',J,rv,q⟩:=hs
   exact fin J rv q
  | next =>
   obtain⟨W',H',J,q⟩:=hs
   exact fin (v:=V.N) (u:=Value.none) J rfl q
  | brk =>
   obtain⟨_,_,_,q⟩:=hs
   exact bI q
  | cont =>
   obtain⟨_,_,_,q⟩:=hs
   exact bI q
theorem bT5 {K:af}{h:yB}
  (S:LamScope N ps fr scope) (len:∀ vs H Q E,sp vs H Q E->vs.length=ps.length) (a6:cap.length=fr.length)
  (a1:∀(pm:Value) (c':Addr) (Z:Value) (us:yG),us.length=ps.length->ee (bR "<lambda>" qual params body scope h pm (.ref c') Z) ⟨us,[]⟩=pure (ps.zip us))
  (a0:∀(A:aV) (G:List Env) (s:ah) (H:Hp) (cd:Value) (vs:List V) (Q:VK),Room k (A.deeper (db qual scope s.heap.objs.size f cd (aP (s.heap.objs.size+1) scope.names h)))->aD0 H f qual params body scope fr cap h->(∀ b o,K.lookup b=some o->H b=none)->sp vs H Q E0 ->
   ∃ t,PE (aN6 P w K mg base N qual scope f cd h A G s H) body t/\t (vs.map some++cap.map some) (ae9 h H) λ v H'=>(∀ b,isC h b=true->H' b=none)->Q v (Put h H H')) :
  ClOk P w K mg base (k+1) (λ H=>aD0 H f qual params body scope fr cap h) f sp:=by
 refine⟨λ A G s H us vs Q hr Y hR r a3=>?_⟩
 have hl:=len _ _ _ _ a3
 obtain⟨pm,c',Z,h1,h2,h3,h4,h5,h6⟩:=id hR
 have a4:s.heap.NoLimit:=Y.mod.nolimit.keeps λ b o e=>(Y.bs b o e).1
 refine PySem.W.kla_callFunE hr.depth (az5 Y.hok h1) rfl S.co S.gen rfl (aF7 Y.hok h2) ?_
 rw[a1 pm c' Z us (by rw[<-r.length];exact hl)]
 refine aC (av8 S.kind (λ y hy=>?_) λ env he s1 x=>?_)
 .rcases S.par y.1 (dS (show(y.1,y.2)∈ps.zip us from hy)).1 with q|q
  .exact .inl q
  .exact .inr ⟨q,qu q⟩
 .subst he
  refine⟨a4.keeps x.toInCall.keep,PySem.W.kla_codeExpr ?_⟩
  obtain⟨t,ht,hq⟩:=a0 A G s H (.ref c') vs Q (hr.deeper _) hR (λ b o e=>(Y.bs b o (Y.mod.kin b o e)).2) a3
  have I:=bm4 S hr.hd Y hl a6 r h3 h4 h5 h6 x
  refine cj (ht [] s1 _ _ _ I hq) (λ u s' hs=>?_) λ e s' hs=>hs.elim
  obtain⟨v,H',J,rv,q⟩:=hs
  obtain⟨un,a5⟩:=bn0 Y.hok h3 Y.frf J.base J.hok
  have a2:∀ b,isC h b=true->H' b=none:=λ b y=>by
   obtain⟨o,v,z,_⟩:=h3.at y
   exact(show Un (frs G) [] (ae9 h H) H' s.heap s'.heap from J.base).free b o (Y.hok b _ z).1 (ae9.cell y) (by simp)
  exact⟨v,_,J.os,J.bare,un,a5,rv,q a2⟩
theorem Rp.sameT (r:Rp Γ C H s)(e:bn7 H H')(st:∀ b,H b≠none->H' b≠none)(tb:TabsH Γ.T H'):Gr C s H C s H'/\Rp Γ C H' s:=by
 have kp:Kp H H':=λ b o h f=>e b o (λ ps z=>by subst z;cases f) h
 have Y:Gw C s.length H C H':=⟨λ _ _=>rfl,kp⟩
 refine⟨⟨Y,ak _,λ i h1 Z=>absurd Z (by omega),λ i o o' e e'=>by rw[e]at e';cases e';rfl,st,λ b o h G _=>e b o G h⟩,r.inj,λ i o J=>?_,r.wf,tb⟩
 exact(r.obj i o J).mono Y (r.wf i o J) λ m u hu=>by
  obtain⟨u',y,_,G⟩:=(r.obj i o J).there m
  rw[hu]at y;cases y
  exact e _ _ G hu
theorem Cells.kp (h:Cells clos H)(k:Kp H H'):Cells clos H':=λ x c e=>by
 obtain⟨o,v,q,d⟩:=h x c e
 exact⟨o,v,k _ _ q rfl,d⟩
def PVp (Γ:Gm)(cells:yB)(N:yH)(W:St)(C:Nat->Addr)(H:Hp)(d:lN)(v:V):Prop:=RV Γ C H d v\/∃ id cs,d=.clo id cs/\∃ f J,v=.ref f/\Γ.lg id J/\ak2 H f J (ag5 cells J.scope.names []) /\
  cs.length=J.fr.length/\(∀ x,J.scope.names.lookup x=some .free->∃ c,cells.lookup x=some c) /\
  ∃ cap,RVL Γ C H cs cap/\∀(i:Nat) x v ,J.fr[i]?=some x->cap[i]?=some v->J.scope.names.lookup x=some .free/\∃ j:Nat,N[j]?=some x/\W[j]?=some (some v)
inductive PVL (Γ:Gm)(cells:yB)(N:yH)(W:St)(C:Nat->Addr)(H:Hp):List lN->List V->Prop where
 | nil:PVL Γ cells N W C H [] []
 | cons {d v l vs} (a:PVp Γ cells N W C H d v) (b:PVL Γ cells N W C H l vs):PVL Γ cells N W C H (d::l) (v::vs)
theorem PVp.mono (g:Gr C s H C' s' H')(b:d.bnd s.length=true)(h:PVp Γ cells N W C H d v):PVp Γ cells N W C' H' d v:=by
 rcases h with h|⟨id,cs,rfl,h⟩
 .exact .inl (RV.mono g _ _ b h)
 .obtain⟨f,J,e,h1,G,y,Z,cap,Y,h7⟩:=h
  unfold lR at b
  exact .inr ⟨id,cs,rfl,f,J,e,h1,G.kp g.w.kp,y,Z,cap,RVL.mono g cs cap b Y,h7⟩
theorem PVp.caught (ca:Caught cells N kd W Y H2)(a0:∀ x c,cells.lookup x=some c->kd x=some .cell\/kd x=some .free)(b:d.bnd n=true)(h:PVp Γ cells N W C Y d v):RV Γ C H2 d v:=by
 have gw:Gw C n Y C H2:=⟨λ _ _=>rfl,λ b o e _=>ca.same b o e⟩
 rcases h with h|⟨id,cs,rfl,h⟩
 .exact RV.monoW gw _ _ b h
 .obtain⟨f,J,e,h1,G,h4,Z,cap,h6,h7⟩:=h
  unfold lR at b
  unfold RV
  have y:∀(i:Nat) (x:Str) (v:V),J.fr[i]?=some x->cap[i]?=some v->J.scope.names.lookup x=some .free/\(kd x=some .cell\/kd x=some .free)/\∃ j:Nat,N[j]?=some x/\W[j]?=some (some v):=λ i x v e1 e2=>by
   obtain⟨q1,q2⟩:=h7 i x v e1 e2
   obtain⟨c,q3⟩:=Z x q1
   exact⟨q1,a0 x c q3,q2⟩
  have a1:CloAt H2 f J cap (ag5 cells J.scope.names []):=by
   unfold CloAt
   unfold ak2 at G
   cases q:J.nm with
   | none=>rw[q]at G;exact bv0 ca G Z y
   | some p=>rw[q]at G;exact bt6 ca G Z y
  exact⟨f,cap,J,_,e,h1,a1,by rw[h6.length,h4],RVL.monoW gw cs cap b h6⟩
theorem PVL.caught (J:Caught cells N kd W G H2)(y:∀ x c,cells.lookup x=some c->kd x=some .cell\/kd x=some .free)(h:PVL Γ cells N W C G l vs)(b:lO n l=true):RVL Γ C H2 l vs:=by
 induction h with
 | nil=>exact .nil
 | cons a _ ih =>
  unfold lO at b
  rw[au]at b
  exact .cons (a.caught J y b.1) (ih b.2)
end
variable {Γ:Gm} {X:Cx}
def TEv (Γ:Gm)(m:lP->lM->lQ lN):TE:=λ W H Q=>∃ C U s d s',RE Γ C H s.length U W/\Rp Γ C H s/\m U s=.ok d s'/\ag8 Γ C s H d s' Q
def bZ0 (Γ:Gm)(C:Nat->Addr)(s:lM)(H:Hp)(l:List lN)(s':lM)(Q:List V->Hp->Prop):Prop :=
 ∀ vs C' H',Gr C s H C' s' H'->s.length<=s'.length->lO s'.length l=true->RVL Γ C' H' l vs->Rp Γ C' H' s'->Q vs H'
def TAv (Γ:Gm)(m:lP->lM->lQ (List lN)):TA:=λ W H Q=>∃ C U s l s',RE Γ C H s.length U W/\Rp Γ C H s/\m U s=.ok l s'/\bZ0 Γ C s H l s' Q
def aO2 (Γ:Gm)(C:Nat->Addr)(s:lM)(H:Hp)(b:Bool)(s':lM)(Q:Bool->Hp->Prop):Prop :=
 ∀ C' H',Gr C s H C' s' H'->s.length<=s'.length->Rp Γ C' H' s'->Q b H'
def TTv (Γ:Gm)(m:lP->lM->lQ lN):TT:=λ W H Q=>∃ C U s b s',RE Γ C H s.length U W/\Rp Γ C H s/\m U s=.ok (.T b) s'/\aO2 Γ C s H b s' Q
theorem PE.imp (h:PE X e t)(i:∀ W H Q,t' W H Q->t W H Q):PE X e t':=λ y s W H Q I q=>h y s W H Q I (i W H Q q)
theorem PT.imp (h:PT X e t)(i:∀ W H Q,t' W H Q->t W H Q):PT X e t':=λ y s W H Q I q=>h y s W H Q I (i W H Q q)
theorem PA.imp (h:PA X e t)(i:∀ W H Q,t' W H Q->t W H Q):PA X e t':=λ pos y s W H Q I q=>h pos y s W H Q I (i W H Q q)
theorem aO2.trans (h:aO2 Γ C s H b s' Q)(g:Gr C s H C1 s1 y)(l:s.length<=s1.length):aO2 Γ C1 s1 y b s' Q :=
 λ C' H' g' G p=>h C' H' (g.trans g' l) (ao l G) p
theorem cf5 i (h:TEv Γ (λ U s=>DV.bq6 U i s) W H Q):bF3 i W H Q:=by
 obtain⟨C,U,s,d,s',E,R,y,q⟩:=h
 simp only[DV.bq6]at y
 split at y
 .rename_i d' e
  cases y
  obtain⟨b,v,e1,e2⟩:=E.val i _ e
  exact⟨v,e1,q.here R b e2⟩
 .exact fb y
theorem aI2 (hb:∀ n,c.bnd n=true)(hv:∀ C H,RV Γ C H c v)(h:TEv Γ (λ U s=>.ok c s) W H Q):tC v W H Q:=by
 obtain⟨C,U,s,d,s',E,R,y,q⟩:=h
 cases y
 exact q.here R (hb _) (hv _ _)
theorem bw0 (h:TEv Γ (λ U s=>(Z U s).bind λ x s=>(m2 U s).bind λ y s=>f x y s) W H Q):tOp (rOp Γ f) (TEv Γ Z) (TEv Γ m2) W H Q:=by
 obtain⟨C,U,s,d,s',E,R,G,q⟩:=h
 obtain⟨x,s1,e1,G⟩:=aa0 G
 obtain⟨y,s2,e2,G⟩:=aa0 G
 refine⟨C,U,s,x,s1,E,R,e1,λ v1 C1 H1 g1 l1 b1 r1 R1=>?_⟩
 refine⟨C1,U,s1,y,s2,E.mono g1 l1,R1,e2,λ v2 C2 H2 Y J b2 r2 R2=>?_⟩
 exact⟨C2,s2,x,y,d,s',R2,RV.mono Y x v1 b1 r1,r2,zw J x b1,b2,G,q.trans (g1.trans Y l1) (ao l1 J)⟩
theorem cp2 {f:lN->lM->lQ lN}(h:TEv Γ (λ U s=>(m U s).bind λ x s=>f x s) W H Q)
  (G:∀ C s x d s' v H',Rp Γ C H' s->RV Γ C H' x v->x.bnd s.length=true->f x s=.ok d s'->ag8 Γ C s H' d s' Q->r v H' Q):tUn r (TEv Γ m) W H Q:=by
 obtain⟨C,U,s,d,s',E,R,y,q⟩:=h
 obtain⟨x,s1,e1,y⟩:=aa0 y
 exact⟨C,U,s,x,s1,E,R,e1,λ v1 C1 J g1 l1 b1 r1 R1=>G C1 s1 x d s' v1 J R1 r1 b1 y (q.trans g1 l1)⟩
theorem z0 {a:α}(h:lX r f=.ok a t):∃ b s,r=.ok (.T b) s/\f b s=.ok a t:=by
 unfold lX at h
 obtain⟨d,s,e,h⟩:=aa0 h
 cases d with
 | T b=>exact⟨b,s,e,h⟩
 | _=>exact fb h
theorem aT7 (h:TTv Γ m W H Q):tB (TEv Γ m) W H Q:=by
 obtain⟨C,U,s,b,s',E,R,y,q⟩:=h
 refine⟨C,U,s,.T b,s',E,R,y,λ v C' H' g l J r G=>?_⟩
 exact⟨b,r.blE,q C' H' g l G⟩
theorem bm0 (h:TTv Γ m W H Q):bQ6 (TEv Γ m) W H Q:=aT7 h
theorem cg1 (h:TTv Γ (λ U s=>lX (m U s) λ b s=>.ok (.T (!b)) s) W H Q):cu6 (TTv Γ m) W H Q:=by
 obtain⟨C,U,s,b,s',E,R,y,q⟩:=h
 obtain⟨c,s1,e1,y⟩:=z0 y
 cases y
 exact⟨C,U,s,c,_,E,R,e1,q⟩
theorem bE0 (h:TTv Γ (λ U s=>lX (G U s) λ c s=>if c then lX (J U s) λ c s=>.ok (.T c) s else .ok (.T false) s) W H Q):cu3 (TTv Γ G) (TTv Γ J) W H Q:=by
 obtain⟨C,U,s,b,s',E,R,y,q⟩:=h
 obtain⟨c,s1,e1,y⟩:=z0 y
 refine⟨C,U,s,c,s1,E,R,e1,λ C1 Y g1 l1 R1=>?_⟩
 cases c with
 | true =>
  rw[if_pos rfl]at y ⊢
  obtain⟨Z,s2,e2,y⟩:=z0 y
  cases y
  exact⟨C1,U,s1,_,_,E.mono g1 l1,R1,e2,q.trans g1 l1⟩
 | false =>
  rw[if_neg aS]at y ⊢
  cases y
  exact q C1 Y g1 l1 R1
theorem bX4 (h:TTv Γ (λ U s=>lX (G U s) λ c s=>if c then .ok (.T true) s else lX (J U s) λ c s=>.ok (.T c) s) W H Q):tOr (TTv Γ G) (TTv Γ J) W H Q:=by
 obtain⟨C,U,s,b,s',E,R,y,q⟩:=h
 obtain⟨c,s1,e1,y⟩:=z0 y
 refine⟨C,U,s,c,s1,E,R,e1,λ C1 Y g1 l1 R1=>?_⟩
 cases c with
 | true =>
  rw[if_pos rfl]at y ⊢
  cases y
  exact q C1 Y g1 l1 R1
 | false =>
  rw[if_neg aS]at y ⊢
  obtain⟨Z,s2,e2,y⟩:=z0 y
  cases y
  exact⟨C1,U,s1,_,_,E.mono g1 l1,R1,e2,q.trans g1 l1⟩
theorem bV4 (h:TEv Γ (λ U s=>lX (m U s) λ b s=>.ok (.T (!b)) s) W H Q):bX5 (TEv Γ m) W H Q:=by
 obtain⟨C,U,s,d,s',E,R,y,q⟩:=h
 obtain⟨c,s1,e1,y⟩:=z0 y
 cases y
 exact⟨C,U,s,.T c,_,E,R,e1,λ v C1 G g l b r R1=>⟨c,r.blE,q _ C1 G g l rfl RV.blI R1⟩⟩
theorem bD9 (h:TEv Γ (λ U s=>lX (G U s) λ c s=>if c then lX (J U s) λ c s=>.ok (.T c) s else .ok (.T false) s) W H Q):ca5 (TEv Γ G) (TEv Γ J) W H Q:=by
 obtain⟨C,U,s,d,s',E,R,y,q⟩:=h
 obtain⟨c,s1,e1,y⟩:=z0 y
 refine⟨C,U,s,.T c,s1,E,R,e1,λ v C1 Y g1 l1 b1 r1 R1=>⟨c,r1.blE,?_⟩⟩
 cases c with
 | true =>
  rw[if_pos rfl]at y ⊢
  obtain⟨c,s2,e2,y⟩:=z0 y
  cases y
  exact⟨C1,U,s1,.T c,_,E.mono g1 l1,R1,e2,q.trans g1 l1⟩
 | false =>
  rw[if_neg aS]at y ⊢
  cases y
  exact q _ C1 Y g1 l1 rfl RV.blI R1
theorem bZ6 (h:TEv Γ (λ U s=>lX (G U s) λ c s=>if c then .ok (.T true) s else lX (J U s) λ c s=>.ok (.T c) s) W H Q):cu1 (TEv Γ G) (TEv Γ J) W H Q:=by
 obtain⟨C,U,s,d,s',E,R,y,q⟩:=h
 obtain⟨c,s1,e1,y⟩:=z0 y
 refine⟨C,U,s,.T c,s1,E,R,e1,λ v C1 Y g1 l1 b1 r1 R1=>⟨c,r1.blE,?_⟩⟩
 cases c with
 | true =>
  rw[if_pos rfl]at y ⊢
  cases y
  exact q _ C1 Y g1 l1 rfl RV.blI R1
 | false =>
  rw[if_neg aS]at y ⊢
  obtain⟨c,s2,e2,y⟩:=z0 y
  cases y
  exact⟨C1,U,s1,.T c,_,E.mono g1 l1,R1,e2,q.trans g1 l1⟩
theorem cd8 (h:TEv Γ (λ U s=>lX (mc U s) λ k s=>if k then G U s else J U s) W H Q):tIf (TTv Γ mc) (TEv Γ G) (TEv Γ J) W H Q:=by
 obtain⟨C,U,s,d,s',E,R,y,q⟩:=h
 obtain⟨c,s1,e1,y⟩:=z0 y
 refine⟨C,U,s,c,s1,E,R,e1,λ C1 Y g1 l1 R1=>?_⟩
 cases c with
 | true =>
  rw[if_pos rfl]at y ⊢
  exact⟨C1,U,s1,d,s',E.mono g1 l1,R1,y,q.trans g1 l1⟩
 | false =>
  rw[if_neg aS]at y ⊢
  exact⟨C1,U,s1,d,s',E.mono g1 l1,R1,y,q.trans g1 l1⟩
theorem aR0 (h:TEv Γ (λ U s=>(ma U s).bind λ x s=>(mb U s).bind λ y s=>lX (f x y s) λ k s=>if k then(mc U s).bind λ z s=>g y z s else .ok (.T false) s) W H Q) :
  bl8 (rOp Γ f) (rOp Γ g) (TEv Γ ma) (TEv Γ mb) (TEv Γ mc) W H Q:=by
 obtain⟨C,U,s,d,s',E,R,J,q⟩:=h
 obtain⟨x,s1,e1,J⟩:=aa0 J
 obtain⟨y,s2,e2,J⟩:=aa0 J
 obtain⟨c,s3,e3,J⟩:=z0 J
 refine⟨C,U,s,x,s1,E,R,e1,λ v1 C1 H1 g1 l1 b1 r1 R1=>?_⟩
 refine⟨C1,U,s1,y,s2,E.mono g1 l1,R1,e2,λ v2 C2 H2 g2 Y Z r2 R2=>?_⟩
 refine⟨C2,s2,x,y,.T c,s3,R2,RV.mono g2 x v1 b1 r1,r2,zw Y x b1,Z,e3,λ v3 C3 H3 g3 l3 b3 r3 R3=>⟨c,r3.blE,?_⟩⟩
 have G:=(g1.trans g2 l1).trans g3 (ao l1 Y)
 have L:=ao (ao l1 Y) l3
 cases c with
 | true =>
  rw[if_pos rfl]at J ⊢
  obtain⟨z,s4,e4,J⟩:=aa0 J
  refine⟨C3,U,s3,z,s4,E.mono G L,R3,e4,λ v4 C4 H4 g4 l4 b4 r4 R4=>?_⟩
  exact⟨C4,s4,y,z,d,s',R4,RV.mono (g3.trans g4 l3) y v2 Z r2,r4,zw (ao l3 l4) y Z,b4,J,q.trans (G.trans g4 L) (ao L l4)⟩
 | false =>
  rw[if_neg aS]at J ⊢
  cases J
  exact q _ C3 H3 G L rfl RV.blI R3
theorem aR8 (h:TAv Γ (λ U s=>.ok [] s) W H Q):bq9 W H Q:=by
 obtain⟨C,U,s,d,s',E,R,y,q⟩:=h
 cases y
 exact q [] C H (Gr.refl _ _ _) (ak _) rfl .nil R
theorem bS4 (h:TAv Γ (λ U s=>(m U s).bind λ d s=>(Z U s).bind λ l s=>.ok (d::l) s) W H Q):aq1 (TEv Γ m) (TAv Γ Z) W H Q:=by
 obtain⟨C,U,s,l,s',E,R,G,q⟩:=h
 obtain⟨x,s1,e1,G⟩:=aa0 G
 obtain⟨y,s2,e2,G⟩:=aa0 G
 cases G
 refine⟨C,U,s,x,s1,E,R,e1,λ v1 C1 H1 g1 l1 b1 r1 R1=>?_⟩
 refine⟨C1,U,s1,y,_,E.mono g1 l1,R1,e2,λ v2 C2 H2 Y J b2 r2 R2=>?_⟩
 refine q (v1::v2) C2 H2 (g1.trans Y l1) (ao l1 J) ?_ (.cons (RV.mono Y x v1 b1 r1) r2) R2
 unfold lO
 rw[zw J x b1,b2];rfl
theorem aL2 (h:TEv Γ (λ U s=>(G U s).bind λ l s=>f l s) W H Q):tCB (rCl Γ f) (TAv Γ G) W H Q:=by
 obtain⟨C,U,s,d,s',E,R,y,q⟩:=h
 obtain⟨l,s1,e1,y⟩:=aa0 y
 exact⟨C,U,s,l,s1,E,R,e1,λ vs C1 J g1 l1 b1 r1 R1=>⟨C1,s1,l,d,s',R1,r1,b1,y,q.trans g1 l1⟩⟩
theorem cn5 :
  (TEv Γ (λ U s=>(m U s).bind λ x s=>(ml U s).bind λ y s=>match y with|.int i=>nA x (some i) none s|_=>.B) W H Q->tSl (rSl Γ) (TEv Γ m) (bk8 (TEv Γ ml)) aM7 W H Q) /\
  (TEv Γ (λ U s=>(m U s).bind λ x s=>(mh U s).bind λ y s=>match y with|.int i=>nA x none (some i) s|_=>.B) W H Q->tSl (rSl Γ) (TEv Γ m) aM7 (bk8 (TEv Γ mh)) W H Q) /\
  (TEv Γ (λ U s=>(m U s).bind λ x s=>(ml U s).bind λ y s=>match y with|.int i=>(mh U s).bind (λ z s=>match z with|.int j=>nA x (some i) (some j) s|_=>.B)|_=>.B) W H Q->tSl (rSl Γ) (TEv Γ m) (bk8 (TEv Γ ml)) (bk8 (TEv Γ mh)) W H Q):=by
 refine⟨λ h=>?_,λ h=>?_,λ h=>?_⟩
 .obtain⟨C,U,s,d,s',E,R,G,q⟩:=h
  obtain⟨x,s1,e1,G⟩:=aa0 G
  obtain⟨y,s2,e2,G⟩:=aa0 G
  refine⟨C,U,s,x,s1,E,R,e1,λ v1 C1 H1 g1 l1 b1 r1 R1=>?_⟩
  refine⟨C1,U,s1,y,s2,E.mono g1 l1,R1,e2,λ v2 C2 H2 Y J b2 Z R2=>?_⟩
  cases y with
  | int i=>exact⟨i,Z.intE,C2,s2,x,d,s',R2,RV.mono Y x v1 b1 r1,zw J x b1,G,q.trans (g1.trans Y l1) (ao l1 J)⟩
  | _=>exact fb G
 .obtain⟨C,U,s,d,s',E,R,G,q⟩:=h
  obtain⟨x,s1,e1,G⟩:=aa0 G
  obtain⟨y,s2,e2,G⟩:=aa0 G
  refine⟨C,U,s,x,s1,E,R,e1,λ v1 C1 H1 g1 l1 b1 r1 R1=>?_⟩
  refine⟨C1,U,s1,y,s2,E.mono g1 l1,R1,e2,λ v2 C2 H2 Y J b2 Z R2=>?_⟩
  cases y with
  | int i=>exact⟨i,Z.intE,C2,s2,x,d,s',R2,RV.mono Y x v1 b1 r1,zw J x b1,G,q.trans (g1.trans Y l1) (ao l1 J)⟩
  | _=>exact fb G
 .obtain⟨C,U,s,d,s',E,R,G,q⟩:=h
  obtain⟨x,s1,e1,G⟩:=aa0 G
  obtain⟨y,s2,e2,G⟩:=aa0 G
  refine⟨C,U,s,x,s1,E,R,e1,λ v1 C1 H1 g1 l1 b1 r1 R1=>?_⟩
  refine⟨C1,U,s1,y,s2,E.mono g1 l1,R1,e2,λ v2 C2 H2 Y J b2 Z R2=>?_⟩
  cases y with
  | int i =>
   obtain⟨z,s3,e3,G⟩:=aa0 G
   refine⟨i,Z.intE,C2,U,s2,z,s3,E.mono (g1.trans Y l1) (ao l1 J),R2,e3,λ v3 C3 H3 g3 l3 b3 r3 R3=>?_⟩
   cases z with
   | int j=>exact⟨j,r3.intE,C3,s3,x,d,s',R3,RV.mono (Y.trans g3 J) x v1 b1 r1,zw (ao J l3) x b1,G,q.trans ((g1.trans Y l1).trans g3 (ao l1 J)) (ao (ao l1 J) l3)⟩
   | _=>exact fb G
  | _=>exact fb G
variable {Γ:Gm} {X:Cx}
def jL (Γ:Gm)(J:It)(C0:Nat->Addr)(H0:Hp)(s0:lM)(q:m7):Prop :=
 ∀ C H s,Gr C0 s0 H0 C s H->s0.length<=s.length->Rp Γ C H s->mw s0 s q.src=true->∀ i:Nat,
  (i<q.its.length->J.go i H/\∀ x H',J.yld i H x H'->ai0 H H'/\∀ d,q.its[i]?=some d->RV Γ C H' d x)/\(q.its.length<=i->J.stop i H)
def TIv (Γ:Gm)(m:lP->lM->lQ m7):TI:=λ W H R=>∃ C U s q s',RE Γ C H s.length U W/\Rp Γ C H s/\m U s=.ok q s' /\
 ∀ J C' H',Gr C s H C' s' H'->s.length<=s'.length->lO s'.length q.its=true->Rp Γ C' H' s'->jL Γ J C' H' s' q->R J H'
theorem PI.imp (h:PI X tg e t)(i:∀ W H R,t' W H R->t W H R):PI X tg e t':=λ y s W H R I q=>h y s W H R I (i W H R q)
theorem PI.or (h:PI X tg e t)(h':PI X tg e t'):PI X tg e (λ W H R=>t W H R\/t' W H R):=λ y s W H R I q=>q.elim (h y s W H R I) (h' y s W H R I)
theorem aR6 (h:SqT Γ.K H0 a G)(hl:RVL Γ C0 H0 l G)(hb:lO s0.length l=true):jL Γ (Itt Γ.K a) C0 H0 s0 ⟨l,[]⟩:=by
 intro C H s g _ R _ i
 have h':=g.w.kp.sqT h
 have J:=RVL.mono g l G hb hl
 refine⟨λ hlt=>⟨⟨G,G[i]'(by rw[J.length];exact hlt),h',aj _⟩,λ x H' y=>?_⟩,λ Y=>⟨G,h',by rw[J.length];exact Y⟩⟩
 obtain⟨e,y⟩:=y
 subst e
 refine⟨ai0.refl _,λ d hd=>?_⟩
 obtain⟨v,e1,e2⟩:=J.get hd
 rw[y G h']at e1;cases e1
 exact e2
theorem bk5 (h:SqF Γ.K H0 a G)(hl:RVL Γ C0 H0 l G)(hb:lO s0.length l=true):jL Γ (Itl Γ.K a) C0 H0 s0 ⟨l,[]⟩:=by
 intro C H s g _ R _ i
 have h':=h.2 _ g.w.kp
 have J:=RVL.mono g l G hb hl
 refine⟨λ hlt=>⟨⟨G,G[i]'(by rw[J.length];exact hlt),h',aj _⟩,λ x H' y=>?_⟩,λ Y=>⟨G,h',by rw[J.length];exact Y⟩⟩
 obtain⟨e,y⟩:=y
 subst e
 refine⟨ai0.refl _,λ d hd=>?_⟩
 obtain⟨v,e1,e2⟩:=J.get hd
 rw[y G h']at e1;cases e1
 exact e2
theorem aT1 (hr:s0[r]?=some (.J l)):jL Γ (Itl Γ.K (C0 r)) C0 H0 s0 ⟨l,[r]⟩:=by
 intro C H s g _ R Z i
 have G:=(ac.mp hr).1
 have hs:s[r]?=some (.J l):=by
  unfold mw at Z
  simp only[dP,ke,dQ,decide_eq_true_eq]at Z
  rw[Z];exact hr
 obtain⟨J,e,h⟩:=R.addr hs
 rw[g.w.map r G]at e
 have h':SqL Γ.K H (C0 r) J:=SqL.of e
 refine⟨λ hlt=>⟨⟨J,J[i]'(by rw[h.length];exact hlt),h',aj _⟩,λ x H' y=>?_⟩,λ Y=>⟨J,h',by rw[h.length];exact Y⟩⟩
 obtain⟨e,y⟩:=y
 subst e
 refine⟨ai0.refl _,λ d hd=>?_⟩
 obtain⟨v,e1,e2⟩:=h.get hd
 rw[y J h']at e1;cases e1
 exact e2
theorem aR3 {l:List Nat}:jL Γ (Its ⟨l.toArray⟩) C0 H0 s0 ⟨l.map λ c=>.str [c],[]⟩:=by
 intro C H s g _ R _ i
 have hsz:(⟨l.toArray⟩:Str).cps.size=l.length:=by simp
 refine⟨λ hlt=>?_,λ h=>?_⟩
 .simp only[aD]at hlt
  refine⟨show i<(⟨l.toArray⟩:Str).cps.size by rw[hsz];exact hlt,λ x H' y=>?_⟩
  obtain⟨e,c,hc,rfl⟩:=y
  subst e
  refine⟨ai0.refl _,λ d hd=>?_⟩
  have G:=by simpa using hc
  rw[av,G]at hd
  cases hd
  exact RV.strI (by simp;decide)
 .simp only[aD]at h
  show(⟨l.toArray⟩:Str).cps.size<=i
  rw[hsz];exact h
theorem bz5 :jL Γ (Itr a (b - a).toNat) C0 H0 s0 ⟨nG a b,[]⟩:=by
 intro C H s g _ R _ i
 have hn:(nG a b).length=(b - a).toNat:=by simp[nG]
 refine⟨λ hlt=>⟨show i<(b - a).toNat by rw[<-hn];exact hlt,λ x H' y=>?_⟩,λ h=>show(b - a).toNat<=i by rw[<-hn];exact h⟩
 obtain⟨e,rfl⟩:=y
 subst e
 refine⟨ai0.refl _,λ d hd=>?_⟩
 simp only[nG]at hd hlt
 rw[av,be (by simpa using hlt)]at hd
 cases hd
 exact RV.intI
theorem bN5 (h:TIv Γ (λ U s=>(m U s).bind λ x s=>match x with|.int i=>if -n0<=i/\i<n0 then .ok ⟨nG 0 i,[]⟩ s else .B|_=>.B) W H R) :
  cc4 (aq1 (TEv Γ m) bq9) W H R:=by
 obtain⟨C,U,s,q,s',E,P,y,k⟩:=h
 obtain⟨x,s1,e1,y⟩:=aa0 y
 refine⟨C,U,s,x,s1,E,P,e1,λ v C1 J g l b r Y=>?_⟩
 cases x with
 | int i =>
  simp only at y
  split at y
  .rename_i G
   cases y
   have hw:n0=2^62:=by decide
   rw[hw]at G
   refine⟨i,by rw[r.intE],G.1,G.2,k _ C1 J g l ?_ Y ?_⟩
   .refine ab7.mpr λ d hd=>?_
    simp only[nG,az]at hd
    obtain⟨_,_,rfl⟩:=hd
    rfl
   .have:=bz5 (Γ:=Γ) (C0:=C1) (H0:=J) (s0:=s') (a:=0) (b:=i)
    rwa [lz]at this
  .exact fb y
 | _=>exact fb y
theorem cc2 (h:TIv Γ (λ U s=>(m U s).bind λ d s=>DV.av4 d s) W H R) :
  cn9 Γ.K (TEv Γ m) W H R\/bT9 Γ.K (TEv Γ m) W H R\/cu7 (TEv Γ m) W H R:=by
 obtain⟨C,U,s,q,s',E,P,y,k⟩:=h
 obtain⟨x,s1,e1,y⟩:=aa0 y
 unfold DV.av4 at y
 cases x with
 | tp l =>
  cases y
  refine .inl ⟨C,U,s,_,_,E,P,e1,λ v C1 J g l b r G=>?_⟩
  obtain⟨a,Y,rfl,h1,d1⟩:=r.tupE
  unfold lR at b
  exact⟨a,rfl,⟨Y,h1⟩,k _ C1 J g l b G (aR6 h1 d1 b)⟩
 | str l =>
  cases y
  refine .inr (.inr ⟨C,U,s,_,_,E,P,e1,λ v C1 J g Z b r G=>?_⟩)
  refine⟨_,r.strE,k _ C1 J g Z ?_ G aR3⟩
  refine ab7.mpr λ d hd=>?_
  simp only[az]at hd
  obtain⟨_,_,rfl⟩:=hd
  rfl
 | ref r =>
  simp only at y
  cases hs:s1[r]? with
  | none=>rw[hs]at y;cases y
  | some o =>
   rw[hs]at y
   cases o with
   | J l =>
    cases y
    refine .inr (.inl ⟨C,U,s,_,_,E,P,e1,λ v C1 J g Z b rr G=>?_⟩)
    have e:=rr.refE;subst e
    obtain⟨Y,e2,d1⟩:=G.addr hs
    have wf:=G.wf _ _ hs
    unfold lT at wf
    exact⟨C1 r,rfl,⟨Y,SqL.of e2⟩,k _ C1 J g Z wf G (aT1 hs)⟩
   | ro l =>
    cases y
    refine .inr (.inl ⟨C,U,s,_,_,E,P,e1,λ v C1 J g Z b rr G=>?_⟩)
    have e:=rr.refE;subst e
    obtain⟨Y,e2,d1⟩:=G.obj _ _ hs
    have wf:=G.wf _ _ hs
    unfold lT at wf
    exact⟨C1 r,rfl,⟨Y,e2.1⟩,k _ C1 J g Z wf G (bk5 e2 d1 wf)⟩
   | dc l=>exact fb y
   | ins c l=>exact fb y
 | _=>exact fb y
theorem bn9 (h:nR d s=.ok q s'):s'=s/\∀ C H v,RV Γ C H d v->Rp Γ C H s->d.bnd s.length=true ->
  ∃ J,Sr Γ.K H v J/\jL Γ J C H s q/\lO s.length q.its=true:=by
 unfold nR at h
 cases d with
 | tp l =>
  cases h
  refine⟨rfl,λ C H v r P b=>?_⟩
  obtain⟨a,y,rfl,Y,d1⟩:=r.tupE
  unfold lR at b
  exact⟨_,.inr (.inl ⟨a,rfl,⟨y,Y⟩,rfl⟩),aR6 Y d1 b,b⟩
 | str l =>
  cases h
  refine⟨rfl,λ C H v r P b=>⟨_,.inr (.inr ⟨_,r.strE,rfl⟩),aR3,?_⟩⟩
  refine ab7.mpr λ d hd=>?_
  simp only[az]at hd
  obtain⟨_,_,rfl⟩:=hd
  rfl
 | ref r =>
  simp only at h
  cases hs:s[r]? with
  | none=>rw[hs]at h;cases h
  | some o =>
   rw[hs]at h
   cases o with
   | J l =>
    cases h
    refine⟨rfl,λ C H v G P b=>?_⟩
    have e:=G.refE;subst e
    obtain⟨y,e2,d1⟩:=P.addr hs
    have wf:=P.wf _ _ hs
    unfold lT at wf
    exact⟨_,.inl ⟨_,rfl,⟨y,SqL.of e2⟩,rfl⟩,aT1 hs,wf⟩
   | ro l =>
    cases h
    refine⟨rfl,λ C H v G P b=>?_⟩
    have e:=G.refE;subst e
    obtain⟨y,e2,d1⟩:=P.obj _ _ hs
    have wf:=P.wf _ _ hs
    unfold lT at wf
    exact⟨_,.inl ⟨_,rfl,⟨y,e2.1⟩,rfl⟩,bk5 e2 d1 wf,wf⟩
   | dc l=>exact fb h
   | ins c l=>exact fb h
 | _=>exact fb h
theorem bI0 :mw s0 s (a++b)=(mw s0 s a&&mw s0 s b):=by unfold mw;exact dm
theorem ax5:∀ l m (i:Nat),(mf l m)[i]?=(match l[i]?,m[i]? with|some a,some b=>some (.tp [a,b])|_,_=>none)
 | [],m,i=>by rw[mf]<;>simp
 | a::l,[],i=>by
  rw[mf]<;>simp
 | a::l,b::m,0=>by rw[mf];rfl
 | a::l,b::m,i+1=>by
  rw[mf]
  exact ax5 l m i
theorem aB5:∀ l m ,(mf l m).length=min l.length m.length
 | [],m=>by rw[mf]<;>simp
 | a::l,[]=>by rw[mf]<;>simp
 | a::l,b::m=>by rw[mf];simp[aB5 l m]
theorem bt3 (w1:jL Γ J1 C0 H0 s0 p)(w2:jL Γ J2 C0 H0 s0 q)(b1:lO s0.length p.its=true)(b2:lO s0.length q.its=true) :
  jL Γ (Jz J1 J2) C0 H0 s0 ⟨mf p.its q.its,p.src++q.src⟩:=by
 intro C H s g hl R Z i
 rw[bI0,au]at Z
 obtain⟨u1,u2⟩:=w1 C H s g hl R Z.1 i
 obtain⟨v1,v2⟩:=w2 C H s g hl R Z.2 i
 refine⟨λ hlt=>?_,λ Y=>?_⟩
 .simp only[aB5]at hlt
  have h:=ar hlt (Nat.min_le_left ..)
  have J:=ar hlt (ki ..)
  obtain⟨g1,y1⟩:=u1 h
  obtain⟨g2,y2⟩:=v1 J
  refine⟨⟨g1,g2⟩,λ x H' y=>?_⟩
  obtain⟨a,x1,x2,e1,e2,hn,rfl,rfl⟩:=y
  have sm:ai0 H (upd H a (.tp [x1,x2])):=(ai0.refl H).new hn
  refine⟨sm,λ d hd=>?_⟩
  have G:=hd
  rw[ax5,aj h,aj J]at G
  cases G
  obtain⟨gr,R'⟩:=R.same sm
  have c1:=ab7.mp b1 _ (gA h)
  have c2:=ab7.mp b2 _ (gA J)
  exact RV.tupI zo (RVL.cons (RV.mono gr _ _ (zw hl _ c1) ((y1 _ _ e1).2 _ (aj h))) (RVL.cons (RV.mono gr _ _ (zw hl _ c2) ((y2 _ _ e2).2 _ (aj J))) RVL.nil))
 .simp only[aB5]at Y
  by_cases h:p.its.length<=i
  .exact .inl (u2 h)
  .refine .inr ⟨(u1 (by lia)).1,v2 (by lia)⟩
theorem bQ7 (a:lO n l=true)(b:lO n m=true):lO n (mf l m)=true:=by
 refine ab7.mpr λ d hd=>?_
 obtain⟨i,h⟩:=eU hd
 rw[ax5]at h
 split at h
 .rename_i x y e1 e2
  cases h
  unfold lR
  exact ab7.mpr λ d hd=>by
   simp only[aB,aW,or_false]at hd
   rcases hd with rfl|rfl
   .exact ab7.mp a _ (aL e1)
   .exact ab7.mp b _ (aL e2)
 .cases h
theorem cb9 (h:TIv Γ (λ U s=>(m1 U s).bind λ x s=>(m2 U s).bind λ y s=>(nR x s).bind λ p s=>(nR y s).bind λ q s=>.ok ⟨mf p.its q.its,p.src++q.src⟩ s) W H R) :
  cw9 Γ.K (aq1 (TEv Γ m1) (aq1 (TEv Γ m2) bq9)) W H R:=by
 obtain⟨C,U,s,q,s',E,P,G,k⟩:=h
 obtain⟨x,s1,e1,G⟩:=aa0 G
 obtain⟨y,s2,e2,G⟩:=aa0 G
 obtain⟨p1,s3,e3,G⟩:=aa0 G
 obtain⟨p2,s4,e4,G⟩:=aa0 G
 cases G
 obtain⟨rfl,d1⟩:=bn9 e3
 obtain⟨rfl,d2⟩:=bn9 e4
 refine⟨C,U,s,x,s1,E,P,e1,λ v C1 H1 g l b r P1=>?_⟩
 refine⟨C1,U,s1,y,_,E.mono g l,P1,e2,λ v2 C2 H2 Z Y b2 r2 J=>?_⟩
 obtain⟨J1,S1,w1,c1⟩:=d1 C2 H2 v (RV.mono Z _ _ b r) J (zw Y _ b)
 obtain⟨J2,S2,w2,c2⟩:=d2 C2 H2 v2 r2 J b2
 exact⟨v,v2,J1,J2,rfl,S1,S2,k _ C2 H2 (g.trans Z l) (ao l Y) (bQ7 c1 c2) J (bt3 w1 w2 c1 c2)⟩
variable {Γ:Gm} {X:Cx}
noncomputable def cl6:List Nat->TGs
 | []=>cx2
 | i::is=>ce1 (aF4 i) (cl6 is)
def gOf (K:af):mM->TG
 | .Y i=>aF4 i
 | .tp is=>cs5 K is.length (cl6 is)
theorem bA5 (E:RE Γ C H n U W)(r:RV Γ C H d v)(b:d.bnd n=true)(h:nh U i d=some U'):RE Γ C H n U' (W.set i (some v)):=by
 unfold nh at h
 split at h
 .rename_i y
  cases h
  refine⟨by rw[bN,bN];exact E.len,λ j e hj=>?_⟩
  by_cases hij:j=i
  .subst hij
   rw[aZ y]at hj
   cases hj
   exact⟨b,v,by rw[aZ (by rw[<-E.len];exact y)],r⟩
  .rw[br (cb hij)]at hj
   obtain⟨G,w,J,h3⟩:=E.val j e hj
   exact⟨G,w,by rw[br (cb hij)];exact J,h3⟩
 .cases h
theorem ck3 :∀ is l y U U' W ,RE Γ C H n U W->RVL Γ C H l y->lO n l=true->nD U is l=some U'->(∀ W',RE Γ C H n U' W'->Q W' H)->cl6 is y W H Q
 | [],[],y,U,U',W,E,r,_,h,k=>by
  cases h
  exact⟨r.unnil,k W E⟩
 | [],d::l,_,_,_,_,_,_,_,h,_=>by cases h
 | i::is,[],_,_,_,_,_,_,_,h,_=>by cases h
 | i::is,d::l,y,U,U',W,E,r,b,h,k=>by
  have h:(nh U i d).bind (λ U=>nD U is l)=some U':=h
  obtain⟨x,G,rfl,J,Y⟩:=r.uncons
  unfold lO at b
  rw[au]at b
  cases e:nh U i d with
  | none=>rw[e]at h;cases h
  | some U1 =>
   rw[e]at h
   exact⟨x,G,rfl,ck3 is l G U1 U' _ (bA5 E J b.1 e) Y b.2 h k⟩
theorem ba6 :∀ {is} {U U'},nD U is l=some U'->is.length=l.length:=by
 induction l with
 | nil=>intro is U U' h;cases is with
  | nil=>rfl
  | cons i is=>cases h
 | cons d l ih=>intro is U U' h;cases is with
  | nil=>cases h
  | cons i is =>
   have h:(nh U i d).bind (λ U=>nD U is l)=some U':=h
   cases e:nh U i d with
   | none=>rw[e]at h;cases h
   | some U1=>rw[e]at h;rw[aR,aR,ih h]
theorem bQ1 (E:RE Γ C H n U W)(r:RV Γ C H d v)(b:d.bnd n=true)(h:mH U tg d=some U')(k:∀ W',RE Γ C H n U' W'->Q W' H):gOf Γ.K tg v W H Q:=by
 cases tg with
 | Y i=>exact k _ (bA5 E r b h)
 | tp is =>
  cases d with
  | tp l =>
   have h:=h
   obtain⟨a,y,rfl,G,d1⟩:=r.tupE
   unfold lR at b
   exact⟨a,y,rfl,G,by rw[d1.length,ba6 h],ck3 is l y U U' W E d1 b h k⟩
  | _=>cases h
def Off (C:Nat->Addr)(s:lM)(b:Addr):Prop:=∀ i ob ,s[i]?=some ob->isMut ob=true->C i≠b
theorem Off.mono (h:Off C s b)(g:Gr C s H C' s' H')(hb:H b=some o):Off C' s' b:=λ i ob e m z=>by
 by_cases J:i<s.length
 .obtain⟨y,G⟩:∃ y,s[i]?=some y:=⟨s[i],aj J⟩
  exact h i y G (g.mu i y ob G e m) (by rw[<-g.w.map i J];exact z)
 .have:=g.new i (by lia) (ac.mp e).1
  rw[z,hb]at this;cases this
theorem Off.new (r:Rp Γ C H s)(h:H b=none):Off C s b:=λ i ob e m z=>by
 obtain⟨u,hu,_⟩:=(r.obj i ob e).there m
 rw[z,h]at hu;cases hu
theorem Rp.foreign (r:Rp Γ C H s)(hb:H b=some (.J ys))(ho:Off C s b):Rp Γ C (upd H b (.J h)) s:=by
 have g:Gw C s.length H C (upd H b (.J h)):=⟨λ _ _=>rfl,(Kp.refl H).put hb rfl⟩
 exact⟨r.inj,λ i o e=>(r.obj i o e).mono g (r.wf i o e) λ m u hu=>by rw[zm (ho i o e m)];exact hu,r.wf,r.tab.put hb⟩
theorem Gr.foreign (g:Gr C s H C' s' H')(h0:H b=none)(hb:H' b=some (.J ys)):Gr C s H C' s' (upd H' b (.J G)):=by
 have ne:∀ c o,H c=some o->c≠b:=λ c o e=>zK e h0
 refine⟨⟨g.w.map,λ c o e f=>?_⟩,g.le,g.new,g.kd,λ c hc=>?_,λ c o e y h=>?_⟩
 .rw[zm (ne c o e)];exact g.w.kp c o e f
 .unfold upd;split
  .simp
  .exact g.st c hc
 .rw[zm (ne c o e)];exact g.fr c o e y h
def bV6 (Γ:Gm)(C:Nat->Addr)(s:lM)(H:Hp)(l:List lN)(s':lM)(Q:VK):Prop :=
 ∀ p ys C' H',Gr C s H C' s' H'->s.length<=s'.length->lO s'.length l=true->H' p=some (.J ys)->H p=none->Off C' s' p->RVL Γ C' H' l ys->Rp Γ C' H' s'->Q (.ref p) H'
def TFv (Γ:Gm)(m:lP->lM->lQ (List lN)):TE:=λ W H Q=>∃ C U s l s',RE Γ C H s.length U W/\Rp Γ C H s/\m U s=.ok l s'/\bV6 Γ C s H l s' Q
theorem bl5 (h:TEv Γ (λ U s=>(m U s).bind λ l s=>mV (.J l) s) W H Q):TFv Γ m W H Q:=by
 obtain⟨C,U,s,d,s',E,R,hm,q⟩:=h
 obtain⟨l,s1,e1,hm⟩:=aa0 hm
 obtain⟨rfl,rfl⟩:=qS hm
 refine⟨C,U,s,l,s1,E,R,e1,λ p ys C' H' g hl hb hp h0 ho r Y=>?_⟩
 have gw:Gw C' s1.length H' (λ i=>if i=s1.length then p else C' i) H':=⟨λ i y=>if_neg (aA y),Kp.refl _⟩
 have key:∀ i J ,(s1++[DV.O.J l])[i]?=some J->(i<s1.length/\s1[i]?=some J)\/(i=s1.length/\J=.J l):=λ i J e=>by
  rcases fX i s1.length with h|h|h
  .rw[ax h]at e;exact .inl ⟨h,e⟩
  .subst h;simp at e;exact .inr ⟨rfl,e.symm⟩
  .rw[bG (by simp;lia)]at e;cases e
 have G:Gr C s H (λ i=>if i=s1.length then p else C' i) (s1++[.J l]) H':=by
  refine⟨⟨λ i y=>by skip;rw[if_neg (by lia)];exact g.w.map i y,g.w.kp⟩,by simp;lia,λ i h1 h2=>?_,λ i o J e e'=>?_,g.st,g.fr⟩
  .by_cases y:i=s1.length
   .skip
    rw[if_pos y];exact h0
   .skip
    rw[if_neg y];exact g.new i h1 (by simp at h2;lia)
  .rcases key i J e' with⟨_,e2⟩|⟨y,_⟩
   .exact g.kd i o J e e2
   .have:=(ac.mp e).1;lia
 have P:Rp Γ (λ i=>if i=s1.length then p else C' i) H' (s1++[.J l]):=by
  refine⟨λ i j oi oj Z ej mi mj e=>?_,λ i o e=>?_,λ i o e=>?_,Y.tab⟩
  .rcases key i oi Z with⟨y,Z⟩|⟨y,_⟩<;>rcases key j oj ej with⟨hj,ej⟩|⟨hj,_⟩
   .rw[if_neg (aA y),if_neg (aA hj)]at e
    exact Y.inj i j oi oj Z ej mi mj e
   .rw[if_neg (aA y),if_pos hj]at e
    exact absurd e (ho i oi Z mi)
   .rw[if_neg (aA hj),if_pos y]at e
    exact absurd e.symm (ho j oj ej mj)
   .rw[y,hj]
  .rcases key i o e with⟨y,e⟩|⟨y,rfl⟩
   .skip
    rw[if_neg (aA y)]
    exact(Y.obj i o e).mono gw (Y.wf i o e) λ _ u hu=>hu
   .skip
    rw[if_pos y]
    exact⟨ys,hp,RVL.monoW gw l ys hb r⟩
  .rw[aU,dt]
   rcases key i o e with⟨_,e⟩|⟨_,rfl⟩
   .exact qO (dC _) _ (Y.wf i o e)
   .exact qO (dC _) _ (by unfold lT;exact hb)
 exact q (.ref p) _ H' G (by simp;omega) (by unfold lR;simp) (by unfold RV;simp) P
theorem ck2 (E:RE Γ C H n U W) h :RE Γ C H n (nq U h) (aF2 h W):=by
 refine⟨by unfold nq aF2;simp,λ i d e=>?_⟩
 unfold nq at e
 rw[av]at e
 cases q:h[i]? with
 | none=>rw[q]at e;cases e
 | some o =>
  rw[q]at e
  cases o with
  | none=>cases e
  | some j =>
   have e':(U[j]?).join=some d:=aw e
   have ej:U[j]?=some (some d):=by
    cases q2:U[j]? with
    | none=>rw[q2]at e';cases e'
    | some o2=>rw[q2]at e';exact congrArg some e'
   obtain⟨b,v,y,G⟩:=E.val j d ej
   refine⟨b,v,?_,G⟩
   unfold aF2
   rw[av,q]
   show some ((W[j]?).join)=_
   rw[y];rfl
theorem bf9 
  (h:TFv Γ (λ U s=>(mI U s).bind λ q s0=>if q.its.length<=lU then nH (λ s=>mw s0 s q.src) (λ d U s=>match mH U tg d with
   | some U=>lX (mc U s) λ k s=>if k then(me U s).bind λ v s=>.ok (some v,U) s else .ok (none,U) s
   | none=>.B) q.its (nq U Y) s0 else .B) W H Q):tComp Y (TIv Γ mI) (gOf Γ.K tg) (TTv Γ mc) (TEv Γ me) W H Q:=by
 obtain⟨C,U,s,l,s',E,R,hm,k⟩:=h
 obtain⟨q,s0,e1,hm⟩:=aa0 hm
 split at hm
 case isFalse=>exact fb hm
 rename_i b2
 refine⟨C,U,s,q,s0,E,R,e1,λ J C1 H1 g1 l1 b1 R1 wk D hD=>?_⟩
 have h0:H D=none:=by
  cases e:H D with
  | none=>rfl
  | some o=>exact absurd hD (g1.st D (by rw[e];simp))
 refine⟨λ i m W' H'=>∃ C' U' t y ys rest,Gr C1 s0 H1 C' t H'/\Rp Γ C' H' t/\RE Γ C' H' t.length U' W'/\H' D=some (.J ys)/\Off C' t D/\RVL Γ C' H' y ys/\lO t.length y=true/\y.length<=i/\i<=q.its.length/\m=q.its.length - i /\
  nH (λ s=>mw s0 s q.src) (λ d U s=>match mH U tg d with
   | some U=>lX (mc U s) λ k s=>if k then(me U s).bind λ v s=>.ok (some v,U) s else .ok (none,U) s
   | none=>.B) (q.its.drop i) U' t=.ok rest s'/\l=y++rest,⟨q.its.length,?_⟩,?_⟩
 .obtain⟨g2,R2⟩:=R1.same ((ai0.refl H1).new hD)
  exact⟨C1,nq U Y,s0,[],[],l,g2,R2,ck2 ((E.mono g1 l1).mono g2 (ak _)) Y,zo,Off.new R1 hD,.nil,rfl,ak _,c8 _,by simp,by rw[iq];exact hm,rfl⟩
 .rintro i m W' H' ⟨C',U',t,y,ys,rest,g,R',E',hy,a3,ra,ba,b3,hil,rfl,hc,hl⟩
  have G:=g.le
  rcases lA i q.its.length with hlt|hge
  .have hd:=aj hlt
   rw[fM hlt]at hc
   unfold nH at hc
   split at hc
   case isFalse=>exact fb hc
   rename_i a2
   obtain⟨a7,a9⟩:=(wk C' H' t g G R' a2 i).1 hlt
   refine .inr ⟨a7,_,λ W2 H2 n=>⟨q.its.length - (i+1),by omega,n⟩,λ x H2 b0=>?_⟩
   obtain⟨sm,rv⟩:=a9 x H2 b0
   obtain⟨g2,R2⟩:=R'.same sm
   have rd:=rv _ hd
   have bd:=zw G _ (ao7 b1 hd)
   obtain⟨p,t3,hs,hc⟩:=aa0 hc
   obtain⟨r2,t4,a5,hc⟩:=aa0 hc
   cases hb:mH U' tg q.its[i]with
   | none=>rw[hb]at hs;cases hs
   | some U3 =>
    rw[hb]at hs
    refine bQ1 (E'.mono g2 (ak _)) rd bd hb λ W3 E3=>?_
    obtain⟨c,t1,ec,hs⟩:=z0 hs
    refine⟨C',U3,t,c,t1,E3,R2,ec,λ C2 H4 g4 l4 R4=>?_⟩
    have a6:=sm _ _ hy
    have a4:=g4.fr D _ a6 (by nofun) a3
    have Z:=a3.mono g4 a6
    have G4:=(g.trans g2 G).trans g4 G
    cases c with
    | true =>
     rw[if_pos rfl]at hs
     refine iteT ?_
     obtain⟨v,t2,ev,hs⟩:=aa0 hs
     cases hs
     refine⟨C2,U3,t1,v,t3,E3.mono g4 l4,R4,ev,λ w C3 H5 g5 l5 b5 r5 R5=>?_⟩
     have a0:=g5.fr D _ a4 (by nofun) Z
     have a1:=Z.mono g5 a4
     refine⟨ys,a0,?_,?_⟩
     .rw[ra.length]
      have:=qA
      lia
     .have gw:Gw C3 t3.length H5 C3 (upd H5 D (.J (ys++[w]))):=⟨λ _ _=>rfl,(Kp.refl H5).put a0 rfl⟩
      have G5:=G4.trans g5 (ao G l4)
      have GG:=g2.trans (g4.trans g5 l4) (ak _)
      have a8:=RVL.mono GG _ _ ba ra
      have bb:lO t3.length (y++[v])=true:=qo (ac9 GG.le _ ba) (by unfold lO;rw[b5];rfl)
      refine⟨C3,U3,t3,y++[v],ys++[w],r2,G5.foreign hD a0,R5.foreign a0 a1,?_,zo,a1,RVL.monoW gw _ _ bb (a8.append (.cons r5 .nil)),bb,by simp;omega,hlt,rfl,?_,?_⟩
      .have E5:=(E3.mono g4 l4).mono g5 l5
       exact⟨E5.len,λ j e hj=>by
        obtain⟨h1,z,h2,h3⟩:=E5.val j e hj
        exact⟨h1,z,h2,RV.monoW gw _ _ h1 h3⟩⟩
      .cases hc;exact a5
      .cases hc;rw[hl];simp
    | false =>
     rw[if_neg aS]at hs
     refine cx8 ?_
     cases hs
     have GG:=g2.trans g4 (ak _)
     exact⟨C2,U3,t3,y,ys,r2,G4,R4,E3.mono g4 l4,a4,Z,RVL.mono GG _ _ ba ra,ac9 l4 _ ba,by lia,hlt,rfl,by cases hc;exact a5,by cases hc;exact hl⟩
  .have hi:=by omega
   rw[gS hge]at hc
   unfold nH at hc
   split at hc
   case isFalse=>exact fb hc
   rename_i a2
   cases hc
   refine .inl ⟨(wk C' H' s' g G R' a2 i).2 hge,?_⟩
   rw[bf]at hl
   subst hl
   exact k D ys C' H' (g1.trans g l1) (ao l1 G) ba hy h0 a3 ra R'
variable {Γ:Gm} {X:Cx}
def cv5 (Γ:Gm)(C:Nat->Addr)(H:Hp)(n:Nat)(D:Ends):mO->Prop
 | .next U=>∀ W,RE Γ C H n U W->D.nx W H
 | .ret d=>∀ v,d.bnd n=true->RV Γ C H d v->D.rt v H
 | .cont U=>∀ W,RE Γ C H n U W->D.ct W H
 | .brk U=>∀ W,RE Γ C H n U W->D.bk W H
def aq7 (Γ:Gm)(C:Nat->Addr)(s:lM)(H:Hp)(c:mO)(s':lM)(D:Ends):Prop :=
 ∀ C' H',Gr C s H C' s' H'->s.length<=s'.length->Rp Γ C' H' s'->cv5 Γ C' H' s'.length D c
def TSv (Γ:Gm)(m:lP->lM->lQ mO):TS:=λ D W H=>∃ C U s c s',RE Γ C H s.length U W/\Rp Γ C H s/\m U s=.ok c s'/\aq7 Γ C s H c s' D
theorem PS.imp (h:PS X e t)(i:∀ D W H,t' D W H->t D W H):PS X e t':=λ y s W H Q I q=>h y s W H Q I (i Q W H q)
theorem PSs.imp (h:PSs X e t)(i:∀ D W H,t' D W H->t D W H):PSs X e t':=λ y s W H Q I q=>h y s W H Q I (i Q W H q)
theorem aq7.trans {D}(h:aq7 Γ C s H c s' D)(g:Gr C s H C1 s1 y)(l:s.length<=s1.length):aq7 Γ C1 s1 y c s' D :=
 λ C' H' g' G p=>h C' H' (g.trans g' l) (ao l G) p
theorem aq7.here {D}(h:aq7 Γ C s H c s D)(p:Rp Γ C H s):cv5 Γ C H s.length D c:=h C H (Gr.refl C s H) (ak _) p
variable {D:Ends} {W:St} {H:Hp}
theorem bG5 (y:∀ U s,m U s=.ok (.next U) s)(h:TSv Γ m D W H):cj1 D W H:=by
 obtain⟨C,U,s,c,s',E,R,e,q⟩:=h
 rw[y]at e;cases e
 exact q.here R W E
theorem cf0 (h:TSv Γ (λ U s=>(m U s).bind λ d s=>.ok (.ret d) s) D W H):cw1 (TEv Γ m) D W H:=by
 obtain⟨C,U,s,c,s',E,R,e,q⟩:=h
 obtain⟨x,s1,e1,e⟩:=aa0 e
 cases e
 exact⟨C,U,s,x,_,E,R,e1,λ v C1 y g1 l1 b1 r1 R1=>q C1 y g1 l1 R1 v b1 r1⟩
theorem bM0 (h:TSv Γ (λ U s=>(m U s).bind λ _ s=>.ok (.next U) s) D W H):ch1 (TEv Γ m) D W H:=by
 obtain⟨C,U,s,c,s',E,R,e,q⟩:=h
 obtain⟨x,s1,e1,e⟩:=aa0 e
 cases e
 exact⟨C,U,s,x,_,E,R,e1,λ v C1 y g1 l1 b1 r1 R1=>q C1 y g1 l1 R1 W (E.mono g1 l1)⟩
theorem bm2 (h:TSv Γ (λ U s=>(m U s).bind λ d s=>match mH U tg d with|some U=>.ok (.next U) s|none=>.B) D W H):bz8 (TEv Γ m) (gOf Γ.K tg) D W H:=by
 obtain⟨C,U,s,c,s',E,R,e,q⟩:=h
 obtain⟨x,s1,e1,e⟩:=aa0 e
 refine⟨C,U,s,x,s1,E,R,e1,λ v C1 G g1 l1 b1 r1 R1=>?_⟩
 cases hb:mH U tg x with
 | none=>rw[hb]at e;cases e
 | some U1 =>
  rw[hb]at e
  cases e
  exact bQ1 (E.mono g1 l1) r1 b1 hb λ W' y=>q C1 G g1 l1 R1 W' y
theorem br8 (h:TSv Γ (λ U s=>((m U s).bind λ l s=>mV (.J l) s).bind λ d s=>match mH U tg d with|some U=>.ok (.next U) s|none=>.B) D W H):bz8 (TFv Γ m) (gOf Γ.K tg) D W H :=
 bl5 (bm2 h)
def ca1 (Γ:Gm):cm2:=λ o i v H Q=>∃ C s x y d s',Rp Γ C H s/\RV Γ C H x o/\RV Γ C H y i/\RV Γ C H d v/\x.bnd s.length=true/\y.bnd s.length=true/\d.bnd s.length=true/\DV.setIx x y d s=.ok () s' /\
 ∀ C' H',Gr C s H C' s' H'->s.length<=s'.length->Rp Γ C' H' s'->Q H'
theorem bs2 (h:TSv Γ (λ U s=>(me U s).bind λ d s=>(mo U s).bind λ x s=>(mi U s).bind λ y s=>(DV.setIx x y d s).bind λ _ s=>.ok (.next U) s) D W H) :
  bz8 (TEv Γ me) (cv3 (TEv Γ mo) (TEv Γ mi) (ca1 Γ)) D W H:=by
 obtain⟨C,U,s,c,s',E,R,e,q⟩:=h
 obtain⟨d,s1,e1,e⟩:=aa0 e
 obtain⟨x,s2,e2,e⟩:=aa0 e
 obtain⟨y,s3,e3,e⟩:=aa0 e
 obtain⟨u,s4,e4,e⟩:=aa0 e
 cases e
 refine⟨C,U,s,d,s1,E,R,e1,λ v1 C1 H1 g1 l1 b1 r1 R1=>?_⟩
 refine⟨C1,U,s1,x,s2,E.mono g1 l1,R1,e2,λ v2 C2 H2 g2 G b2 r2 R2=>?_⟩
 have G2:=g1.trans g2 l1
 have L2:=ao l1 G
 refine⟨C2,U,s2,y,s3,E.mono G2 L2,R2,e3,λ v3 C3 H3 Y J b3 r3 R3=>?_⟩
 refine⟨C3,s3,x,y,d,_,R3,RV.mono Y x v2 b2 r2,r3,RV.mono (g2.trans Y G) d v1 b1 r1,zw J x b2,b3,zw (ao G J) d b1,e4,λ C4 H4 g4 l4 R4=>?_⟩
 have Z:=G2.trans Y L2
 have L3:=ao L2 J
 exact q C4 H4 (Z.trans g4 L3) (ao L3 l4) R4 W (E.mono (Z.trans g4 L3) (ao L3 l4))
theorem ci7 (hu:X.A.units+2<cLine):cq2 X (ca1 Γ):=by
 intro Y sh W H o i v ov iv u Q I ro ri rv h
 obtain⟨C,s,x,y,d,s',R,rx,ry,rd,bx,a0,bd,G,q⟩:=h
 cases x with
 | ref r =>
  have G:(match s[r]? with
   | some (.J l)=>(match y with
    | .int i=>(match mY l.length i with|some j=>DV.R.ok () (s.set r (.J (l.set j d)))|none=>.B)
    | _=>.B)
   | some (.dc l)=>if y.key&&decide (l.length<lU)then .ok () (s.set r (.dc (mG y d l)))else .B
   | _=>.B)=.ok () s':=G
  cases e:s[r]? with
  | none=>rw[e]at G;cases G
  | some ob =>
   rw[e]at G
   cases ob with
   | J l =>
    cases y with
    | int k =>
     have G:(match mY l.length k with|some j=>DV.R.ok () (s.set r (.J (l.set j d)))|none=>.B)=.ok () s':=G
     cases ej:mY l.length k with
     | none=>rw[ej]at G;cases G
     | some j =>
      rw[ej]at G
      cases G
      obtain⟨xs,h1,J⟩:=R.addr e
      have hb:lO s.length (l.set j d)=true:=ab7.mpr λ z hz=>by
       rcases fN hz with h|h
       .exact ab7.mp (by have:=R.wf r _ e;unfold lT at this;exact this) z h
       .subst h;exact bd
      refine bu9 Y sh W H o i v ov iv u Q I ro ri rv ⟨C r,xs,k,j,rx.refE,ry.intE,h1,?_,?_⟩
      .rw[J.length];exact ej
      .obtain⟨g,R'⟩:=R.set (o:=.J (l.set j d)) e rfl hb λ H' g e=>⟨_,e,RVL.monoW g _ _ hb (J.set j rd)⟩
       exact q _ _ g (by simp) R'
    | _=>exact fb G
   | dc l =>
    have G:(if y.key&&decide (l.length<lU)then DV.R.ok () (s.set r (.dc (mG y d l)))else .B)=.ok () s':=G
    split at G
    case isFalse=>exact fb G
    rename_i hc
    cases G
    rw[au]at hc
    obtain⟨k,hk⟩:=an9 hc.1
    have hlt:=of_decide_eq_true hc.2
    obtain⟨a1,h1,J⟩:=R.obj r _ e
    have ex:=rx.refE;subst ex
    cases ro
    have ey:=aQ5 hk ry;subst ey
    have hb:=bu2 (R.wf r _ e) a0 bd
    have Z:=by
     unfold lT at hb
     rw[au]at hb
     exact hb.2
    obtain⟨g,R'⟩:=R.set e rfl hb λ H' g e=>⟨_,e,RVD.monoW g _ _ Z (J.put keyOf_inj hk rd)⟩
    exact be5 hu I (cl4.k h1 (by rw[J.length];exact ar hlt qA)) ri rv λ s4 I4=>⟨_,I4,q _ _ g (by simp) R'⟩
   | _=>exact fb G
 | _=>exact fb G
theorem ct6 (h:TSv Γ (λ U s=>lX (mc U s) λ k s=>if k then G U s else J U s) D W H):cu4 (TTv Γ mc) (TSv Γ G) (TSv Γ J) D W H:=by
 obtain⟨C,U,s,d,s',E,R,y,q⟩:=h
 obtain⟨c,s1,e1,y⟩:=z0 y
 refine⟨C,U,s,c,s1,E,R,e1,λ C1 Y g1 l1 R1=>?_⟩
 cases c with
 | true =>
  rw[if_pos rfl]at y ⊢
  exact⟨C1,U,s1,d,s',E.mono g1 l1,R1,y,q.trans g1 l1⟩
 | false =>
  rw[if_neg aS]at y ⊢
  exact⟨C1,U,s1,d,s',E.mono g1 l1,R1,y,q.trans g1 l1⟩
theorem bX6 (h:TSv Γ (λ U s=>(J U s).bind λ c s=>match c with|.next U=>Z U s|c=>.ok c s) D W H):cw2 (TSv Γ J) (TSv Γ Z) D W H:=by
 obtain⟨C,U,s,c,s',E,R,y,q⟩:=h
 obtain⟨Y,s1,e1,y⟩:=aa0 y
 refine⟨C,U,s,Y,s1,E,R,e1,λ C1 G g1 l1 R1=>?_⟩
 cases Y with
 | next U1=>exact λ W1 E1=>⟨C1,U1,s1,c,s',E1,R1,y,q.trans g1 l1⟩
 | ret d=>cases y;exact q C1 G g1 l1 R1
 | cont U=>cases y;exact q C1 G g1 l1 R1
 | brk U=>cases y;exact q C1 G g1 l1 R1
theorem bz0 (h:TSv Γ (DV.whl mc J) D W H):bB6 (TTv Γ mc) (TSv Γ J) D W H:=by
 obtain⟨C,U,s,c,s',E,R,y,q⟩:=h
 unfold DV.whl at y
 split at y
 case isFalse=>exact fb y
 rename_i hn
 generalize hn.choose=n at y
 refine⟨λ n W H=>∃ C U s,RE Γ C H s.length U W/\Rp Γ C H s/\DV.jV mc J n U s=.ok c s'/\aq7 Γ C s H c s' D,⟨n,C,U,s,E,R,y,q⟩,?_⟩
 clear E R y q hn
 rintro n W H ⟨C,U,s,E,R,y,q⟩
 cases n with
 | zero=>exact fb y
 | succ n =>
  unfold DV.jV at y
  obtain⟨b,s1,e1,y⟩:=z0 y
  refine⟨C,U,s,b,s1,E,R,e1,λ C1 H1 g1 l1 R1=>?_⟩
  cases b with
  | false =>
   rw[if_neg aS]at y ⊢
   cases y
   exact q C1 H1 g1 l1 R1 W (E.mono g1 l1)
  | true =>
   rw[if_pos rfl]at y ⊢
   obtain⟨Z,s2,e2,y⟩:=aa0 y
   refine⟨_,λ W' H' w=>⟨n,dH n,w⟩,C1,U,s1,Z,s2,E.mono g1 l1,R1,e2,λ C2 H2 g2 l2 R2=>?_⟩
   have G:=g1.trans g2 l1
   have L:=ao l1 l2
   cases Z with
   | next U1=>exact λ W1 Y=>⟨C2,U1,s2,Y,R2,y,q.trans G L⟩
   | cont U1=>exact λ W1 Y=>⟨C2,U1,s2,Y,R2,y,q.trans G L⟩
   | ret d=>cases y;exact q C2 H2 G L R2
   | brk U=>cases y;exact q C2 H2 G L R2
theorem bW8 (h:TSv Γ (λ U s=>(mI U s).bind λ q s0=>nT (λ s=>mw s0 s q.src) (λ d U s=>match mH U tg d with
  | some U=>mb U s
  | none=>.B) q.its U s0) D W H):cu5 (TIv Γ mI) (gOf Γ.K tg) (TSv Γ mb) D W H:=by
 obtain⟨C,U,s,c,s',E,R,hm,k⟩:=h
 obtain⟨q,s0,e1,hm⟩:=aa0 hm
 refine⟨C,U,s,q,s0,E,R,e1,λ J C1 H1 g1 l1 b1 R1 wk=>?_⟩
 refine⟨λ i m W' H'=>∃ C' U' t,Gr C1 s0 H1 C' t H'/\Rp Γ C' H' t/\RE Γ C' H' t.length U' W'/\i<=q.its.length/\m=q.its.length - i /\
  nT (λ s=>mw s0 s q.src) (λ d U s=>match mH U tg d with
   | some U=>mb U s
   | none=>.B) (q.its.drop i) U' t=.ok c s',⟨q.its.length,?_⟩,?_⟩
 .exact⟨C1,U,s0,Gr.refl _ _ _,R1,E.mono g1 l1,c8 _,by simp,by rw[iq];exact hm⟩
 .rintro i m W' H' ⟨C',U',t,g,Z,E',hil,rfl,hc⟩
  have y:=g.le
  rcases lA i q.its.length with hlt|hge
  .have hd:=aj hlt
   rw[fM hlt]at hc
   unfold nT at hc
   split at hc
   case isFalse=>exact fb hc
   rename_i G
   obtain⟨a2,a0⟩:=(wk C' H' t g y Z G i).1 hlt
   refine .inr ⟨a2,_,λ W2 H2 n=>⟨q.its.length - (i+1),by omega,n⟩,λ x H2 a1=>?_⟩
   obtain⟨sm,rv⟩:=a0 x H2 a1
   obtain⟨g2,R2⟩:=Z.same sm
   have rd:=rv _ hd
   have bd:=zw y _ (ao7 b1 hd)
   obtain⟨c1,t3,hs,hc⟩:=aa0 hc
   cases hb:mH U' tg q.its[i]with
   | none=>rw[hb]at hs;cases hs
   | some U3 =>
    rw[hb]at hs
    refine bQ1 (E'.mono g2 (ak _)) rd bd hb λ W3 E3=>?_
    refine⟨C',U3,t,c1,t3,E3,R2,hs,λ C2 H4 g4 l4 Y=>?_⟩
    have G4:=(g.trans g2 y).trans g4 y
    have L4:=ao y l4
    have GG:=g1.trans G4 l1
    cases c1 with
    | next U1=>exact λ W1 E1=>⟨C2,U1,t3,G4,Y,E1,hlt,rfl,hc⟩
    | cont U1=>exact λ W1 E1=>⟨C2,U1,t3,G4,Y,E1,hlt,rfl,hc⟩
    | ret d=>cases hc;exact k C2 H4 GG (ao l1 L4) Y
    | brk U=>cases hc;exact k C2 H4 GG (ao l1 L4) Y
  .rw[gS hge]at hc
   unfold nT at hc
   split at hc
   case isFalse=>exact fb hc
   rename_i G
   cases hc
   exact .inl ⟨(wk C' H' s' g y Z G i).2 hge,k C' H' (g1.trans g l1) (ao l1 y) Z W' E'⟩
structure Ck where
 N:List Str
 sc:Scope
 lk:String->List Nat->Expr->Bool
noncomputable abbrev ck0 (N:yH)(sc:Scope):Ck:=⟨N,sc,λ _ _ _=>false⟩
noncomputable def Ck.vis (c:Ck)(x:Str):Bool:=match c.sc.names.lookup x with|some .local=>true|some .cell=>true|some .free=>true|_=>false
noncomputable def Ck.loc (c:Ck)(x:Str):Bool:=match c.sc.names.lookup x with|some .local=>true|some .cell=>true|_=>false
noncomputable def Ck.gl (c:Ck)(x:Str):Bool:=(match c.sc.names.lookup x with|some .globalImplicit=>true|_=>false)&&!(x==("__debug__"))&&!decide (x=("__name__"))
noncomputable def Ck.var (c:Ck)(i:Nat)(x:Str):Bool:=decide (c.N[i]?=some x)&&c.vis x&&!(x==("__debug__"))&&!(x==("__classdict__"))
noncomputable def shp:Expr->Bool
 | .Starred ..=>false
 | .Set ..=>false
 | .SetComp ..=>false
 | .DictComp ..=>false
 | .GeneratorExp ..=>false
 | .Slice ..=>false
 | .NamedExpr ..=>false
 | _=>true
noncomputable def aE6:Expr->Bool
 | .ListComp ..=>false
 | .SetComp ..=>false
 | .DictComp ..=>false
 | _=>true
noncomputable def cf4:Expr->Bool
 | .Tuple ..=>false
 | _=>true
noncomputable def ct2:Expr->Bool
 | .Call _ [] [] _=>false
 | _=>true
noncomputable def mC:DV.Cn->Const->Bool
 | .N,.none=>true
 | .T b,.bool c=>b==c
 | .int i,.int j=>decide (i=j)
 | .str x,.str y=>decide (y=⟨x.toArray⟩)&&decide (x.length<=1000)
 | _,_=>false
noncomputable def cl7 (ck:Ck):List Nat->List Expr->Bool
 | [],[]=>true
 | i::is,.Name x _::es=>decide (ck.N[i]?=some x)&&ck.loc x&&cl7 ck is es
 | _,_=>false
def mTg (ck:Ck):mM->Expr->Bool
 | .Y i,.Name x _=>decide (ck.N[i]?=some x)&&ck.loc x
 | .tp is,.Tuple es _ _=>cl7 ck is es
 | _,_=>false
noncomputable def tgN:Expr->List Str
 | .Name x _=>[x]
 | .Tuple es _ _=>es.filterMap λ e=>match e with|.Name x _=>some x|_=>none
 | _=>[]
structure ItT where
 x:Str
 y:Str
 ob:Expr
 sc:Scope
 p1:Pos
 p2:Pos
 p3:Pos
 p4:Pos
 p5:Pos
 p6:Pos
 p7:Pos
 k1:Nat
 k2:Nat
 ap:Pos
 cp:Pos
 pos:Pos
noncomputable def ItT.tg (q:ItT):Expr:=.Tuple [.Name q.x q.p5,.Name q.y q.p6] q.k2 q.p7
noncomputable def ItT.it (q:ItT):Expr:=.Call (.Attribute q.ob "items" q.ap) [] [] q.cp
noncomputable def ItT.text (q:ItT):Expr:=.ListComp (.BinOp (.Name q.x q.p1) .Add (.Tuple [.Name q.y q.p2] q.k1 q.p3) q.p4) [⟨q.tg,q.it,[],0⟩] q.sc q.pos
def ckC (ck:Ck)(tgt:Expr)(caps:yD)(scope:Scope):Ck:=⟨tgN tgt++(caps.filterMap id).map λ j=>ck.N.getD j "",scope,λ _ _ _=>false⟩
def aW6 (ck:Ck)(tg:mM)(tgt iter:Expr)(caps:yD)(scope:Scope):Bool :=
 qB (ckC ck tgt caps scope).N caps scope ck.N ck.sc&&decide ((ckC ck tgt caps scope).N.Nodup)&&mTg (ckC ck tgt caps scope) tg tgt&&shp iter
noncomputable def cf2:Expr->Bool
 | .Tuple ..=>true
 | _=>false
noncomputable def biT:mK->Option Str
 | .len=>some "len" | .abs=>some "abs" | .min2=>some "min" | .max2=>some "max" | .max3=>some "max" | .int=>some "int" | .str=>some "str" | _=>none
noncomputable def biK:mK->Option (Nat×Str)
 | .isInt=>some (1, "int")|.isBool=>some (2, "bool")|.isStr=>some (3, "str")|.isTup=>some (4, "tuple")|.isList=>some (5, "list")|_=>none
noncomputable def mkT:nI->Option Str
 | .tuple=>some "tuple" | .list=>some "list" | _=>none
noncomputable def mkF:nI->Option Str
 | .min=>some "min" | _=>none
noncomputable def mtT:nJ->Option (Str×Nat)
 | .append=>some ("append",1)|_=>none
noncomputable def bt7:m8->Bool
 | .nil=>false
 | .ex _ as=>bt7 as
 | .lam _ _ _=>true
 | .fn _ as=>bt7 as
def cl1 (ck:Ck)(b:mK)(x:Str)(xs:yK)(m1 m2:Bool):Bool:=match biK b with
 | some p=>(match xs with|[_,.Name y _]=>decide (x=("isinstance"))&&ck.gl x&&decide (y=p.2)&&ck.gl y&&m2|_=>false)
 | none=>(match xs with|_::_=>decide (biT b=some x)&&ck.gl x&&m1|[]=>false)
noncomputable def lamArgs:bp->Option (List Str)
 | ⟨[],args,none,[],[],none,[]⟩=>some (args.map (·.arg))
 | _=>none
mutual
noncomputable def mE (ck:Ck):ni->Expr->Bool
 | .X i,E=>match E with|.Name x _=>ck.var i x|_=>false
 | .K c,E=>match E with|.Constant v _ _=>mC c v|_=>false
 | .gl g,E=>match E with|.Name x _=>decide (x=(g:Str))&&ck.gl x|_=>false
 | .G op a b,E=>match E with|.BinOp l o r _=>decide (o=cq0 op)&&mE ck a l&&mE ck b r|_=>false
 | .neg a,E=>match E with|.UnaryOp .USub l _=>mE ck a l|_=>false
 | .not a,E=>match E with|.UnaryOp .Not l _=>mE ck a l|_=>false
 | .Z op a b,E=>match E with|.Compare l [o] [r] _=>decide (o=au3 op)&&mE ck a l&&mE ck b r|_=>false
 | .chain o p a b c,E=>match E with|.Compare l [o1,o2] [m,r] _=>decide (o1=au3 o)&&decide (o2=au3 p)&&mE ck a l&&mE ck b m&&mE ck c r|_=>false
 | .isN a,E=>match E with|.Compare l [.Is] [.Constant .none _ _] _=>mE ck a l|_=>false
 | .notN a,E=>match E with|.Compare l [.IsNot] [.Constant .none _ _] _=>mE ck a l|_=>false
 | .and a b,E=>match E with
  | .BoolOp .And [l,r] _=>mE ck a l&&mE ck b r
  | .BoolOp .And (l::m::r::es) p=>mE ck a l&&mE ck b (.BoolOp .And (m::r::es) p)
  | _=>false
 | .or a b,E=>match E with
  | .BoolOp .Or [l,r] _=>mE ck a l&&mE ck b r
  | .BoolOp .Or (l::m::r::es) p=>mE ck a l&&mE ck b (.BoolOp .Or (m::r::es) p)
  | _=>false
 | .ite c a b,E=>match E with|.IfExp t l r _=>mE ck c t&&mE ck a l&&mE ck b r|_=>false
 | .tp es,E=>match E with|.Tuple xs _ _=>mEs ck es xs&&decide (xs.length<=1000)|_=>false
 | .J es,E=>match E with|.List xs _=>mEs ck es xs&&decide (xs.length<=1000)|_=>false
 | .dc ks vs,E=>match E with|.Dict a b _=>(match a,b with|[],[]=>mEs ck ks []&&mEs ck vs []|[some x],[y]=>mEs ck ks [x]&&mEs ck vs [y]|_,_=>false)|_=>false
 | .slU a hi,E=>match E with|.Subscript o (.Slice none (some h) none _) _=>mE ck a o&&mE ck hi h|_=>false
 | .ix a b,E=>match E with|.Subscript o i _=>mE ck a o&&mE ck b i|_=>false
 | .call f as,E=>match E with|.Call (.Name x _) xs [] _=>decide (x=(f:Str))&&ck.gl x&&mAs ck as xs|_=>false
 | .callC f as,E=>match E with|.Call (.Name x _) (y::ys) [] _=>decide (x=(f:Str))&&ck.gl x&&bt7 as&&bU6 ck as (y::ys)|_=>false
 | .callV i es,E=>match E with|.Call (.Name x _) (y::ys) [] _=>ck.var i x&&mEs ck es (y::ys)|_=>false
 | .bi b es,E=>match E with|.Call (.Name x _) xs [] _=>cl1 ck b x xs (mEs ck es xs) (mEs ck es (xs.take 1))|_=>false
 | .mk k l,E=>match E with
  | .Call (.Name x _) [a] [] _=>ck.gl x&&shp a&&((decide (mkT k=some x)&&mL ck 2 l a)||(decide (mkF k=some x)&&mL ck 1 l a))
  | .ListComp e gs sc p=>decide (k=.list)&&mL ck 0 l (.ListComp e gs sc p)
  | _=>false
 | .mkD k l d,E=>match E with
  | .Call (.Name x _) [a] [⟨some y,de,_⟩] _=>(decide (k=.min)&&decide (x=("min":Str)))&&decide (y=("default":Str))&&ck.gl x&&shp a&&mL ck 1 l a&&mE ck d de
  | _=>false
 | .me m o es,E=>match E with
  | .Call (.Attribute ob x ap) xs [] cp=>decide (mtT m=some (x,xs.length))&&ct2 ob&&(ap.endLine==cp.line)&&mE ck o ob&&mEs ck es xs
  | _=>false
noncomputable def mEs (ck:Ck):mq->List Expr->Bool
 | .nil,xs=>match xs with|[]=>true|_=>false
 | .cons e es,xs=>match xs with|x::xs=>mE ck e x&&shp x&&mEs ck es xs|_=>false
noncomputable def mFs (ck:Ck):mq->List Expr->Bool
 | .nil,xs=>match xs with|[]=>true|_=>false
 | .cons e es,xs=>match xs with
  | .FormattedValue v c none _::xs=>decide (c=-1)&&mE ck e v&&mFs ck es xs
  | .Constant v j p::xs=>mE ck e (.Constant v j p)&&mFs ck es xs
  | _=>false
noncomputable def mAs (ck:Ck):m8->List Expr->Bool
 | .nil,xs=>match xs with|[]=>true|_=>false
 | .ex e es,xs=>match xs with|x::xs=>mE ck e x&&shp x&&mAs ck es xs|_=>false
 | .lam _ _ _,_=>false
 | .fn _ _,_=>false
noncomputable def bU6 (ck:Ck):m8->List Expr->Bool
 | .nil,xs=>match xs with|[]=>true|_=>false
 | .ex e es,xs=>match xs with|x::xs=>mE ck e x&&shp x&&bU6 ck es xs|_=>false
 | .lam id caps es,xs=>match xs with|x::xs=>ck.lk id caps x&&shp x&&bU6 ck es xs|_=>false
 | .fn _ _,_=>false
noncomputable def mI (ck:Ck)(tgt:Expr):DV.I->Expr->Bool
 | .rg a,E=>match E with|.Call (.Name x _) [l] [] _=>decide (x=("range":Str))&&ck.gl x&&mE ck a l&&shp l|_=>false
 | .seq e,x=>mE ck e x&&shp x
 | .zip (.seq a) (.seq b),E=>match E with|.Call (.Name x _) [l,r] [] _=>decide (x=("zip":Str))&&ck.gl x&&mE ck a l&&shp l&&mE ck b r&&shp r&&cf2 tgt|_=>false
 | .zip _ _,_=>false
noncomputable def mL (ck:Ck)(k:Nat):DV.L->Expr->Bool
 | .comp tg it e caps,E=>match E with|.ListComp elt [⟨tgt,iter,[],z⟩] scope _=>decide (z=0)&&aW6 ck tg tgt iter caps scope&&mI ck tgt it iter&&mE (ckC ck tgt caps scope) e elt|_=>false
 | .compIf tg it c e caps,E=>match E with|.ListComp elt [⟨tgt,iter,[i],z⟩] scope _=>decide (z=0)&&aW6 ck tg tgt iter caps scope&&mI ck tgt it iter&&mE (ckC ck tgt caps scope) c i&&mE (ckC ck tgt caps scope) e elt|_=>false
 | .disp es,E=>match E with|.List xs _=>decide (1<=k)&&mEs ck es xs&&decide (xs.length<=1000)|_=>false
 | .seq e,x=>decide (k=2)&&mE ck e x
end
theorem ff {p:Prop}(h:false=true):p:=Bool.noConfusion h
noncomputable def bI9:bp->Bool
 | ⟨[], args, none, [], [], none, []⟩ => args.all λ y => y.annotation.isNone
 | _=>false
noncomputable def ct8:List Stmt->Option (Str×bp×Expr×Pos×Scope×Pos×List Stmt)
 | .FunctionDef nm params [.Return (some b) rp] [] none [] scope none nm' pos::xs=>if nm'=nm then some (nm,params,b,rp,scope,pos,xs)else none
 | _=>none
noncomputable def cw6 (nm:Str):List Stmt->Option (Str×Pos×Expr×Pos×Pos×Pos)
 | [.Return (some (.Call (.Name g gp) [a,.Name x p2] [] cp)) rp2]=>if x=nm then some (g,gp,a,p2,cp,rp2)else none
 | _=>none
noncomputable def cs3:n4->nr->Option (Nat×String×ni×String×List Nat)
 | .und i,.cons (.ret (.callC g (.ex e (.lam id caps .nil)))) .nil=>some (i,g,e,id,caps)
 | _,_=>none
def cf8 (ck:Ck)(s:n4)(ss:nr)(S:yL):Bool :=
 (cs3 s ss).any λ d=>(ct8 S).any λ q=>(cw6 q.1 q.2.2.2.2.2.2).any λ r =>
  decide (ck.N[d.1]?=some q.1)&&ck.loc q.1&&ck.var d.1 q.1&&ck.lk d.2.2.2.1 d.2.2.2.2 (.NamedExpr (.Name q.1 q.2.2.2.1) (.Lambda q.2.1 q.2.2.1 q.2.2.2.2.1 q.2.2.2.2.2.1) q.2.2.2.2.2.1)&&decide (r.1=(d.2.1))&&ck.gl r.1&&mE ck d.2.2.1 r.2.2.1&&shp r.2.2.1&&bI9 q.2.1
mutual
noncomputable def mS (ck:Ck):n4->Stmt->Bool
 | .A tg e,S=>match S with
  | .Assign [t] v _=>mTg ck tg t&&mE ck e v&&(match tg with|.Y _=>true|.tp _=>cf4 v&&aE6 v)
  | _=>false
 | .setIx o i e,S=>match S with|.Assign [.Subscript ob ix _] v _=>mE ck o ob&&mE ck i ix&&mE ck e v&&aE6 v|_=>false
 | .ex e,S=>match S with|.Expr v _=>mE ck e v&&aE6 v|_=>false
 | .ret e,S=>match S with|.Return (some v) _=>mE ck e v|_=>false
 | .ite c a b,S=>match S with|.If t l r _=>mE ck c t&&mSs ck a l&&mSs ck b r|_=>false
 | .whl c b,S=>match S with|.While t l [] _=>mE ck c t&&mSs ck b l|_=>false
 | .fo tg it b,S=>match S with|.For tgt iter l [] _=>mTg ck tg tgt&&mI ck tgt it iter&&mSs ck b l|_=>false
 | .raise,_=>true
 | .und _,_=>false
noncomputable def mSs (ck:Ck):nr->List Stmt->Bool
 | .nil,xs=>match xs with|[]=>true|_=>false
 | .cons s ss,xs=>match xs with|x::xs=>cf8 ck s ss (x::xs)||(mS ck s x&&mSs ck ss xs)|_=>false
end
theorem aF8 (h:mE y e E=true):shp E=true:=by
 cases E<;>first|rfl|(exfalso;cases e<;>exact ff h)
theorem ci8 (h:mI G y e E=true):shp E=true:=by
 cases e with
 | seq e=>have h:(mE G e E&&shp E)=true:=h;rw[au]at h;exact h.2
 | zip a b=>cases E<;>first|rfl|(exfalso;cases a<;>first|exact ff h|(cases b<;>exact ff h))
 | _=>cases E<;>first|rfl|exact ff h
theorem zq {es:yK}(h:shp e=true):bu (e::es) env=(false,eval e env)::bu es env:=by
 cases e<;>first|rfl|cases h
theorem zY :∀ {es:yK},(∀ e∈es,shp e=true)->(d7 pos (bu es env)).any (·.1)=false/\(d7 pos (bu es env)).all (λ x=>!x.1)=true
 | [],_=>⟨rfl,rfl⟩
 | e::es,h=>by
  have G:=zq (es:=es) (env:=env) (h e (aG ..))
  obtain⟨y,h3⟩:=zY (env:=env) (pos:=pos) λ x hx=>h x (aE _ hx)
  rw[G]
  unfold d7 at y h3 ⊢
  simp only[aM,gk,dP,y,h3]
  exact⟨rfl,rfl⟩
theorem aM0 (h:shp e=true) x :dw e env x=pure x:=by
 cases e<;>first|rfl|cases h
theorem ap9 (h:shp e=true):cY op e=false:=by
 cases e<;>first|rfl|cases h
theorem ax3 (h:aE6 e=true):fx e t l env=pure false:=by
 cases e<;>first|rfl|cases h
theorem bh7 (h:ct2 e=true):ga e f env (eval e env)=eval e env:=by
 cases e with
 | Call g a k p =>
  cases g with
  | Name x p' =>
   cases a with
   | nil=>cases k with
    | nil=>cases h
    | cons _ _=>rfl
   | cons _ _=>rfl
  | _=>rfl
 | _=>rfl
theorem aW1 {es:yK}(h:cf4 e=true):iP [.Tuple es k p] e env=pure none:=by
 cases e<;>first|rfl|cases h
theorem aX3 :iP [.Subscript o i p] e env=pure none:=by
 cases e<;>rfl
theorem aV8 (h:shp e=true):bj6 e:=by
 intro o i
 cases e<;>first|rfl|cases h
def spV (Γ:Gm)(c:List lN->lM->lQ lN):Sp:=λ vs H Q _=>rCl Γ c vs H Q
noncomputable def bNames:List Str:=["len", "abs", "min", "max", "int", "isinstance", "bool", "str", "tuple", "list", "range", "sum", "all", "any", "sorted", "zip", "enumerate", "ord"]
def spL (Γ:Gm)(c:List lN->List lN->lM->lQ lN)(cap:List V):Sp:=λ vs H Q _=>∃ C s cs l d s',Rp Γ C H s/\RVL Γ C H l vs/\RVL Γ C H cs cap/\lO s.length l=true/\lO s.length cs=true/\c cs l s=.ok d s'/\ag8 Γ C s H d s' Q
noncomputable def LamI.own (J:LamI):Str:=match J.nm with|none => "<lambda>" | some p=>p.1
noncomputable def lamText (J:LamI)(params:bp)(body:Expr)(scope:Scope)(pos:Pos):Expr:=match J.nm with
 | none=>.Lambda params body scope pos
 | some p=>.NamedExpr (.Name p.1 p.2) (.Lambda params body scope pos) pos
structure LamHere (Γ:Gm)(X:Cx)(N:yH)(id:String)(caps:List Nat)(params:bp)(body:Expr)(scope:Scope)(c P:Addr)(J:LamI):Prop where
 code:X.env.code=.ref c
 hd:bS X.base c P
 bm:BM X.mg X.base
 ck:lamCheck scope X.env.scope=true
 df:kU params X.env=([],[])
 lg:Γ.lg id J
 q:J.qual=X.env.qual++J.own
 p:J.params=params
 b:J.body=body
 s:J.scope=scope
 len:J.fr.length=caps.length
 at_:∀(i j:Nat) (x:Str),caps[i]?=some j->J.fr[i]?=some x->N[j]?=some x
 fr:∀ x∈J.fr,scope.names.lookup x=some .free
 cl:∀ x,scope.names.lookup x=some .free->∃ c,X.env.cells.lookup x=some c
 tab:(P,J.qual)∈Γ.T
 nd:(Γ.T.map (·.1)).Nodup
 fn:∀ x,X.fn x=true
 kd:∀ x c,X.env.cells.lookup x=some c->X.env.kindOf x=some .cell\/X.env.kindOf x=some .free
 gs:LamScope (J.ps++J.fr) J.ps J.fr J.scope
 gp:lamArgs J.params=some J.ps
 gb:∀(clos:yB) (pm:Value) (c':Addr) (ctv:Value) (us:yG),us.length=J.ps.length->ee (bR "<lambda>" J.qual J.params J.body J.scope clos pm (.ref c') ctv) ⟨us,[]⟩=pure (J.ps.zip us)
noncomputable def strD (kvs:List (List Nat×List Nat)):List (PyData×PyData):=kvs.map λ p=>(.str ⟨p.1.toArray⟩,.str ⟨p.2.toArray⟩)
structure CG (Γ:Gm)(F:lZ)(n:Nat)(X:Cx)(ck:Ck):Prop where
 K:X.K=Γ.K
 N:X.N=ck.N
 nd:ck.N.Nodup
 xe:X.xe=λ _ _=>False
 calm:X.calm=true
 deep:lY+1<=n
 room:Room n X.A
 sc:∀ x k,ck.sc.names.lookup x=some k->X.env.scope.names.lookup x=some k\/(k=.free/\X.env.scope.names.lookup x=some .cell)
 fn:∀ x,ck.sc.names.lookup x=some .cell->X.fn x=true
 bi:∀ x∈bNames,X.mg x=none
 call:∀ f:String,(∀ l s,F.call f l s=.B)\/∃ a fd ps,FnOk X.prog X.w X.K X.mg X.base CX0 n a fd ps (spV Γ (F.call f))/\X.mg (f:Str)=some (.ref a)/\cE X.K (.ref a)=true/\Binds X.K fd ps []
 con:∀ x d,F.con x=some d->∃ v u,X.mg (x:Str)=some u/\RelV v u/\(∀ m,d.bnd m=true)/\∀ C H,RV Γ C H d v
 lam:∀ id caps E,ck.lk id caps E=true->∃ c P params body scope pos J,E=lamText J params body scope pos/\LamHere Γ X ck.N id caps params body scope c P J
 cl:∀(id:String) (J:LamI) (f:Addr) (cap:List V) (clos:yB),Γ.lg id J->cap.length=J.fr.length->ClOk X.prog X.w X.K X.mg X.base n (λ H=>CloAt H f J cap clos) f (spL Γ (F.lam id) cap)
 fa:∀(f:String) (a:Addr),Γ.fa f=some a->X.mg (f:Str)=some (.ref a)/\∃ oc od fd sl,X.K.lookup a=some ⟨oc,od,.func fd,sl⟩
 fk:DV.FK F
 cdc:∀ c kvs,F.cdc c=some kvs->∃ a,X.mg (c:Str)=some (.ref a)/\∀ h:Heap,X.K.In h->StrTab X.prog X.w h a (strD kvs)
section
variable {Γ:Gm} {F:lZ} {n:Nat} {X:Cx} {ck:Ck}
theorem CG.vis (G:CG Γ F n X ck)(h:ck.vis x=true):Vis X.env.scope x:=by
 unfold Ck.vis at h
 split at h
 .rename_i e;rcases G.sc _ _ e with z|⟨z,_⟩
  .exact .inl z
  .cases z
 .rename_i e;rcases G.sc _ _ e with z|⟨z,_⟩
  .exact .inr (.inl z)
  .cases z
 .rename_i e;rcases G.sc _ _ e with z|⟨_,z⟩
  .exact .inr (.inr z)
  .exact .inr (.inl z)
 .cases h
theorem CG.loc (G:CG Γ F n X ck)(h:ck.loc x=true):Loc X.env.scope x/\(X.fn x=true\/X.env.scope.names.lookup x=some .local):=by
 unfold Ck.loc at h
 split at h
 .rename_i e;rcases G.sc _ _ e with z|⟨z,_⟩
  .exact⟨.inl z,.inr z⟩
  .cases z
 .rename_i e;rcases G.sc _ _ e with z|⟨z,_⟩
  .exact⟨.inr z,.inl (G.fn _ e)⟩
  .cases z
 .cases h
theorem CG.gl (G:CG Γ F n X ck)(h:ck.gl x=true):Gl X x/\(x==("__debug__"))=false/\x ≠ "__name__":=by
 unfold Ck.gl at h
 simp only[au,fY]at h
 obtain⟨⟨y,J⟩,h3⟩:=h
 refine⟨?_,J,of_decide_eq_false h3⟩
 split at y
 .rename_i e;rcases G.sc _ _ e with z|⟨z,_⟩
  .exact z
  .cases z
 .cases y
theorem bA8 (G:CG Γ F n X ck):∀ {is} {es:yK},cl7 ck is es=true->PGs X es (cl6 is)/\(cN es X.env).length=is.length/\(cN es X.env).findIdx? (·.1)=none
 | [],[],_=>⟨bR5,rfl,rfl⟩
 | [],_::_,h=>by cases h
 | i::is,[],h=>by cases h
 | i::is,e::es,h=>by
  cases e with
  | Name x p =>
   unfold cl7 at h
   simp only[au,decide_eq_true_eq]at h
   obtain⟨⟨J,Y⟩,h3⟩:=h
   obtain⟨l1,y⟩:=G.loc Y
   obtain⟨a,b,c⟩:=bA8 G h3
   have hs:cN (.Name x p::es) X.env=(false,gE (.Name x p) X.env)::cN es X.env:=rfl
   refine⟨bw3 (bb4 (by rw[G.N];exact G.nd) (by rw[G.N];exact J) l1 y) a (by rw[hs];rfl),by rw[hs,aR,aR,b],?_⟩
   rw[hs,List.findIdx?_cons]
   simp[c]
  | _=>cases h
theorem bG1 (G:CG Γ F n X ck)(h:mTg ck tg e=true):PG X e (gOf Γ.K tg):=by
 unfold mTg at h
 split at h
 .simp only[au,decide_eq_true_eq]at h
  obtain⟨l1,y⟩:=G.loc h.2
  exact bb4 (by rw[G.N];exact G.nd) (by rw[G.N];exact h.1) l1 y
 .obtain⟨a,b,c⟩:=bA8 G h
  exact bQ8 G.K G.calm a b c
 .cases h
theorem CG.comp (G:CG Γ F n X ck)(h:aW6 ck tg Y iter J scope=true) :
  qB (ckC ck Y J scope).N J scope X.N X.env.scope=true/\shp iter=true /\
  ∀(Cc:Addr) (cells:yB) (s:ah) (H:Hp) (ex:List Addr),CG Γ F n (z9 X (ckC ck Y J scope).N scope Cc cells s H ex) (ckC ck Y J scope)/\PG (z9 X (ckC ck Y J scope).N scope Cc cells s H ex) Y (gOf Γ.K tg):=by
 unfold aW6 at h
 simp only[au,decide_eq_true_eq]at h
 obtain⟨⟨⟨Z,h2⟩,h3⟩,h4⟩:=h
 refine⟨?_,h4,λ Cc cells s H ex=>?_⟩
 .rw[G.N]
  unfold qB at Z ⊢
  simp only[au]at Z ⊢
  obtain⟨⟨⟨⟨⟨a1,a2⟩,a3⟩,a4⟩,a5⟩,a6⟩:=Z
  refine⟨⟨⟨⟨⟨a1,?_⟩,a3⟩,a4⟩,a5⟩,a6⟩
  rw[aX]at a2 ⊢
  intro y hy
  have:=a2 y hy
  rw[bT]at this ⊢
  rcases this with q|q
  .exact .inl q
  .right
   rw[bT]at q ⊢
   rcases q with q|q
   .rcases G.sc _ _ (eq_of_beq q)with z|⟨z,_⟩
    .left;rw[z];exact beq_self_eq_true _
    .cases z
   .rcases G.sc _ _ (eq_of_beq q)with z|⟨_,z⟩
    .right;rw[z];exact beq_self_eq_true _
    .left;rw[z];exact beq_self_eq_true _
 .have G':CG Γ F n (z9 X (ckC ck Y J scope).N scope Cc cells s H ex) (ckC ck Y J scope):=by
   refine⟨G.K,rfl,h2,rfl,G.calm,G.deep,G.room,λ x k e=>?_,λ x e=>?_,G.bi,G.call,G.con,λ _ _ _ h=>(by cases h),G.cl,G.fa,G.fk,G.cdc⟩
   .have q:=jf (env:=X.env) e
    have q':(eP scope X.env).names.lookup x=some (if(k==NameKind.free&&X.env.scope.kind==.function&&X.env.kindOf x==some .cell)then NameKind.cell else k):=q
    show(eP scope X.env).names.lookup x=some k\/_
    rw[q']
    split
    .rename_i hc
     simp only[au]at hc
     exact .inr ⟨eq_of_beq hc.1.1,rfl⟩
    .exact .inl rfl
   .show(scope.names.lookup x==some .cell)=true
    rw[show scope.names.lookup x=some .cell from e];rfl
  exact⟨G',bG1 G' h3⟩
end
section
variable {Γ:Gm} {F:lZ} {n:Nat} {X:Cx} {ck:Ck} {W:St} {H:Hp} {Q:VK}
theorem TEv.eq (e:∀ U s,m U s=m' U s)(q:TEv Γ m W H Q):TEv Γ m' W H Q:=by
 have:=funext λ U=>funext λ s=>e U s
 subst this;exact q
theorem TTv.eq {Q}(e:∀ U s,m U s=m' U s)(q:TTv Γ m W H Q):TTv Γ m' W H Q:=by
 have:=funext λ U=>funext λ s=>e U s
 subst this;exact q
theorem TAv.eq {Q}(e:∀ U s,m U s=m' U s)(q:TAv Γ m W H Q):TAv Γ m' W H Q:=by
 have:=funext λ U=>funext λ s=>e U s
 subst this;exact q
theorem TFv.eq (e:∀ U s,m U s=m' U s)(q:TFv Γ m W H Q):TFv Γ m' W H Q:=by
 have:=funext λ U=>funext λ s=>e U s
 subst this;exact q
theorem TIv.eq (e:∀ U s,m U s=m' U s)(q:TIv Γ m W H R):TIv Γ m' W H R:=by
 have:=funext λ U=>funext λ s=>e U s
 subst this;exact q
theorem TSv.eq (e:∀ U s,m U s=m' U s)(q:TSv Γ m D W H):TSv Γ m' D W H:=by
 have:=funext λ U=>funext λ s=>e U s
 subst this;exact q
def EvT (Γ:Gm)(X:Cx)(E:Expr)(m:lP->lM->lQ lN):Prop:=PE X E (TEv Γ m)/\PT X E (TTv Γ m)
theorem EvT.val (h:PE X E (TEv Γ m))(G:∀ y,dU E X.env y=(do let v <- y;standAt E.pos;jZ [v] (truthy v)):=by intro _;rfl):EvT Γ X E m :=
 ⟨h,(ca8 h G).imp λ W H Q q=>aT7 q⟩
theorem bs4 (hc:PT X c Z)(ha:PT X a tb)(hb:PT X b J):PT X (.IfExp c a b pos) (λ W H Q=>Z W H λ k G=>if k=true then tb W G Q else J W G Q):=by
 intro y s W H Q I h
 have e:dU (.IfExp c a b pos) X.env (eval (.IfExp c a b pos) X.env)=(do if <- dU c X.env (eval c X.env)then dU a X.env (eval a X.env)else dU b X.env (eval b X.env)):=by rw[dU]
 rw[e]
 refine ae (thn (hc y s W H _ I h) λ k s1 ⟨G,Y,q1⟩=>?_)
 cases k with
 | true=>exact ha y s1 W G Q Y q1
 | false=>exact hb y s1 W G Q Y q1
theorem ce8 {Q}(h:TTv Γ (λ U s=>lX (mc U s) λ k s=>if k then J U s else Y U s) W H Q):TTv Γ mc W H λ k G=>if k=true then TTv Γ J W G Q else TTv Γ Y W G Q:=by
 obtain⟨C,U,s,d,s',E,R,y,q⟩:=h
 obtain⟨c,s1,e1,y⟩:=z0 y
 refine⟨C,U,s,c,s1,E,R,e1,λ C1 G g1 l1 R1=>?_⟩
 cases c with
 | true =>
  rw[if_pos rfl]at y ⊢
  exact⟨C1,U,s1,d,s',E.mono g1 l1,R1,y,q.trans g1 l1⟩
 | false =>
  rw[if_neg aS]at y ⊢
  exact⟨C1,U,s1,d,s',E.mono g1 l1,R1,y,q.trans g1 l1⟩
section
variable {a b c:ni} {l r t:Expr} {pos:Pos}
theorem bS0 (G:CG Γ F n X ck) op (ha:EvT Γ X l (lS F a))(hb:EvT Γ X r (lS F b)):EvT Γ X (.BinOp l (cq0 op) r pos) (lS F (.G op a b)) :=
 .val ((cq4 (bW7 G.K op) ha.1 hb.1).imp λ W H Q q=>bw0 (TEv.eq (λ U s=>rfl) q))
theorem bT1 (ha:EvT Γ X l (lS F a)):EvT Γ X (.UnaryOp .USub l pos) (lS F (.neg a)) :=
 .val ((co0 ck4 ha.1).imp λ W H Q q=>cp2 (TEv.eq (λ U s=>rfl) q) λ C s x d s' v H' R r y h k=>by
  cases x with
  | int i =>
   cases h
   exact⟨i,r.intE,k.here R rfl RV.intI⟩
  | _=>cases h)
theorem bO7 (ha:EvT Γ X l (lS F a)):EvT Γ X (.UnaryOp .Not l pos) (lS F (.not a)) :=
 ⟨(cd2 ha.1).imp λ W H Q q=>bV4 (TEv.eq (λ U s=>rfl) q),(cb8 ha.2).imp λ W H Q q=>cg1 (TTv.eq (λ U s=>rfl) q)⟩
theorem bJ4 (G:CG Γ F n X ck) op (hs:shp r=true)(ha:EvT Γ X l (lS F a))(hb:EvT Γ X r (lS F b)):EvT Γ X (.Compare l [au3 op] [r] pos) (lS F (.Z op a b)):=by
 have ho:=bh8 G.K (G.room.mono G.deep) op
 refine⟨(bP2 ho ha.1 hb.1 (ap9 hs)).imp λ W H Q q=>bw0 (TEv.eq (λ U s=>rfl) q),(bP0 ho ha.1 hb.1 (ap9 hs)).imp λ W H Q q=>?_⟩
 have q:=bm0 q
 exact bw0 (TEv.eq (λ U s=>rfl) q)
theorem bi6 (G:CG Γ F n X ck) o p (J:shp t=true)(ha:EvT Γ X l (lS F a))(hb:EvT Γ X r (lS F b))(hc:EvT Γ X t (lS F c)):EvT Γ X (.Compare l [au3 o,au3 p] [r,t] pos) (lS F (.chain o p a b c)):=by
 have ho:=bh8 G.K (G.room.mono G.deep) o
 have h:=bh8 G.K (G.room.mono G.deep) p
 have y:=by
  show cY (au3 p) t=false
  exact ap9 J
 refine⟨(br4 ho h ha.1 hb.1 hc.1 y).imp λ W H Q q=>aR0 (TEv.eq (λ U s=>rfl) q),(bw2 ho h ha.1 hb.1 hc.1 y).imp λ W H Q q=>?_⟩
 have q:=bm0 q
 exact aR0 (TEv.eq (λ U s=>rfl) q)
theorem RV.nonIff (r:RV Γ C H x v):decide (v=.N)=decide (x=.N):=by
 cases x with
 | N=>rw[r.nonE];rfl
 | T b=>rw[r.blE];rfl
 | int i=>rw[r.intE];rfl
 | str z=>rw[r.strE];rfl
 | tp l=>obtain⟨a,h,rfl,_⟩:=r.tupE;rfl
 | ref k=>rw[r.refE];rfl
 | fn f=>unfold RV at r;obtain⟨a,_,rfl⟩:=r;rfl
 | clo f cs=>unfold RV at r;obtain⟨f,_,_,_,rfl,_⟩:=r;rfl
theorem bS6 (ha:EvT Γ X l (lS F a)):EvT Γ X (.Compare l [.Is] [.Constant .none j pos'] pos) (lS F (.isN a)):=by
 have key:∀ W H Q,TEv Γ (lS F (.isN a)) W H Q->cv1 (TEv Γ (lS F a)) W H Q:=λ W H Q q=>by
  obtain⟨C,U,s,d,s',E,R,h,k⟩:=q
  obtain⟨x,s1,e1,h⟩:=aa0 h
  cases h
  refine⟨C,U,s,x,_,E,R,e1,λ v C1 y g1 l1 b1 r1 R1=>?_⟩
  show Q (.T (decide (v=.N))) y
  rw[r1.nonIff]
  exact k _ C1 y g1 l1 rfl RV.blI R1
 exact⟨(bF1 (bB0 ha.1)).imp key,(bD6 (bB0 ha.1)).imp λ W H Q q=>key _ _ _ (aT7 q)⟩
theorem bs7 (ha:EvT Γ X l (lS F a)):EvT Γ X (.Compare l [.IsNot] [.Constant .none j pos'] pos) (lS F (.notN a)):=by
 have key:∀ W H Q,TEv Γ (lS F (.notN a)) W H Q->bW3 (TEv Γ (lS F a)) W H Q:=λ W H Q q=>by
  obtain⟨C,U,s,d,s',E,R,h,k⟩:=q
  obtain⟨x,s1,e1,h⟩:=aa0 h
  cases h
  refine⟨C,U,s,x,_,E,R,e1,λ v C1 y g1 l1 b1 r1 R1=>?_⟩
  show Q (.T (!decide (v=.N))) y
  rw[r1.nonIff]
  exact k _ C1 y g1 l1 rfl RV.blI R1
 exact⟨(bF1 (bc6 ha.1)).imp key,(bD6 (bc6 ha.1)).imp λ W H Q q=>key _ _ _ (aT7 q)⟩
theorem bg1 {es:yK}{t}(h:PT X (.BoolOp op es pos) t):PW X (.BoolOp op es pos) t:=by
 intro G y s W H Q I q
 have:=h y s W H Q I q
 have e:∀ w,dU (.BoolOp op es pos) X.env w=allTrue op es X.env:=λ w=>by rw[dU]
 rw[e]at this ⊢
 exact this
theorem bK3 (ha:EvT Γ X l (lS F a))(hb:EvT Γ X r (lS F b)):EvT Γ X (.BoolOp .And [l,r] pos) (lS F (.and a b)) :=
 ⟨(bE1 ha.1 (bA7 hb.1)).imp λ W H Q q=>bD9 (TEv.eq (λ U s=>rfl) q),(bE3 ha.2 (bP3 hb.2)).pt.imp λ W H Q q=>bE0 (TTv.eq (λ U s=>rfl) q)⟩
theorem bM1 {es:yK}(ha:EvT Γ X l (lS F a))(hb:EvT Γ X (.BoolOp .And (r::es) pos) (lS F b)):EvT Γ X (.BoolOp .And (l::r::es) pos) (lS F (.and a b)) :=
 ⟨(bE1 ha.1 hb.1).imp λ W H Q q=>bD9 (TEv.eq (λ U s=>rfl) q),(bE3 ha.2 (bg1 hb.2)).pt.imp λ W H Q q=>bE0 (TTv.eq (λ U s=>rfl) q)⟩
theorem cg7 (ha:EvT Γ X l (lS F a))(hb:EvT Γ X r (lS F b)):EvT Γ X (.BoolOp .Or [l,r] pos) (lS F (.or a b)) :=
 ⟨(bY1 ha.1 (bA7 hb.1)).imp λ W H Q q=>bZ6 (TEv.eq (λ U s=>rfl) q),(cg2 ha.2 (cg5 hb.2)).pt.imp λ W H Q q=>bX4 (TTv.eq (λ U s=>rfl) q)⟩
theorem bX2 {es:yK}(ha:EvT Γ X l (lS F a))(hb:EvT Γ X (.BoolOp .Or (r::es) pos) (lS F b)):EvT Γ X (.BoolOp .Or (l::r::es) pos) (lS F (.or a b)) :=
 ⟨(bY1 ha.1 hb.1).imp λ W H Q q=>bZ6 (TEv.eq (λ U s=>rfl) q),(cg2 ha.2 (bg1 hb.2)).pt.imp λ W H Q q=>bX4 (TTv.eq (λ U s=>rfl) q)⟩
theorem bO0 (hc:EvT Γ X t (lS F c))(ha:EvT Γ X l (lS F a))(hb:EvT Γ X r (lS F b)):EvT Γ X (.IfExp t l r pos) (lS F (.ite c a b)) :=
 ⟨(bx8 hc.2 ha.1 hb.1).imp λ W H Q q=>cd8 (TEv.eq (λ U s=>rfl) q),(bs4 hc.2 ha.2 hb.2).imp λ W H Q q=>ce8 (TTv.eq (λ U s=>rfl) q)⟩
theorem bW4 (G:CG Γ F n X ck)(hs:shp r=true)(ha:EvT Γ X l (lS F a))(hb:EvT Γ X r (lS F b)):EvT Γ X (.Subscript l r pos) (lS F (.ix a b)) :=
 .val ((cq6 (co8 G.K (aQ1 G.room)) ha.1 hb.1 (aV8 hs)).imp λ W H Q q=>bw0 (TEv.eq (λ U s=>rfl) q))
theorem bK9 (G:CG Γ F n X ck)(ha:EvT Γ X l (lS F a))(hb:EvT Γ X r (lS F b)):EvT Γ X (.Subscript l (.Slice none (some r) none h) pos) (lS F (.slU a b)) :=
 .val ((bs0 (cr3 G.K) ha.1 bQ2 (bK2 hb.1)).imp λ W H Q q=>(cn5 (ml:=lS F b)).2.1 (TEv.eq (λ U s=>rfl) q))
end
end
section
variable {Γ:Gm} {F:lZ} {n:Nat} {X:Cx} {ck:Ck} {W:St} {H:Hp} {Q:VK}
theorem aB3:∀ {es} {U} {s s'} {l} {y:yK} {G},my F es U s=.ok l s'->mEs G es y=true->l.length=y.length
 | .nil,U,s,s',l,y,G,h,m=>by
  cases h
  cases y with
  | nil=>rfl
  | cons _ _=>rw[mEs]at m<;>first|cases m|(intros;simp_all)
 | .cons e es,U,s,s',l,y,G,h,m=>by
  obtain⟨d,s1,e1,h⟩:=aa0 h
  obtain⟨r,s2,e2,h⟩:=aa0 h
  cases h
  cases y with
  | nil=>rw[mEs]at m<;>first|cases m|(intros;simp_all)
  | cons x y =>
   rw[mEs,au]at m
   rw[aR,aR,aB3 e2 m.2]
theorem aC1:∀ {es} {G:yK},mEs ck es G=true->∀ x∈G,shp x=true
 | .nil,[],_,x,hx=>by cases hx
 | .nil,_::_,m,_,_=>by rw[mEs]at m<;>first|cases m|(intros;simp_all)
 | .cons e es,[],m,x,hx=>by cases hx
 | .cons e es,y::G,m,x,hx=>by
  rw[mEs,au,au]at m
  rcases aB.mp hx with h|h
  .rw[h];exact m.1.2
  .exact aC1 m.2 x h
theorem bo1:∀ {es} {G:yK},mAs ck es G=true->∀ x∈G,shp x=true
 | .nil,[],_,x,hx=>by cases hx
 | .nil,_::_,m,_,_=>by rw[mAs]at m<;>first|cases m|(intros;simp_all)
 | .ex e es,[],m,x,hx=>by cases hx
 | .lam _ _ _,_,m,_,_=>by rw[mAs]at m<;>first|cases m|(intros;simp_all)
 | .fn _ _,_,m,_,_=>by rw[mAs]at m<;>first|cases m|(intros;simp_all)
 | .ex e es,y::G,m,x,hx=>by
  rw[mAs,au,au]at m
  rcases aB.mp hx with h|h
  .rw[h];exact m.1.2
  .exact bo1 m.2 x h
theorem aU1 (hs:shp x=true)(G:PE X x (TEv Γ (lS F e)))(J:PA X h (TAv Γ y)) :
  PA X (x::h) (TAv Γ (λ U s=>(lS F e U s).bind λ d s=>(y U s).bind λ l s=>.ok (d::l) s)) :=
 (qi G J (zq hs)).imp λ W H Q q=>bS4 q
theorem aU3 (h:k<=1000):k<=aQ:=by rw[fQ];lia
theorem bR8 {y:yK}(m:mEs ck es y=true)(hz:y.length<=1000)(h:PA X y (TAv Γ (my F es))):EvT Γ X (.Tuple y k pos) (lS F (.tp es)) :=
 .val ((bZ2 h).imp λ W H Q q=>tv_tup' hz m q)
where
 tv_tup' {es} {y} {W} {H} {Q} (hz:y.length<=1000) (m:mEs ck es y=true) (q:TEv Γ (lS F (.tp es)) W H Q):cv9 (TAv Γ (my F es)) W H Q:=by
  obtain⟨C,U,s,d,s',E,R,G,q⟩:=q
  obtain⟨l,s1,e1,G⟩:=aa0 G
  cases G
  refine⟨C,U,s,l,_,E,R,e1,λ vs C1 Y g1 l1 b1 r1 R1=>⟨by rw[r1.length,aB3 e1 m];exact aU3 hz,λ p J=>?_⟩⟩
  exact(q.trans g1 l1).tup R1 r1 b1 J
theorem bU0 {y:yK}(m:mEs ck es y=true)(hz:y.length<=1000)(h:PA X y (TAv Γ (my F es))):EvT Γ X (.List y pos) (lS F (.J es)):=by
 refine .val ((bB3 h).imp λ W H Q q=>?_)
 obtain⟨C,U,s,d,s',E,R,G,q⟩:=q
 obtain⟨l,s1,e1,G⟩:=aa0 G
 obtain⟨rfl,rfl⟩:=qS G
 refine⟨C,U,s,l,_,E,R,e1,λ vs C1 Y g1 l1 b1 r1 R1=>⟨by rw[r1.length,aB3 e1 m];exact aU3 hz,λ p J=>?_⟩⟩
 exact(q.trans g1 l1).alloc R1 r1 b1 J
theorem bs6 {f:String}{Y:yK}(G:CG Γ F n X ck)(hg:ck.gl (f:Str)=true)(m:mAs ck y Y=true)(h:PA X Y (TAv Γ (nj F y))):EvT Γ X (.Call (.Name (f) p) Y [] pos) (lS F (.call f y)):=by
 refine .val ?_
 obtain⟨g1,g2,g3⟩:=G.gl hg
 rcases G.call f with hbad|⟨a,fd,ps,hF,J,hk,hb⟩
 .intro a0 s W H Q I q
  obtain⟨C,U,s,d,s',E,R,Z,q⟩:=q
  obtain⟨l,s1,e1,Z⟩:=aa0 Z
  rw[hbad]at Z
  cases Z
 have key:∀ W H Q,TEv Γ (lS F (.call f y)) W H Q->aX4 (spV Γ (F.call f)) [] E0 (TAv Γ (nj F y)) W H Q:=λ W H Q q=>by
  have:=aL2 (TEv.eq (λ U s=>rfl) q)
  unfold tCB at this
  unfold aX4 spV
  simpa only[bf]using this
 cases Y with
 | nil =>
  have h0:PE X (.Call (.Name (f) p) [] [] pos) (aX4 (spV Γ (F.call f)) [] E0 bq9):=bv1 hF G.room g1 J hk hb .nil bY5 g2
  cases y with
  | nil =>
   refine h0.imp λ W H Q q=>?_
   have q1:=key W H Q q
   unfold aX4 at q1 ⊢
   exact aR8 (TAv.eq (λ U s=>rfl) q1)
  | _=>rw[mAs]at m<;>first|cases m|(intros;simp_all)
 | cons x Y =>
  have hs:=bo1 m
  exact(bN1 hF G.room g1 J hk hb .nil bY5 h g2 (zq (hs x (aG ..))) (zY λ e he=>hs e (aE _ he)).1).imp key
def BiC (Γ:Gm)(X:Cx)(b:mK)(x:Str):Prop:=(∃ id,bz x=some (.builtin id)/\af9 X (.builtin id) (rCl Γ (nF b)))\/∃ T,bz x=some (.type T)/\af9 X (.type T) (rCl Γ (nF b))
theorem bV3 (G:CG Γ F n X ck){x:Str}(h:biT b=some x):x∈bNames/\BiC Γ X b x:=by
 cases b<;>first|cases h|skip
 .exact⟨by decide,.inl ⟨_,cs9,bg0 G.K G.calm (k:=1) rfl⟩⟩
 .exact⟨by decide,.inl ⟨_,cs2,bg0 G.K G.calm (k:=1) rfl⟩⟩
 .exact⟨by decide,.inr ⟨_,bV9,ck8⟩⟩
 .exact⟨by decide,.inr ⟨_,cb6,cj4⟩⟩
 .exact⟨by decide,.inl ⟨_,bP8,bg0 G.K G.calm (k:=2) rfl⟩⟩
 .exact⟨by decide,.inl ⟨_,bW5,bg0 G.K G.calm (k:=2) rfl⟩⟩
 .exact⟨by decide,.inl ⟨_,bW5,bg0 G.K G.calm (k:=3) rfl⟩⟩
theorem bY4 {J:yK}(G:CG Γ F n X ck)(hb:biT b=some x)(hg:ck.gl x=true)(m:mEs ck es (y::J)=true)(h:PA X (y::J) (TAv Γ (my F es))) :
  EvT Γ X (.Call (.Name x p) (y::J) [] pos) (lS F (.bi b es)):=by
 refine .val ?_
 obtain⟨g1,g2,g3⟩:=G.gl hg
 obtain⟨hm,hc⟩:=bV3 G hb
 have hs:=aC1 m
 have s1:=zq (es:=J) (env:=X.env) (hs y (aG ..))
 have s2:=(zY (env:=X.env) (pos:=pos) λ e he=>hs e (aE _ he)).1
 rcases hc with⟨id,Z,Y⟩|⟨T,Z,Y⟩
 .exact(az6 Y g1 (G.bi _ hm) Z h g3 g2 s1 s2).imp λ W H Q q=>aL2 (TEv.eq (λ U s=>rfl) q)
 .exact(as3 Y g1 (G.bi _ hm) Z h g3 g2 s1 s2).imp λ W H Q q=>aL2 (TEv.eq (λ U s=>rfl) q)
theorem ck5 (h:biK b=some (k,t)):(1<=k/\k<=5)/\t∈bNames/\bz t=some (.type (au0 k))/\nF b=nQ (nX k):=by
 cases b<;>cases h
 .exact⟨by lia,by decide,bV9,rfl⟩
 .exact⟨by lia,by decide,ci9,rfl⟩
 .exact⟨by lia,by decide,cb6,rfl⟩
 .exact⟨by lia,by decide,bf0,rfl⟩
 .exact⟨by lia,by decide,bB1,rfl⟩
def PEs (Γ:Gm)(F:lZ)(X:Cx):mq->List Expr->Prop
 | .nil,[]=>True
 | .cons e es,x::xs=>(shp x=true/\EvT Γ X x (lS F e))/\PEs Γ F X es xs
 | _,_=>False
theorem as8:∀ {es} {y:yK},PEs Γ F X es y->PA X y (TAv Γ (my F es))
 | .nil,[],_=>ah3.imp λ W H Q q=>aR8 (TAv.eq (λ U s=>rfl) q)
 | .nil,_::_,h=>h.elim
 | .cons _ _,[],h=>h.elim
 | .cons e es,x::y,h=>(aU1 h.1.1 h.1.2.1 (as8 h.2)).imp λ W H Q q=>TAv.eq (λ U s=>rfl) q
theorem bO1 (G:CG Γ F n X ck)(hb:biK b=some (k,t))(hg:ck.gl "isinstance"=true)(a0:ck.gl t=true)(h:PEs Γ F X es [a]) :
  EvT Γ X (.Call (.Name "isinstance" p) [a,.Name t Z] [] pos) (lS F (.bi b es)):=by
 refine .val ?_
 obtain⟨g1,g2,g3⟩:=G.gl hg
 obtain⟨t1,t2,t3⟩:=G.gl a0
 obtain⟨hk,y,hv,J⟩:=ck5 hb
 have Y:PE X (.Name t Z) (tC (.ty (au0 k))):=bI1 t1 (G.bi _ y) hv rfl t3 t2
 cases es with
 | nil=>exact h.elim
 | cons e es =>
  cases es with
  | cons _ _=>exact h.2.elim
  | nil =>
   obtain⟨⟨hs,ha,_⟩,_⟩:=h
   have hA:=qi ha (qi Y ah3 (zq rfl)) (zq hs)
   refine(az6 (bX1 G.K hk) g1 (G.bi _ (by decide)) aE3 hA g3 g2 (zq hs) (zY λ e he=>by rw[bv.mp he];rfl).1).imp λ W H Q q=>?_
   obtain⟨C,U,s,d,s',E,R,y,q⟩:=q
   obtain⟨l,s1,e1,y⟩:=aa0 y
   obtain⟨x,s2,e2,e1⟩:=aa0 e1
   obtain⟨l2,s3,e3,e1⟩:=aa0 e1
   cases e3
   cases e1
   rw[J]at y
   refine⟨C,U,s,x,_,E,R,e2,λ v C1 H1 g1 l1 b1 r1 R1=>?_⟩
   exact⟨v,rfl,C1,_,[x],d,s',R1,.cons r1 .nil,by unfold lO;rw[b1];rfl,y,q.trans g1 l1⟩
end
section
variable {Γ:Gm} {F:lZ} {n:Nat} {X:Cx} {ck:Ck} {W:St} {H:Hp}
def TAp (Γ:Gm)(cells:yB)(N:yH)(m:lP->lM->lQ (List lN)):TA:=λ W H Q=>∃ C U s l s',RE Γ C H s.length U W/\Rp Γ C H s/\m U s=.ok l s' /\
 ∀ vs C' H',Gr C s H C' s' H'->s.length<=s'.length->lO s'.length l=true->PVL Γ cells N W C' H' l vs->Rp Γ C' H' s'->Q vs H'
theorem TAp.eq (e:∀ U s,m U s=m' U s)(q:TAp Γ cells N m W H Q):TAp Γ cells N m' W H Q:=by
 obtain⟨C,U,s,l,s',E,R,h,q⟩:=q
 exact⟨C,U,s,l,s',E,R,by rw[<-e];exact h,q⟩
theorem bJ9 (h:TAp Γ cells N (λ U s=>.ok [] s) W H Q):bq9 W H Q:=by
 obtain⟨C,U,s,l,s',E,R,y,q⟩:=h
 cases y
 exact q [] C H (Gr.refl _ _ _) (ak _) rfl .nil R
theorem bV5 (h:TAp Γ cells N (λ U s=>(m U s).bind λ d s=>(Z U s).bind λ l s=>.ok (d::l) s) W H Q):aq1 (TEv Γ m) (TAp Γ cells N Z) W H Q:=by
 obtain⟨C,U,s,l,s',E,R,G,q⟩:=h
 obtain⟨x,s1,e1,G⟩:=aa0 G
 obtain⟨y,s2,e2,G⟩:=aa0 G
 cases G
 refine⟨C,U,s,x,s1,E,R,e1,λ v C1 H1 g1 l1 b1 r1 R1=>?_⟩
 refine⟨C1,U,s1,y,s',E.mono g1 l1,R1,e2,λ vs C2 H2 Y J b2 r2 R2=>?_⟩
 exact q (v::vs) C2 H2 (g1.trans Y l1) (ao l1 J) (by unfold lO;rw[zw J x b1,b2];rfl) (.cons (PVp.mono Y b1 (.inl r1)) r2) R2
theorem as0 :∀ {is} {cs},mD U is=some cs->cs.length=is.length/\∀(i j:Nat),is[i]?=some j->∃ d,cs[i]?=some d/\U[j]?=some (some d)
 | [],cs,h=>by cases h;exact⟨rfl,λ i j e=>by cases e⟩
 | k::is,cs,h=>by
  unfold mD at h
  cases e:U[k]? with
  | none=>rw[e]at h;cases h
  | some o =>
   cases o with
   | none=>rw[e]at h;cases h
   | some d =>
    cases e2:mD U is with
    | none=>rw[e,e2]at h;cases h
    | some l =>
     rw[e,e2]at h
     cases h
     obtain⟨G,J⟩:=as0 e2
     refine⟨by rw[aR,aR,G],λ i j y=>?_⟩
     cases i with
     | zero=>cases y;exact⟨d,rfl,e⟩
     | succ i=>exact J i j y
theorem bb8 (E:RE Γ C H s.length U W):∀ {is} {cs},mD U is=some cs->∃ cap,RVL Γ C H cs cap/\lO s.length cs=true/\∀(i j:Nat) v ,is[i]?=some j->cap[i]?=some v->W[j]?=some (some v)
 | [],cs,h=>by cases h;exact⟨[],.nil,rfl,λ i j v e=>by cases e⟩
 | k::is,cs,h=>by
  unfold mD at h
  cases e:U[k]? with
  | none=>rw[e]at h;cases h
  | some o =>
   cases o with
   | none=>rw[e]at h;cases h
   | some d =>
    cases e2:mD U is with
    | none=>rw[e,e2]at h;cases h
    | some l =>
     rw[e,e2]at h
     cases h
     obtain⟨cap,J,Z,h3⟩:=bb8 E e2
     obtain⟨hb,v,Y,hv⟩:=E.val k d e
     refine⟨v::cap,.cons hv J,by unfold lO;rw[hb,Z];rfl,λ i j w G y=>?_⟩
     cases i with
     | zero=>cases G;cases y;exact Y
     | succ i=>exact h3 i j w G y
theorem bY6 {id}(L:LamHere Γ X X.N id h params body scope c P J)(hnm:J.nm=none)(h2:PA X xs (TAp Γ X.env.cells X.N ms)) :
  PA X (.Lambda params body scope pos::xs) (TAp Γ X.env.cells X.N (λ U s=>match mD U h with|some cs=>(ms U s).bind λ l s=>.ok (.clo id cs::l) s|none=>.B)):=by
 refine(qi (bj0 L.code L.hd L.bm L.ck L.df) h2).imp λ W H Q q=>?_
 obtain⟨C,U,s,l,s',E,R,G,q⟩:=q
 have G:(match mD U h with|some cs=>(ms U s).bind λ l s=>DV.R.ok (DV.D.clo id cs::l) s|none=>DV.R.B)=.ok l s':=G
 cases eg:mD U h with
 | none=>rw[eg]at G;exact fb G
 | some cs =>
  rw[eg]at G
  obtain⟨y,s2,e2,G⟩:=aa0 G
  cases G
  obtain⟨cap,Z,Y,hW⟩:=bb8 E eg
  have hlen:=(as0 eg).1
  have hq:J.qual=X.env.qual ++ "<lambda>":=by rw[L.q];unfold LamI.own;rw[hnm]
  rw[<-hq]
  refine bz6 R.tab L.nd L.tab λ f H' e st tb hf ho=>?_
  obtain⟨g1,R1⟩:=R.sameT e st tb
  refine⟨C,U,s,y,s',E.mono g1 (ak _),R1,e2,λ vs C2 H2 g2 l2 b2 r2 R2=>?_⟩
  refine q (.ref f::vs) C2 H2 (g1.trans g2 (ak _)) l2 (by unfold lO lR;rw[ac9 l2 cs Y,b2];rfl) (.cons ?_ r2) R2
  have p1:PVp Γ X.env.cells X.N W C H' (.clo id cs) (.ref f):=by
   refine .inr ⟨id,cs,rfl,f,J,rfl,L.lg,by unfold ak2;rw[hnm];skip;rw[L.p,L.b,L.s];exact ho,by rw[hlen,L.len],by rw[L.s];exact L.cl,cap,RVL.mono g1 cs cap Y Z,λ i x v e1 e3=>?_⟩
   have hi:i<h.length:=by rw[<-L.len];exact(ac.mp e1).1
   have hj:=aj hi
   exact⟨by rw[L.s];exact L.fr x (aL e1),h[i],L.at_ i _ x hj e1,hW i _ v hj e3⟩
  exact p1.mono g2 (by unfold lR;exact Y)
theorem bn3 {f:String}{es:yK}(G:CG Γ F n X ck)(hg:ck.gl (f:Str)=true)(a1:∀ x,X.fn x=true)(a0:∀ x c,X.env.cells.lookup x=some c->X.env.kindOf x=some .cell\/X.env.kindOf x=some .free)
  (hs:∀ y∈e::es,shp y=true) (h:PA X (e::es) (TAp Γ X.env.cells X.N ms)) :
  PE X (.Call (.Name (f) p) (e::es) [] pos) (TEv Γ (λ U s=>(ms U s).bind λ l s=>(F.call f l s).bind λ d s'=>if(d.ncl&&s'.all nZ)=true then .ok d s' else .B)):=by
 obtain⟨g1,g2,g3⟩:=G.gl hg
 rcases G.call f with hb|⟨a,fd,ps,hF,Z,hk,hB⟩
 .intro a2 s W H Q I q
  obtain⟨C,U,s,d,s',E,R,J,q⟩:=q
  obtain⟨l,s1,e1,J⟩:=aa0 J
  rw[hb]at J;exact fb J
 .refine(aR4 hF G.room g1 Z hk hB a1 h g2 (zq (hs e (aG ..))) (zY λ y hy=>hs y (aE _ hy)).1).imp λ W H Q q=>?_
  obtain⟨C,U,s,d,s',E,R,J,q⟩:=q
  obtain⟨l,s1,e1,J⟩:=aa0 J
  obtain⟨d2,s2,e2,J⟩:=aa0 J
  split at J
  case isFalse=>exact fb J
  rename_i hn
  cases J
  rw[au]at hn
  refine⟨C,U,s,l,s1,E,R,e1,λ vs C1 H1 gg l1 b1 r1 R1=>λ H2 Y=>?_⟩
  obtain⟨gs,R2⟩:=R1.same Y.same
  refine⟨C1,s1,l,d,s',R2,r1.caught Y a0 b1,b1,e2,λ v C' H3 g' l' b' r' R'=>?_⟩
  have hc:=Y.cells.kp g'.w.kp
  exact q v C' (ae9 X.env.cells H3) (gg.trans (Gr.caught Y g') l1) (ao l1 l') b' (RV.dropC hc d v hn.1 r') (R'.dropC hc hn.2)
theorem be3 {xs:yK}(G:CG Γ F n X ck)(hv:ck.var i x=true)(hs:∀ y∈e::xs,shp y=true)(h:PA X (e::xs) (TAv Γ (my F es)))(a2:PE X (.Name x p) (bF3 i)) :
  PE X (.Call (.Name x p) (e::xs) [] pos) (TEv Γ (lS F (.callV i es))):=by
 refine(bx3 rfl rfl rfl rfl rfl G.room a2 h (zq (hs e (aG ..))) (zY λ y hy=>hs y (aE _ hy)).1).imp λ W H Q q=>?_
 obtain⟨C,U,s,d,s',E,R,Y,q⟩:=q
 have Y:=Y
 obtain⟨l,s1,e1,Y⟩:=aa0 Y
 cases eU:U[i]? with
 | none=>rw[eU]at Y;exact fb Y
 | some o =>
  cases o with
  | none=>rw[eU]at Y;exact fb Y
  | some v0 =>
   obtain⟨hb,v,hW,rv⟩:=E.val i v0 eU
   cases v0 with
   | fn f =>
    rw[eU]at Y
    have Y:F.call f l s1=.ok d s':=Y
    unfold RV at rv
    obtain⟨a,ha,e2⟩:=rv
    subst e2
    obtain⟨h1,h2⟩:=G.fa f a ha
    rcases G.call f with hb|⟨a',fd,ps,hF,a1,hk,hB⟩
    .rw[hb]at Y;exact fb Y
    .rw[h1]at a1
     cases a1
     refine⟨a,hW,.inr h2,C,U,s,l,s1,E,R,e1,λ vs C1 H1 g1 l1 b1 r1 R1=>?_⟩
     exact⟨.inr h2,_,_,ClOk.ofFn hF hB,trivial,C1,s1,l,d,s',R1,r1,b1,Y,q.trans g1 l1⟩
   | clo id cs =>
    rw[eU]at Y
    have Y:=Y
    unfold RV at rv
    unfold lR at hb
    obtain⟨f,cap,J,a0,e2,a4,a3,a5,a6⟩:=rv
    subst e2
    have fin:∀ H',CloAt H' f J cap a0->bL2 X.K H' f:=λ H' h'=>h'.fn
    refine⟨f,hW,fin H a3,C,U,s,l,s1,E,R,e1,λ vs C1 H1 g1 l1 b1 r1 R1=>?_⟩
    have Z:=a3.kp g1.w.kp
    exact⟨fin H1 Z,_,_,G.cl id J f cap a0 a4 a5,Z,C1,s1,cs,l,d,s',R1,r1,RVL.mono g1 cs cap hb a6,b1,ac9 l1 cs hb,Y,q.trans g1 l1⟩
   | _=>rw[eU]at Y;exact fb Y
end
section
variable {Γ:Gm} {F:lZ} {n:Nat} {X:Cx} {ck:Ck} {W:St} {H:Hp} {Q:VK}
def cy1 (K:af)(H:Hp)(v:V)(ys:List V)(z:Bool):Prop:=(∃ a,v=.ref a/\(SqL K H a ys\/(SqT K H a ys/\(z=true->H a=some (.tp ys)))))\/∃ x,v=.str ⟨x.toArray⟩/\x.length<=lU/\ys=sgV x
def TLv (Γ:Gm)(m:lP->lM->lQ (List lN)):TE:=λ W H Q=>∃ C U s l s',RE Γ C H s.length U W/\Rp Γ C H s/\m U s=.ok l s' /\
 ∀ v ys C' H',Gr C s H C' s' H'->s.length<=s'.length->lO s'.length l=true->cy1 Γ.K H' v ys (mF l)->RVL Γ C' H' l ys->Rp Γ C' H' s'->Q v H'
theorem aO6 (h:TLv Γ m W H Q):TFv Γ m W H Q:=by
 obtain⟨C,U,s,l,s',E,R,J,q⟩:=h
 exact⟨C,U,s,l,s',E,R,J,λ p ys C' H' g hl hb y h0 ho r G=>q (.ref p) ys C' H' g hl hb (.inl ⟨p,rfl,.inl (SqL.of y)⟩) r G⟩
theorem aD5 :∀ x:List Nat,RVL Γ C H (x.map λ c=>.str [c]) (sgV x)
 | []=>.nil
 | c::x=>.cons (RV.strI (by unfold lU;simp)) (aD5 x)
theorem ax0 :∀ x:List Nat,lO k (x.map λ c=>.str [c])=true
 | []=>rfl
 | c::x=>by rw[aM];unfold lO;rw[ax0 x];rfl
theorem bY2 (h:TLv Γ (λ U s=>(m U s).bind λ d s=>DV.aZ4 d s) W H Q):TEv Γ m W H Q:=by
 obtain⟨C,U,s,l,s',E,R,y,q⟩:=h
 obtain⟨d,s1,e1,y⟩:=aa0 y
 refine⟨C,U,s,d,s1,E,R,e1,λ v C1 Z g1 l1 b1 r1 R1=>?_⟩
 cases d with
 | tp l' =>
  cases y
  obtain⟨a,G,⟨rfl,z1⟩,J,Y⟩:=r1.tupZ
  unfold lR at b1
  exact q _ G C1 Z g1 l1 b1 (.inl ⟨a,rfl,.inr ⟨J,z1⟩⟩) Y R1
 | str x =>
  cases y
  exact q v (sgV x) C1 Z g1 l1 (ax0 x) (.inr ⟨x,r1.strE,r1.strL,rfl⟩) (aD5 x) R1
 | ref k =>
  have y:(match s1[k]? with
   | some (.J l)=>DV.R.ok l s1
   | some (.ro l)=>.ok l s1
   | _=>.B)=.ok l s':=y
  rw[r1.refE]
  cases e:s1[k]? with
  | none=>rw[e]at y;exact fb y
  | some ob =>
   rw[e]at y
   cases ob with
   | J l' =>
    cases y
    obtain⟨G,J,Y⟩:=R1.addr e
    have:=R1.wf k _ e
    unfold lT at this
    exact q _ G C1 Z g1 l1 this (.inl ⟨_,rfl,.inl (SqL.of J)⟩) Y R1
   | ro l' =>
    cases y
    obtain⟨G,J,Y⟩:=R1.obj k _ e
    have:=R1.wf k _ e
    unfold lT at this
    exact q _ G C1 Z g1 l1 this (.inl ⟨_,rfl,.inl J.1⟩) Y R1
   | _=>exact fb y
 | _=>exact fb y
theorem TLv.eq (e:∀ U s,m U s=m' U s)(q:TLv Γ m W H Q):TLv Γ m' W H Q:=by
 have:=funext λ U=>funext λ s=>e U s
 subst this;exact q
theorem aY6 (G:CG Γ F n X ck)(hg:ck.gl "tuple"=true)(hs:shp a=true)(h:PE X a (TLv Γ m)) :
  PE X (.Call (.Name "tuple" p) [a] [] pos) (TEv Γ (λ U s=>(m U s).bind λ l s=>nK .tuple l s)):=by
 obtain⟨g1,Y,g3⟩:=G.gl hg
 refine(as3 ((aJ9 G.K).or (aM4 G.calm)) g1 (G.bi _ (by decide)) bf0 (qi h ah3 (zq hs)) g3 Y (zq hs) rfl).imp λ W H Q q=>?_
 obtain⟨C,U,s,d,s',E,R,J,q⟩:=q
 obtain⟨l,s1,e1,J⟩:=aa0 J
 cases J
 refine⟨C,U,s,l,_,E,R,e1,λ v ys C1 Z g1 l1 b1 hq r1 R1=>?_⟩
 rcases hq with⟨a,rfl,hq|hq⟩|⟨x,rfl,hx,rfl⟩
 .exact .inl ⟨a,ys,rfl,.inl ⟨hq,λ p y=>(q.trans g1 l1).tup R1 r1 b1 y⟩⟩
 .exact .inl ⟨a,ys,rfl,.inr ⟨hq.1,q _ C1 Z g1 l1 (by unfold lR;exact b1) (RV.tupC hq.1 hq.2 r1) R1⟩⟩
 .exact .inr ⟨x,rfl,hx,λ p y=>(q.trans g1 l1).tup R1 r1 b1 y⟩
theorem bh0 (G:CG Γ F n X ck)(Z:ck.gl "list"=true)(hs:shp a=true)(h:PE X a (TLv Γ m)) :
  PE X (.Call (.Name "list" p) [a] [] pos) (TEv Γ (λ U s=>(m U s).bind λ l s=>nK .list l s)):=by
 obtain⟨g1,Y,g3⟩:=G.gl Z
 refine(as3 ((ba3 G.K).or (aY5 G.calm)) g1 (G.bi _ (by decide)) bB1 (qi h ah3 (zq hs)) g3 Y (zq hs) rfl).imp λ W H Q q=>?_
 obtain⟨C,U,s,d,s',E,R,J,q⟩:=q
 obtain⟨l,s1,e1,J⟩:=aa0 J
 obtain⟨rfl,rfl⟩:=qS J
 refine⟨C,U,s,l,_,E,R,e1,λ v ys C1 H1 g1 l1 b1 hq r1 R1=>?_⟩
 rcases hq with⟨a,rfl,hq⟩|⟨x,rfl,hx,rfl⟩
 .exact .inl ⟨a,ys,rfl,hq.imp id (·.1),λ p y=>(q.trans g1 l1).alloc R1 r1 b1 y⟩
 .exact .inr ⟨x,rfl,hx,λ p y=>(q.trans g1 l1).alloc R1 r1 b1 y⟩
theorem ce0 (G:CG Γ F n X ck)(hk:mkT k=some x)(y:ck.gl x=true)(hs:shp a=true)(h:PE X a (TLv Γ m)) :
  PE X (.Call (.Name x p) [a] [] pos) (TEv Γ (λ U s=>(m U s).bind λ l s=>nK k l s)):=by
 cases k<;>cases hk
 .exact aY6 G y hs h
 .exact bh0 G y hs h
def FrC (Γ:Gm)(X:Cx)(x:Str)(k:nI):Prop:=∃ id r,bz x=some (.builtin id)/\x∈bNames/\af9 X (.builtin id) r/\∀ C H s l ys p d s' Q,Rp Γ C H s->RVL Γ C H l ys->H p=some (.J ys)->nK k l s=.ok d s'->ag8 Γ C s H d s' Q->r [.ref p] H Q
theorem aP3:∀(l:List Int) a ,(l.foldl min a=a\/l.foldl min a∈l)/\l.foldl min a<=a/\∀ y∈l,l.foldl min a<=y
 | [],a=>⟨.inl rfl,cy _,λ y hy=>by cases hy⟩
 | b::l,a=>by
  obtain⟨G,J,h3⟩:=aP3 l (min a b)
  rw[cx]
  refine⟨?_,by lia,λ y hy=>?_⟩
  .rcases G with h|h
   .rw[h]
    rcases lB a b with z|z
    .left;lia
    .right;rw[show min a b=b by lia];exact aG ..
   .exact .inr (aE _ h)
  .rcases aB.mp hy with z|z
   .rw[z];lia
   .exact h3 y z
theorem aU7 (h:m9 l=some m):m∈l/\∀ y∈l,m<=y:=by
 cases l with
 | nil=>cases h
 | cons a l =>
  cases h
  obtain⟨G,J,h3⟩:=aP3 l a
  refine⟨?_,λ y hy=>?_⟩
  .rcases G with h|h
   .rw[h];exact aG ..
   .exact aE _ h
  .rcases aB.mp hy with z|z
   .rw[z];exact J
   .exact h3 y z
theorem bO4 (G:CG Γ F n X ck)(hk:mkF k=some x):FrC Γ X x k:=by
 cases k<;>cases hk
 .refine⟨_,_,bP8,by decide,bh2 G.calm G.K,λ C H s l ys p d s' Q R r J h q=>?_⟩
  unfold nK at h
  dsimp only at h
  cases e:mR l with
  | none=>rw[e]at h;exact fb h
  | some is =>
   rw[e]at h
   have h:(match m9 is with|some m=>DV.R.ok (DV.D.int m) s|none=>.B)=.ok d s':=h
   cases e2:m9 is with
   | none=>rw[e2]at h;exact fb h
   | some mm =>
    rw[e2]at h
    cases h
    have:=ql e
    subst this
    refine⟨p,is,rfl,SqL.of (by rw[<-r.ints];exact J),(λ(z)=>by rw[z]at e2;cases e2),λ m h y=>?_⟩
    obtain⟨a,b⟩:=aU7 e2
    have:=kF (y mm a) (b m h)
    rw[this]
    exact q.here R rfl RV.intI
theorem bZ8 (G:CG Γ F n X ck)(hk:mkF k=some x)(hg:ck.gl x=true)(hs:shp a=true)(h:PE X a (TFv Γ m)) :
  PE X (.Call (.Name x p) [a] [] pos) (TEv Γ (λ U s=>(m U s).bind λ l s=>nK k l s)):=by
 obtain⟨g1,Z,g3⟩:=G.gl hg
 obtain⟨id,r,hb,hx,hc,Y⟩:=bO4 G hk
 refine(az6 hc g1 (G.bi _ hx) hb (qi h ah3 (zq hs)) g3 Z (zq hs) rfl).imp λ W H Q q=>?_
 obtain⟨C,U,s,d,s',E,R,y,q⟩:=q
 obtain⟨l,s1,e1,y⟩:=aa0 y
 exact⟨C,U,s,l,_,E,R,e1,λ p ys C1 H1 g1 l1 b1 J h0 ho r1 R1=>Y C1 H1 s1 l ys p d s' Q R1 r1 J y (q.trans g1 l1)⟩
theorem bV0 (G:CG Γ F n X ck)(hg:ck.gl "min"=true)(hs:shp a=true)(h:PE X a (TFv Γ ml))(hd:PE X de (TEv Γ md)) :
  PE X (.Call (.Name "min" p) [a] [⟨some "default",de,kp⟩] pos) (TEv Γ (λ U s=>(ml U s).bind λ l s=>(md U s).bind λ d s=>DV.mkD .min l d s)):=by
 obtain⟨g1,g2,g3⟩:=G.gl hg
 refine(bQ3 rfl G.calm g1 (G.bi _ (by decide)) h hd (zq hs)).imp λ W H Q q=>?_
 obtain⟨C,U,s,d,s',E,R,J,q⟩:=q
 obtain⟨l,s1,e1,J⟩:=aa0 J
 obtain⟨d0,s2,e2,J⟩:=aa0 J
 refine⟨C,U,s,l,s1,E,R,e1,λ p ys C1 H1 g1 l1 b1 hp h0 ho r1 R1=>?_⟩
 refine⟨C1,U,s1,d0,s2,E.mono g1 l1,R1,e2,λ v C2 H2 g2 l2 b2 r2 R2=>?_⟩
 have a1:=g2.fr p _ hp (by nofun) (λ i ob e mu=>ho i ob e mu)
 unfold DV.mkD at J
 cases e:mR l with
 | none=>rw[e]at J;exact fb J
 | some is =>
  rw[e]at J
  have Y:(match m9 is with|some m=>DV.R.ok (DV.D.int m) s2|none=>DV.R.ok d0 s2)=.ok d s':=J
  have:=ql e
  subst this
  have hq:=q.trans (g1.trans g2 l1) (ao l1 l2)
  refine⟨p,is,rfl,SqL.of (by rw[<-r1.ints];exact a1),λ z=>?_,λ m Z a0=>?_⟩
  .subst z
   cases Y
   exact hq.here R2 b2 r2
  .clear e2
   cases e2:m9 is with
   | none =>
    cases is with
    | nil=>cases Z
    | cons _ _=>cases e2
   | some mm =>
    rw[e2]at Y
    cases Y
    obtain⟨x,y⟩:=aU7 e2
    have:=kF (a0 mm x) (y m Z)
    rw[this]
    exact hq.here R2 rfl RV.intI
theorem bx6 (R:Rp Γ C H s)(g:Gr C s H C' s' H')(hb:r<s.length)(e:s'[r]?=some (.J l)):tyV Γ.K "list" (.ref (C r)) H:=by
 obtain⟨h,y⟩:∃ h,s[r]?=some h:=⟨s[r],aj hb⟩
 have Y:=g.mu r h _ y e rfl
 have ho:=R.obj r h y
 cases h with
 | J l0 =>
  obtain⟨G,J,_⟩:=ho
  exact .inl ⟨rfl,G,SqL.of J⟩
 | ro _=>cases Y
 | dc _=>have:=g.kd r _ _ y e;cases this
 | ins _ _=>exact ho.elim
def mtR (Γ:Gm)(m:nJ):V->List V->Hp->VK->Prop:=λ x vs H Q=>∃ C s a l d s',Rp Γ C H s/\RV Γ C H a x/\RVL Γ C H l vs/\a.bnd s.length=true/\lO s.length l=true/\nV m a l s=.ok d s'/\ag8 Γ C s H d s' Q
theorem cc5:lU<aQ:=by rw[fQ];decide
theorem aR2 (J:mtT m=some (x,k))(h:nV m a l s=.ok d s'):∃ r l0,a=.ref r/\s[r]?=some (.J l0):=by
 have go:∀ {r:Nat} {f:List lN->lQ lN},(match s[r]? with|some (.J l)=>f l|_=>.B)=.ok d s'->∃ l0,s[r]?=some (.J l0):=λ {r f} h=>by
  cases e:s[r]? with
  | none=>rw[e]at h;exact fb h
  | some ob =>
   cases ob with
   | J l0=>exact⟨l0,rfl⟩
   | _=>rw[e]at h;exact fb h
 cases a with
 | ref r =>
  have y:∀ {f:List lN->lQ lN},(match s[r]? with|some (.J l)=>f l|_=>.B)=.ok d s'->∃ G l0,DV.D.ref r=.ref G/\s[G]?=some (.J l0):=λ h=>by obtain⟨l0,e⟩:=go h;exact⟨_,l0,rfl,e⟩
  cases m with
  | append=>match l with
   | [d]=>exact y h
   | []=>exact fb h
   | _::_::_=>exact fb h
  | _=>exact fb h
 | _=>cases m<;>exact fb h
theorem bA1:MtR X "list.append" (mtR Γ .append):=by
 intro J sh W H x vs v us Q I rx rv h
 obtain⟨C,s,a,l,d,s',R,ra,rl,ba,bl,G,q⟩:=h
 obtain⟨r,l0,rfl,e⟩:=aR2 rfl G
 cases l with
 | nil=>exact fb G
 | cons y t =>
  cases t with
  | cons _ _=>exact fb G
  | nil =>
   simp only[nV,e]at G
   split at G
   case isFalse=>exact fb G
   rename_i hlt
   cases G
   obtain⟨z,rfl,rz⟩:=rl.one
   obtain⟨xs,h1,Z⟩:=R.addr e
   have Y:=by have:=R.wf r _ e;unfold lT at this;exact this
   refine aD3 J sh W H x [z] v us Q I rx rv ⟨C r,xs,z,ra.refE,rfl,h1,by rw[Z.length];have:=cc5;lia,?_⟩
   exact q.put R e (Z.append (.cons rz .nil)) (qo Y bl) rfl RV.nonI
structure MtOk (Γ:Gm)(X:Cx)(m:nJ)(x:Str):Prop where
 ex:∃ id,PySem.Slot "list" x id/\typeOf (.builtin id)=pure (.type "method_descriptor")/\MtR X id (mtR Γ m)
theorem cd0 (G:X.K=Γ.K)(y:Room (lY+1) X.A)(h:mtT m=some (x,k)):MtOk Γ X m x:=by
 cases m<;>cases h
 .exact⟨_,g9,PySem.F.type_list_append,bA1⟩
theorem bs5 {Y:yK}(G:CG Γ F n X ck)(hm:mtT m=some (x,Y.length))(hab:ct2 ob=true)(hl:(ap.endLine==cp.line)=true)(ho:PE X ob (TEv Γ (lS F o)))
  (a2:mEs ck es Y=true) (h:PEs Γ F X es Y):EvT Γ X (.Call (.Attribute ob x ap) Y [] cp) (lS F (.me m o es)):=by
 refine .val ?_
 obtain⟨id,slot,a1,hr⟩:=(cd0 (Γ:=Γ) (X:=X) G.K (G.room.mono G.deep) hm).ex
 have hs:=aC1 a2
 have key:∀ W H Q,TEv Γ (lS F (.me m o es)) W H Q->tBM Γ.K "list" (mtR Γ m) (TEv Γ (lS F o)) (TAv Γ (my F es)) W H Q:=λ W H Q q=>by
  obtain⟨C,U,s,d,s',E,R,J,q⟩:=q
  obtain⟨a,s1,e1,J⟩:=aa0 J
  obtain⟨l,s2,e2,J⟩:=aa0 J
  refine⟨C,U,s,a,s1,E,R,e1,λ v C1 H1 g1 l1 b1 r1 R1=>?_⟩
  obtain⟨r,l0,rfl,er⟩:=aR2 hm J
  rw[r1.refE]
  have hk:∀ C2 H2,Gr C1 s1 H1 C2 s2 H2->tyV Γ.K "list" (.ref (C1 r)) H1:=λ C2 H2 g2=>bx6 R1 g2 (by unfold lR at b1;exact of_decide_eq_true b1) er
  have Z:TAv Γ (my F es) W H1 λ Y H2=>mtR Γ m (.ref (C1 r)) Y H2 Q:=by
   refine⟨C1,U,s1,l,s2,E.mono g1 l1,R1,e2,λ vs C2 H2 g2 l2 b2 r2 R2=>?_⟩
   refine⟨C2,s2,.ref r,l,d,s',R2,?_,r2,zw l2 _ b1,b2,J,q.trans (g1.trans g2 l1) (ao l1 l2)⟩
   have:=RV.mono g2 _ _ b1 r1
   rw[r1.refE]at this
   exact this
  refine⟨?_,Z⟩
  have hlt:r<s1.length:=by unfold lR at b1;exact of_decide_eq_true b1
  obtain⟨o0,e0⟩:∃ o0,s1[r]?=some o0:=⟨s1[r],aj hlt⟩
  have a0:=R1.obj r o0 e0
  cases o0 with
  | J l0 =>
   obtain⟨Y,h1,_⟩:=a0
   exact .inl ⟨rfl,Y,SqL.of h1⟩
  | ro l0 =>
   obtain⟨Y,h1,_⟩:=a0
   exact .inl ⟨rfl,Y,h1.1⟩
  | dc _ =>
   obtain⟨o',eo,ek⟩:=DV.am8 G.fk es U s1 _ _ e2 r _ e0
   rw[er]at eo;cases eo;cases ek
  | ins _ _=>exact a0.elim
 cases Y with
 | nil =>
  have p0:PE X (.Call (.Attribute ob x ap) [] [] cp) (cu9 X.K "list" (mtR Γ m) (TEv Γ (lS F o))):=cb2 gB slot a1 hr ho (bh7 hab) hl
  rw[G.K]at p0
  refine p0.imp λ W H Q q=>?_
  cases es with
  | cons _ _=>exact h.elim
  | nil =>
   obtain⟨C,U,s,d,s',E,R,J,k⟩:=key W H Q q
   refine⟨C,U,s,d,s',E,R,J,λ v C1 H1 g1 l1 b1 r1 R1=>?_⟩
   obtain⟨h1,h2⟩:=k v C1 H1 g1 l1 b1 r1 R1
   exact⟨h1,aR8 (TAv.eq (λ U s=>rfl) h2)⟩
 | cons y ys =>
  refine(bZ9 G.K gB slot a1 hr ho (as8 h) (bh7 hab) ?_ hl (zq (hs y (aG ..))) (zY λ e he=>hs e (aE _ he)).1).imp key
  rw[(zY hs).2]
  have:(y::ys).length<=1:=by
   unfold mtT at hm
   split at hm<;>first|(have:=aw hm;have:=congrArg Prod.snd this;simp at this;simp;omega)|cases hm
  simp only[dR,cV,lC]
  show(true&&decide ((y::ys).length+0+0<30))=true
  rw[dR]
  exact decide_eq_true (by lia)
end
section
variable {Γ:Gm} {F:lZ} {n:Nat} {X:Cx} {ck:Ck} {W:St} {H:Hp} {Q:VK}
theorem PIf.imp (h:PIf X e t)(i:∀ W H Q,t' W H Q->t W H Q):PIf X e t':=λ y s W H Q I q=>h y s W H Q I (i W H Q q)
structure CompF (Γ:Gm)(X:Cx)(m:lP->lM->lQ (List lN))(E:Expr):Prop where
 ex:∃ elt tgt iter ifs scope pos N' caps wi g tc te,E=.ListComp elt [⟨tgt,iter,ifs,0⟩] scope pos/\qB N' caps scope X.N X.env.scope=true/\PI X tgt iter wi /\
  (∀(Cc:Addr) (cells:yB) (s:ah) (H:Hp) (ex:List Addr),PG (z9 X N' scope Cc cells s H ex) tgt g/\PIf (z9 X N' scope Cc cells s H ex) ifs tc/\PE (z9 X N' scope Cc cells s H ex) elt te) /\
  (∀ x,dw iter X.env x=pure x)/\∀ W H Q,TFv Γ m W H Q->tComp caps wi g tc te W H Q
theorem CompF.pe (h:CompF Γ X m E)(hc:X.calm=true):PE X E (TFv Γ m):=by
 obtain⟨a0,Y,iter,J,scope,pos,G,y,wi,g,tc,te,rfl,h1,h2,h3,Z,h5⟩:=h.ex
 exact(bb2 G y h1 h2 hc h3 Z).imp h5
theorem bM6 {mI}(G:CG Γ F n X ck)(hm:aW6 ck tg y iter h scope=true)
  (hi:PI X y iter (TIv Γ mI)) (hc:∀ Cc cells s H ex,PT (z9 X (ckC ck y h scope).N scope Cc cells s H ex) i (TTv Γ mc)) (he:∀ Cc cells s H ex,PE (z9 X (ckC ck y h scope).N scope Cc cells s H ex) J (TEv Γ Y)) :
  CompF Γ X (λ U s=>(mI U s).bind λ q s0=>if q.its.length<=lU then nH (λ s=>mw s0 s q.src) (λ d U s=>match mH U tg d with
   | some U=>lX (mc U s) λ k s=>if k then(Y U s).bind λ v s=>.ok (some v,U) s else .ok (none,U) s
   | none=>.B) q.its (nq U h) s0 else .B) (.ListComp J [⟨y,iter,[i],0⟩] scope pos):=by
 obtain⟨c1,c2,Z⟩:=G.comp hm
 exact⟨J,y,iter,[i],scope,pos,_,h,_,_,_,_,rfl,c1,hi,λ Cc cells s H ex=>⟨(Z Cc cells s H ex).2,bP9 (hc Cc cells s H ex),he Cc cells s H ex⟩,aM0 c2,λ W H Q q=>bf9 q⟩
theorem by8 {mI}(G:CG Γ F n X ck)(Y:aW6 ck tg y iter h scope=true)
  (hi:PI X y iter (TIv Γ mI)) (he:∀ Cc cells s H ex,PE (z9 X (ckC ck y h scope).N scope Cc cells s H ex) J (TEv Γ Z)) :
  CompF Γ X (λ U s=>(mI U s).bind λ q s0=>if q.its.length<=lU then nH (λ s=>mw s0 s q.src) (λ d U s=>match mH U tg d with
   | some U=>(Z U s).bind λ v s=>.ok (some v,U) s
   | none=>.B) q.its (nq U h) s0 else .B) (.ListComp J [⟨y,iter,[],0⟩] scope pos):=by
 obtain⟨c1,c2,c3⟩:=G.comp Y
 refine⟨J,y,iter,[],scope,pos,_,h,_,_,TTv Γ (λ U s=>.ok (.T true) s),_,rfl,c1,hi,λ Cc cells s H ex=>⟨(c3 Cc cells s H ex).2,bM2.imp λ W H Q q=>?_,he Cc cells s H ex⟩,aM0 c2,λ W H Q q=>bf9 (TFv.eq (λ U s=>?_) q)⟩
 .obtain⟨C,U,s,b,s',E,R,Y,q⟩:=q
  cases Y
  exact q C H (Gr.refl _ _ _) (ak _) R
 .congr 1
theorem bS8 (G:CG Γ F n X ck)(h:PE X E (TEv Γ (lS F e))):PI X tg E (TIv Γ (nU F (.seq e))):=by
 refine(PI.or (bJ5 G.K h) (PI.or (br9 G.K h) (ci0 h))).imp λ W H R q=>cc2 (TIv.eq (λ U s=>rfl) q)
theorem bw4 (G:CG Γ F n X ck)(y:ck.gl "range"=true)(hs:shp l=true)(h:PE X l (TEv Γ (lS F a))):PI X tg (.Call (.Name "range" p) [l] [] pos) (TIv Γ (nU F (.rg a))) :=
 (bh3 (G.gl y).1 (G.bi _ (by decide)) (qi h ah3 (zq hs)) (zq hs)).imp λ W H R q=>bN5 (TIv.eq (λ U s=>rfl) q)
theorem bL7 {elts:yK}(G:CG Γ F n X ck)(Y:ck.gl "zip"=true)(hs:shp l=true)(y:shp r=true)(h:PE X l (TEv Γ (lS F a)))(J:PE X r (TEv Γ (lS F b))):PI X (.Tuple elts ek epos) (.Call (.Name "zip" p) [l,r] [] pos) (TIv Γ (nU F (.zip (.seq a) (.seq b)))):=by
 have q:=ce9 (elts:=elts) (ek:=ek) (epos:=epos) (p:=p) (pos:=pos) (G.gl Y).1 (G.bi _ (by decide)) (qi h (qi J ah3 (zq y)) (zq hs)) (by rw[zq hs,zq y];rfl) (zq y)
 rw[G.K]at q
 exact q.imp λ W H R q=>cb9 (TIv.eq (λ U s=>rfl) q)
theorem cj9 (h:TEv Γ (λ U s=>mV (.dc []) s) W H Q):bA4 W H Q:=by
 obtain⟨C,U,s,d,s',E,R,J,q⟩:=h
 obtain⟨rfl,rfl⟩:=qS J
 intro p y
 obtain⟨g,G⟩:=R.new (o:=.dc []) y rfl λ C' H' g e=>⟨[],e,rfl⟩
 exact q (.ref p) _ _ g (by simp) (by unfold lR;simp) (by unfold RV;simp) G
theorem cc7 (h:TEv Γ (λ U s=>(mk U (s++[.dc []])).bind λ kd s1=>(mv U s1).bind λ J s2=>if kd.key=true/\s2[s.length]?=some (.dc [])then .ok (.ref s.length) (s2.set s.length (.dc [(kd,J)]))else .B) W H Q):ck7 [(TEv Γ mk,TEv Γ mv)] W H Q:=by
 obtain⟨C,U,s,d,s',E,R,y,q⟩:=h
 obtain⟨kd,s1,e1,y⟩:=aa0 y
 obtain⟨J,s2,e2,y⟩:=aa0 y
 split at y
 case isFalse=>exact fb y
 rename_i hc
 cases y
 intro p hp
 obtain⟨g0,R0⟩:=R.new (o:=.dc []) hp rfl λ C' H' g e=>⟨[],e,rfl⟩
 have l0:s.length<=(s++[DV.O.dc []]).length:=by simp
 refine⟨_,U,s++[DV.O.dc []],kd,s1,E.mono g0 l0,R0,e1,λ v1 C1 H1 g1 l1 b1 r1 R1=>?_⟩
 refine⟨C1,U,s1,J,s2,(E.mono g0 l0).mono g1 l1,R1,e2,λ v2 C2 H2 Z Y b2 r2 R2=>?_⟩
 have G:C2 s.length=p:=by
  rw[Z.w.map s.length (ar (by simp) l1),g1.w.map s.length (by simp)];simp
 obtain⟨k,hk⟩:=an9 hc.1
 have ek:=aQ5 hk (RV.mono Z kd v1 b1 r1)
 obtain⟨a0,z1,z2⟩:=R2.obj s.length _ hc.2
 have z2:=z2
 subst z2
 rw[G]at z1
 refine⟨z1,[(k,v2)],by rw[ek];rfl,by simp,?_⟩
 have hb:(DV.O.dc [(kd,J)]).bnd s2.length=true:=by
  unfold lT
  simp only[aM,dF,lO,dQ,au]
  exact⟨zw Y _ b1,b2⟩
 obtain⟨g3,R3⟩:=R2.set hc.2 rfl hb λ H' g e=>⟨_,e,k,v2,[],rfl,hk,RV.monoW g _ _ b2 r2,rfl⟩
 rw[G]at g3 R3
 have L:=ao l0 (ao l1 Y)
 have lt:s.length<s2.length:=ar (by simp) (ao l1 Y)
 exact q (.ref p) _ _ (((g0.trans g1 l0).trans Z (ao l0 l1)).trans g3 L) (by rw[bN];exact L) (by unfold lR;rw[bN];exact decide_eq_true lt) (by unfold RV;rw[G]) R3
section
variable {c:String} {kvs:List (List Nat×List Nat)} {a:Addr}
end
end
section
variable {Γ:Gm} {F:lZ} {n:Nat} {X:Cx} {ck:Ck}
end
section
variable {Γ:Gm} {F:lZ} {n:Nat} {X:Cx} {ck:Ck}
def TJv (Γ:Gm)(m:lP->lM->lQ (List lN))(out:List Nat):TE:=λ W H Q=>∃ C U s l s' ws,RE Γ C H s.length U W/\Rp Γ C H s/\m U s=.ok l s'/\nE l=some ws/\(out++ws.flatten).length<=lU /\
 ∀ C' H',Gr C s H C' s' H'->s.length<=s'.length->Rp Γ C' H' s'->Q (.str ⟨(out++ws.flatten).toArray⟩) H'
def PF (Γ:Gm)(X:Cx)(vs:yK)(m:lP->lM->lQ (List lN)):Prop :=
 ∀ out pins s (W:St) H Q ,Inv X pins W H s->TJv Γ m out W H Q->wpAny (model X.prog X.w) X.A (joinParts ⟨out.toArray⟩ (evalEach vs X.env)) (EP X pins W Q) X.xe s
theorem PF.eq (e:∀ U s,m U s=m' U s)(h:PF Γ X vs m):PF Γ X vs m':=λ out y s W H Q I q=>by
 obtain⟨C,U,s0,l,s',ws,E,R,G,q⟩:=q
 exact h out y s W H Q I ⟨C,U,s0,l,s',ws,E,R,by rw[e];exact G,q⟩
theorem aL6 (w:List Nat):(⟨w.toArray⟩:Str).length=w.length:=by simp[Str.length]
theorem cg9:PF Γ X [] (λ _ s=>.ok [] s):=λ out h s W H Q I q=>by
 obtain⟨C,U,s0,l,s',ws,E,R,y,hw,hl,q⟩:=q
 cases y
 cases hw
 rw[List.flatten_nil,bf]at q hl
 exact joinParts_nilE (joinParts_nil ⟨.str ⟨out.toArray⟩,H,I.tok _,⟨_,rfl⟩,q C H (Gr.refl _ _ _) (ak _) R⟩ (by rw[aL6];exact ao hl qA))
theorem bm1 (h:nE (d::l)=some ws):∃ w y,d=.str w/\nE l=some y/\ws=w::y:=by
 cases d with
 | str w =>
  have h:(nE l).map (w::·)=some ws:=h
  cases e:nE l with
  | none=>rw[e]at h;cases h
  | some y=>rw[e]at h;cases h;exact⟨w,y,rfl,rfl,rfl⟩
 | _=>cases h
theorem bd6 (h2:PF Γ X vs m2)
  (h1:∀(h:yA) (s:ah) (W:St) (H:Hp) (w:List Nat) (Q:VK),w.length<=lU->Inv X h W H s->TEv Γ m1 W H (λ x y=>x=.str ⟨w.toArray⟩/\Q x y) ->
   wpAny (model X.prog X.w) X.A (eval v X.env) (λ u s1=>∃ t y,u=.str ⟨w.toArray⟩ t/\Inv X h W y s1/\Q (.str ⟨w.toArray⟩) y) X.xe s) :
  PF Γ X (v::vs) (λ U s=>(m1 U s).bind λ d s=>(m2 U s).bind λ l s=>.ok (d::l) s):=λ out h s W H Q I q=>by
 obtain⟨C,U,s0,l,s',ws,E,R,G,hw,hl,q⟩:=q
 obtain⟨d,s1,e1,G⟩:=aa0 G
 obtain⟨Z,s2,e2,G⟩:=aa0 G
 cases G
 obtain⟨w,a2,rfl,a0,rfl⟩:=bm1 hw
 rw[cW,<-cG]at hl q
 have Y:(out++w).length<=lU:=by rw[aU]at hl;lia
 have J:w.length<=lU:=by rw[aU]at Y;lia
 refine joinParts_consE (joinParts_cons (cj (h1 h s W H w (λ x y=>∃ C1,Gr C s0 H C1 s1 y/\s0.length<=s1.length/\Rp Γ C1 y s1) J I ⟨C,U,s0,.str w,s1,E,R,e1,λ v C1 y g1 l1 b1 r1 R1=>⟨r1.strE,C1,g1,l1,R1⟩⟩) (λ u a1 hu=>?_) λ _ _ x=>x))
 obtain⟨t,y,rfl,I1,C1,g1,l1,R1⟩:=hu
 show(_++_:Str).length<=aQ/\_
 rw[bq5]
 refine⟨by rw[aL6];exact ao Y qA,h2 (out++w) h a1 W y Q I1 ⟨C1,U,s1,Z,s',a2,E.mono g1 l1,R1,e2,a0,hl,λ C2 H2 g2 Z R2=>q C2 H2 (g1.trans g2 l1) (ao l1 Z) R2⟩⟩
theorem bD5 (hv:PE X v (TEv Γ G)) h s (W:St) H (w:List Nat)(Q:VK)(I:Inv X h W H s)(q:TEv Γ G W H (λ x y=>x=.str ⟨w.toArray⟩/\Q x y)) :
  wpAny (model X.prog X.w) X.A (eval v X.env) (λ u s1=>∃ t y,u=.str ⟨w.toArray⟩ t/\Inv X h W y s1/\Q (.str ⟨w.toArray⟩) y) X.xe s :=
 cj (hv h s W H _ I q) (λ u s1 hu=>by
  obtain⟨x,y,Z,J,ex,Y⟩:=hu
  subst ex
  obtain⟨t,rfl⟩:=(J)
  exact⟨t,y,rfl,Z,Y⟩) λ _ _ x=>x
theorem ck9 (hv:PE X v (TEv Γ y))(Z:PF Γ X vs G) :
  PF Γ X (.FormattedValue v (-1) none p::vs) (λ U s=>(y U s).bind λ d s=>(G U s).bind λ l s=>.ok (d::l) s) :=
 bd6 Z λ h s W H w Q hw I q=>FormattedValue_plain (cj (bD5 hv h s W H w Q I q) (λ u s1 hu=>by
  obtain⟨t,H1,rfl,J,Y⟩:=hu
  exact formatField_str (λ t' tk=>⟨t',H1,rfl,J.tok tk,Y⟩) (by rw[aL6];exact ao hw qA)) λ _ _ x=>x)
theorem ch4 (hv:PE X v (TEv Γ y))(J:PF Γ X vs G) :
  PF Γ X (v::vs) (λ U s=>(y U s).bind λ d s=>(G U s).bind λ l s=>.ok (d::l) s) :=
 bd6 J λ h s W H w Q hw I q=>bD5 hv h s W H w Q I q
end
section
variable {Γ:Gm} {F:lZ} {n:Nat}
theorem bU8 (h:mC c v=true):EvT Γ X (.Constant v k pos) (lS F (.K c)):=by
 refine .val ?_
 unfold mC at h
 split at h
 .exact cj7.imp λ W H Q q=>aI2 (λ _=>rfl) (λ _ _=>RV.nonI) (TEv.eq (λ U s=>rfl) q)
 .rename_i b c
  have e:=eq_of_beq h
  subst e
  exact cm3.imp λ W H Q q=>aI2 (λ _=>rfl) (λ _ _=>RV.blI) (TEv.eq (λ U s=>rfl) q)
 .rename_i i j
  have e:=of_decide_eq_true h
  subst e
  exact ca0.imp λ W H Q q=>aI2 (λ _=>rfl) (λ _ _=>RV.intI) (TEv.eq (λ U s=>rfl) q)
 .rename_i x y
  rw[au]at h
  have e:=of_decide_eq_true h.1
  have e2:=of_decide_eq_true h.2
  subst e
  exact ci2.imp λ W H Q q=>aI2 (λ _=>rfl) (λ _ _=>RV.strI (by unfold lU;lia)) (TEv.eq (λ U s=>rfl) q)
 .cases h
theorem bM5 {y:yK}(m:mEs ck es y=true)(hz:y.length<=1000)(h:PA X y (TAv Γ (my F es))):PE X (.List y pos) (TFv Γ (DV.evL F (.disp es))):=by
 refine(bB3 h).imp λ W H Q q=>?_
 obtain⟨C,U,s,l,s',E,R,Y,q⟩:=q
 refine⟨C,U,s,l,s',E,R,Y,λ vs C1 Z g1 l1 b1 r1 R1=>⟨by rw[r1.length,aB3 Y m];exact aU3 hz,λ p G=>?_⟩⟩
 obtain⟨J,R2⟩:=R1.same ((ai0.refl Z).new G)
 refine q p vs C1 _ (g1.trans J l1) l1 b1 zo ?_ (Off.new R1 G) (RVL.mono J _ _ b1 r1) R2
 cases e:H p with
 | none=>rfl
 | some o=>exact absurd G (g1.st p (by rw[e];simp))
theorem CompF.eq (c:CompF Γ X m E)(e:∀ U s,m' U s=m U s):CompF Γ X m' E:=by
 have:=funext λ U=>funext λ s=>e U s
 subst this;exact c
theorem zA (h:(a&&b)=true):a=true/\b=true:=by rw[au]at h;exact h
theorem bS5 {g:String}(G:CG Γ F n X J)(h:J.gl (g:Str)=true):EvT Γ X (.Name (g) p) (lS F (.gl g)):=by
 refine .val ?_
 obtain⟨g1,Z,g3⟩:=G.gl h
 cases e:F.con g with
 | none =>
  intro Y s W H Q I q
  obtain⟨C,U,s,d,s',E,R,y,q⟩:=q
  have y:(match F.con g with|some d=>DV.R.ok d s|none=>.B)=.ok d s':=y
  rw[e]at y
  cases y
 | some d =>
  obtain⟨v,u,h1,h2,h3,h4⟩:=G.con g d e
  exact(bU1 g1 h1 h2 Z).imp λ W H Q q=>aI2 h3 h4 (TEv.eq (λ U s=>by show(match F.con g with|some d=>DV.R.ok d s|none=>.B)=DV.R.ok d s;rw[e]) q)
theorem cf1 (G:CG Γ F n X y)(h:y.var i x=true):EvT Γ X (.Name x p) (lS F (.X i)):=by
 refine .val ?_
 unfold Ck.var at h
 obtain⟨h,Y⟩:=zA h
 obtain⟨h,h3⟩:=zA h
 obtain⟨J,Z⟩:=zA h
 have e1:(x==("__debug__"))=false:=by simpa using h3
 have e2:(x==("__classdict__"))=false:=by simpa using Y
 exact(bj9 (by rw[G.N];exact of_decide_eq_true J) (G.vis Z) e1 e2).imp λ W H Q q=>cf5 i (TEv.eq (λ U s=>rfl) q)
theorem bC9 (G:CG Γ F n X y)(h:y.var i x=true):PE X (.Name x p) (bF3 i):=by
 unfold Ck.var at h
 obtain⟨h,Y⟩:=zA h
 obtain⟨h,h3⟩:=zA h
 obtain⟨J,Z⟩:=zA h
 exact bj9 (by rw[G.N];exact of_decide_eq_true J) (G.vis Z) (by simpa using h3) (by simpa using Y)
theorem aB7 :∀ {es} {J:yK},bU6 Z es J=true->∀ x∈J,shp x=true
 | .nil,[],_,x,hx=>by cases hx
 | .nil,_::_,h,_,_=>ff h
 | .ex e es,[],h,_,_=>ff h
 | .ex e es,y::ys,h,x,hx=>by
  obtain⟨h,h3⟩:=zA h
  obtain⟨Y,G⟩:=zA h
  rcases aB.mp hx with rfl|hx
  .exact G
  .exact aB7 h3 x hx
 | .lam _ _ es,[],h,_,_=>ff h
 | .lam _ _ es,y::ys,h,x,hx=>by
  obtain⟨h,h3⟩:=zA h
  obtain⟨Y,G⟩:=zA h
  rcases aB.mp hx with rfl|hx
  .exact G
  .exact aB7 h3 x hx
 | .fn _ _,_,h,_,_=>ff h
theorem aQ6 :∀ {es} {Y:yK},bU6 J es Y=true->bt7 es=true->∃ id G E,J.lk id G E=true
 | .nil,_,_,h=>by cases h
 | .ex e es,[],h,_=>ff h
 | .ex e es,y::ys,h,hl=>by
  obtain⟨h,h3⟩:=zA h
  exact aQ6 h3 hl
 | .lam id G es,[],h,_=>ff h
 | .lam id G es,y::ys,h,_=>by
  obtain⟨h,h3⟩:=zA h
  obtain⟨Z,h2⟩:=zA h
  exact⟨id,G,y,Z⟩
 | .fn _ _,_,h,_=>ff h
theorem aU0 (h:∀ U s,m U s=.B):EvT Γ X E m:=by
 refine⟨λ y s W H Q I q=>?_,λ y s W H Q I q=>?_⟩
 .obtain⟨C,U,s,d,s',E,R,G,q⟩:=q
  rw[h]at G;exact fb G
 .obtain⟨C,U,s,d,s',E,R,G,q⟩:=q
  rw[h]at G;exact fb G
inductive LK (Γ:Gm)(X:Cx)(m:lP->lM->lQ (List lN))(E:Expr)(k:Nat):Prop where
 | c (h:CompF Γ X m E):LK Γ X m E k
 | f (hk:1<=k) (h:PE X E (TFv Γ m)):LK Γ X m E k
 | s (hk:k=2) (h:PE X E (TLv Γ m)):LK Γ X m E k
theorem ca7 (h:LK Γ X m E 0):CompF Γ X m E:=by
 cases h with
 | c h=>exact h
 | f hk h=>lia
 | s hk h=>lia
theorem cc9 (G:CG Γ F n X y)(h:LK Γ X m E 1):PE X E (TFv Γ m):=by
 cases h with
 | c h=>exact h.pe G.calm
 | f hk h=>exact h
 | s hk h=>lia
theorem cr6 (G:CG Γ F n X y)(h:LK Γ X m E 2):PE X E (TLv Γ m):=by
 cases h with
 | c h=>exact(h.pe G.calm).imp λ W H Q q=>aO6 q
 | f hk h=>exact h.imp λ W H Q q=>aO6 q
 | s hk h=>exact h
theorem biOk_inv (h:cl1 G b x J (mEs G es J) (mEs G es (J.take 1))=true) :
  (∃ k t a y py,biK b=some (k,t)/\J=[a,.Name y py]/\x=("isinstance")/\y=t/\G.gl x=true/\G.gl y=true/\mEs G es [a]=true)\/∃ a ys,J=a::ys/\biT b=some x/\G.gl x=true/\mEs G es (a::ys)=true:=by
 unfold cl1 at h
 cases hk:biK b with
 | none =>
  rw[hk]at h
  cases J with
  | nil=>exact ff h
  | cons a ys =>
   obtain⟨h,h3⟩:=zA h
   obtain⟨Y,Z⟩:=zA h
   exact .inr ⟨a,ys,rfl,of_decide_eq_true Y,Z,h3⟩
 | some p =>
  rw[hk]at h
  cases J with
  | nil=>exact ff h
  | cons a ys=>cases ys with
   | nil=>exact ff h
   | cons b ys=>cases b with
    | Name y py=>cases ys with
     | nil =>
      obtain⟨h,h5⟩:=zA h
      obtain⟨h,h4⟩:=zA h
      obtain⟨h,h3⟩:=zA h
      obtain⟨Y,Z⟩:=zA h
      exact .inl ⟨p.1,p.2,a,y,py,rfl,rfl,of_decide_eq_true Y,of_decide_eq_true h3,Z,h4,h5⟩
     | cons _ _=>exact ff h
    | _=>exact ff h
mutual
theorem sE:∀(e:ni) (E:Expr) (X:Cx) (J:Ck),CG Γ F n X J->mE J e E=true->EvT Γ X E (lS F e)
 | .X i,E,X,J,G,h=>by
  cases E with
  | Name x p =>
   exact cf1 G h
  | _=>exact ff h
 | .K c,E,X,J,G,h=>by
  cases E with
  | Constant v k p =>
   exact bU8 h
  | _=>exact ff h
 | .gl g,E,X,J,G,h=>by
  cases E with
  | Name x p =>
   obtain⟨Z,Y⟩:=zA h
   have e:=of_decide_eq_true Z
   subst e
   exact bS5 G Y
  | _=>exact ff h
 | .G op a b,E,X,J,G,h=>by
  cases E with
  | BinOp l o r pE =>
   obtain⟨h,h3⟩:=zA h
   obtain⟨Z,Y⟩:=zA h
   have e:=of_decide_eq_true Z
   subst e
   exact bS0 G op (sE a _ X J G Y) (sE b _ X J G h3)
  | _=>exact ff h
 | .neg a,E,X,J,G,h=>by
  cases E with
  | UnaryOp o l p =>
   cases o with
   | USub =>
    exact bT1 (sE a _ X J G h)
   | _=>exact ff h
  | _=>exact ff h
 | .not a,E,X,J,G,h=>by
  cases E with
  | UnaryOp o l p =>
   cases o with
   | Not =>
    exact bO7 (sE a _ X J G h)
   | _=>exact ff h
  | _=>exact ff h
 | .Z op a b,E,X,J,G,h=>by
  cases E with
  | Compare l os rs pE =>
   cases os with
   | cons o os_0 =>
    cases os_0 with
    | nil =>
     cases rs with
     | cons r rs_0 =>
      cases rs_0 with
      | nil =>
       obtain⟨h,h3⟩:=zA h
       obtain⟨Z,Y⟩:=zA h
       have e:=of_decide_eq_true Z
       subst e
       exact bJ4 G op (aF8 h3) (sE a _ X J G Y) (sE b _ X J G h3)
      | _=>exact ff h
     | _=>exact ff h
    | _=>exact ff h
   | _=>exact ff h
  | _=>exact ff h
 | .chain o p a b c,E,X,J,G,h=>by
  cases E with
  | Compare l os rs pE =>
   cases os with
   | cons o1 os_0 =>
    cases os_0 with
    | cons o2 os_1 =>
     cases os_1 with
     | nil =>
      cases rs with
      | cons m rs_0 =>
       cases rs_0 with
       | cons r rs_1 =>
        cases rs_1 with
        | nil =>
         obtain⟨h,h5⟩:=zA h
         obtain⟨h,h4⟩:=zA h
         obtain⟨h,h3⟩:=zA h
         obtain⟨Z,Y⟩:=zA h
         have e:=of_decide_eq_true Z
         have e':=of_decide_eq_true Y
         subst e
         subst e'
         exact bi6 G o p (aF8 h5) (sE a _ X J G h3) (sE b _ X J G h4) (sE c _ X J G h5)
        | _=>exact ff h
       | _=>exact ff h
      | _=>exact ff h
     | _=>exact ff h
    | _=>exact ff h
   | _=>exact ff h
  | _=>exact ff h
 | .isN a,E,X,J,G,h=>by
  cases E with
  | Compare l os rs pE =>
   cases os with
   | cons o os1 =>
    cases o with
    | Is =>
     cases os1 with
     | nil =>
      cases rs with
      | cons r rs1 =>
       cases r with
       | Constant v k p1 =>
        cases v with
        | none =>
         cases rs1 with
         | nil =>
          exact bS6 (sE a _ X J G h)
         | _=>exact ff h
        | _=>exact ff h
       | _=>exact ff h
      | _=>exact ff h
     | _=>exact ff h
    | _=>exact ff h
   | _=>exact ff h
  | _=>exact ff h
 | .notN a,E,X,J,G,h=>by
  cases E with
  | Compare l os rs pE =>
   cases os with
   | cons o os1 =>
    cases o with
    | IsNot =>
     cases os1 with
     | nil =>
      cases rs with
      | cons r rs1 =>
       cases r with
       | Constant v k p1 =>
        cases v with
        | none =>
         cases rs1 with
         | nil =>
          exact bs7 (sE a _ X J G h)
         | _=>exact ff h
        | _=>exact ff h
       | _=>exact ff h
      | _=>exact ff h
     | _=>exact ff h
    | _=>exact ff h
   | _=>exact ff h
  | _=>exact ff h
 | .and a b,E,X,J,G,h=>by
  cases E with
  | BoolOp op vs p=>cases op with
   | And =>
    cases vs with
    | nil=>exact ff h
    | cons l vs=>cases vs with
     | nil=>exact ff h
     | cons r vs=>cases vs with
      | nil =>
       obtain⟨Z,Y⟩:=zA h
       exact bK3 (sE a _ X J G Z) (sE b _ X J G Y)
      | cons r2 vs =>
       obtain⟨Z,Y⟩:=zA h
       exact bM1 (sE a _ X J G Z) (sE b _ X J G Y)
   | _=>exact ff h
  | _=>exact ff h
 | .or a b,E,X,J,G,h=>by
  cases E with
  | BoolOp op vs p=>cases op with
   | Or =>
    cases vs with
    | nil=>exact ff h
    | cons l vs=>cases vs with
     | nil=>exact ff h
     | cons r vs=>cases vs with
      | nil =>
       obtain⟨Z,Y⟩:=zA h
       exact cg7 (sE a _ X J G Z) (sE b _ X J G Y)
      | cons r2 vs =>
       obtain⟨Z,Y⟩:=zA h
       exact bX2 (sE a _ X J G Z) (sE b _ X J G Y)
   | _=>exact ff h
  | _=>exact ff h
 | .ite c a b,E,X,J,G,h=>by
  cases E with
  | IfExp tE l r pE =>
   obtain⟨h,h3⟩:=zA h
   obtain⟨Z,Y⟩:=zA h
   exact bO0 (sE c _ X J G Z) (sE a _ X J G Y) (sE b _ X J G h3)
  | _=>exact ff h
 | .tp es,E,X,J,G,h=>by
  cases E with
  | Tuple xs k p =>
   obtain⟨Z,Y⟩:=zA h
   exact bR8 Z (of_decide_eq_true Y) (as8 (sEs es _ X J G Z))
  | _=>exact ff h
 | .J es,E,X,J,G,h=>by
  cases E with
  | List xs p =>
   obtain⟨Z,Y⟩:=zA h
   exact bU0 Z (of_decide_eq_true Y) (as8 (sEs es _ X J G Z))
  | _=>exact ff h
 | .dc .nil .nil,E,X,J,G,h=>by
  cases E with
  | Dict a b p=>cases a with
   | nil=>cases b with
    | nil=>exact .val (bx5.imp λ W H Q q=>cj9 (TEv.eq (λ U s=>rfl) q))
    | _=>exact ff h
   | cons x a=>cases x with
    | none=>exact ff h
    | some x=>cases a with
     | nil=>cases b with
      | nil=>exact ff h
      | cons y b=>cases b with
       | nil=>exact ff h
       | _=>exact ff h
     | _=>exact ff h
  | _=>exact ff h
 | .dc (.cons k .nil) (.cons v .nil),E,X,J,G,h=>by
  cases E with
  | Dict a b p=>cases a with
   | nil=>cases b with
    | nil=>exact ff h
    | _=>exact ff h
   | cons x a=>cases x with
    | none=>exact ff h
    | some x=>cases a with
     | nil=>cases b with
      | nil=>exact ff h
      | cons y b=>cases b with
       | nil =>
        obtain⟨Z,Y⟩:=zA h
        obtain⟨Z,_⟩:=zA Z
        obtain⟨Z,_⟩:=zA Z
        obtain⟨Y,_⟩:=zA Y
        obtain⟨Y,_⟩:=zA Y
        exact .val ((bL5 (bu5 (sE k _ X J G Z).1 (sE v _ X J G Y).1 bJ3) rfl rfl (by nofun) (by show 1<=15;decide)).imp λ W H Q q=>cc7 (TEv.eq (λ U s=>rfl) q))
       | _=>exact ff h
     | _=>exact ff h
  | _=>exact ff h
 | .dc .nil (.cons _ _),E,X,J,G,h=>aU0 λ _ _=>rfl
 | .dc (.cons _ .nil) .nil,E,X,J,G,h=>aU0 λ _ _=>rfl
 | .dc (.cons _ .nil) (.cons _ (.cons _ _)),E,X,J,G,h=>aU0 λ _ _=>rfl
 | .dc (.cons _ (.cons _ _)) _,E,X,J,G,h=>aU0 λ _ _=>rfl
 | .ix a b,E,X,J,G,h=>by
  cases E with
  | Subscript o i p =>
   obtain⟨Z,Y⟩:=zA h
   exact bW4 G (aF8 Y) (sE a _ X J G Z) (sE b _ X J G Y)
  | _=>exact ff h
 | .slU a hi,E,X,J,G,h=>by
  cases E with
  | Subscript o i p =>
   cases i with
   | Slice lo hi st p2 =>
    cases lo with
    | none =>
     cases hi with
     | some l =>
      cases st with
      | none =>
       obtain⟨Z,Y⟩:=zA h
       exact bK9 G (sE a _ X J G Z) (sE hi _ X J G Y)
      | _=>exact ff h
     | _=>exact ff h
    | _=>exact ff h
   | _=>exact ff h
  | _=>exact ff h
 | .call f as,E,X,J,G,h=>by
  cases E with
  | Call fE xs kw p =>
   cases fE with
   | Name x pN =>
    cases kw with
    | nil =>
     obtain⟨h,h3⟩:=zA h
     obtain⟨Z,Y⟩:=zA h
     have e:=of_decide_eq_true Z
     subst e
     exact bs6 G Y h3 (sAs as _ X J G h3)
    | _=>exact ff h
   | _=>exact ff h
  | _=>exact ff h
 | .callC f as,E,X,J,G,h=>by
  cases E with
  | Call fE xs kw p =>
   cases fE with
   | Name x pN =>
    cases xs with
    | cons y ys =>
     cases kw with
     | nil =>
      obtain⟨h,h3⟩:=zA h
      obtain⟨h,h4⟩:=zA h
      obtain⟨Z,Y⟩:=zA h
      have e:=of_decide_eq_true Z
      subst e
      obtain⟨id,a0,E',hlk⟩:=aQ6 h3 h4
      obtain⟨_,_,_,_,_,_,_,_,L⟩:=G.lam id a0 E' hlk
      exact .val ((bn3 G Y L.fn L.kd (aB7 h3) (ct1 as _ X J G h3)).imp λ W H Q q=>TEv.eq (λ U s=>rfl) q)
     | _=>exact ff h
    | _=>exact ff h
   | _=>exact ff h
  | _=>exact ff h
 | .callV i es,E,X,J,G,h=>by
  cases E with
  | Call fE xs kw p =>
   cases fE with
   | Name x pN =>
    cases xs with
    | cons y ys =>
     cases kw with
     | nil =>
      obtain⟨Z,Y⟩:=zA h
      exact .val (be3 G Z (aC1 Y) (as8 (sEs es _ X J G Y)) (bC9 G Z))
     | _=>exact ff h
    | _=>exact ff h
   | _=>exact ff h
  | _=>exact ff h
 | .bi b es,E,X,J,G,h=>by
  cases E with
  | Call fE xs kw p =>
   cases fE with
   | Name x pN =>
    cases kw with
    | nil =>
     have h:cl1 J b x xs (mEs J es xs) (mEs J es (xs.take 1))=true:=h
     rcases biOk_inv h with⟨k,t,a,y,py,hk,rfl,rfl,rfl,Y,h4,h5⟩|⟨a,ys,rfl,Z,Y,h3⟩
     .exact bO1 G hk Y h4 (sEs es _ X J G h5)
     .exact bY4 G Z Y h3 (as8 (sEs es _ X J G h3))
    | _=>exact ff h
   | _=>exact ff h
  | _=>exact ff h
 | .mk k l,E,X,J,G,h=>by
  cases E with
  | ListComp e gs sc p =>
   obtain⟨Z,Y⟩:=zA h
   have e:=of_decide_eq_true Z
   subst e
   exact .val (((ca7 (sL l _ X J G 0 Y)).pe G.calm).imp λ W H Q q=>bl5 (TEv.eq (λ U s=>rfl) q))
  | Call fE xs kw p =>
   cases fE with
   | Name x pN =>
    cases xs with
    | cons a xs_0 =>
     cases xs_0 with
     | nil =>
      cases kw with
      | nil =>
       obtain⟨h,h4⟩:=zA h
       obtain⟨Y,h3⟩:=zA h
       rw[bT]at h4
       rcases h4 with h4|h4
       .obtain⟨h5,h6⟩:=zA h4
        exact .val ((ce0 G (of_decide_eq_true h5) Y h3 (cr6 G (sL l _ X J G 2 h6))).imp λ W H Q q=>TEv.eq (λ U s=>rfl) q)
       .obtain⟨h5,h6⟩:=zA h4
        exact .val ((bZ8 G (of_decide_eq_true h5) Y h3 (cc9 G (sL l _ X J G 1 h6))).imp λ W H Q q=>TEv.eq (λ U s=>rfl) q)
      | _=>exact ff h
     | _=>exact ff h
    | _=>exact ff h
   | _=>exact ff h
  | _=>exact ff h
 | .mkD k l d,E,X,J,G,h=>by
  cases E with
  | Call fE xs kw p =>
   cases fE with
   | Name x pN =>
    cases xs with
    | cons a xs_0 =>
     cases xs_0 with
     | nil =>
      cases kw with
      | cons kk kw1 =>
       cases kk with
       | mk ky de kp =>
        cases ky with
        | some y =>
         cases kw1 with
         | nil =>
          obtain⟨h,h7⟩:=zA h
          obtain⟨h,h6⟩:=zA h
          obtain⟨h,h5⟩:=zA h
          obtain⟨h,h3⟩:=zA h
          obtain⟨Z,Y⟩:=zA h
          have e3:=of_decide_eq_true Y
          subst e3
          obtain⟨e,e2⟩:=zA Z
          have e:=of_decide_eq_true e
          have e2:=of_decide_eq_true e2
          subst e e2
          exact .val ((bV0 G h3 h5 (cc9 G (sL l _ X J G 1 h6)) (sE d _ X J G h7).1).imp λ W H Q q=>TEv.eq (λ U s=>rfl) q)
         | _=>exact ff h
        | _=>exact ff h
      | _=>exact ff h
     | _=>exact ff h
    | _=>exact ff h
   | _=>exact ff h
  | _=>exact ff h
 | .me m o es,E,X,J,G,h=>by
  cases E with
  | Call fE xs kw p =>
   cases fE with
   | Attribute ob x ap =>
    cases kw with
    | nil =>
     obtain⟨h,h5⟩:=zA h
     obtain⟨h,h4⟩:=zA h
     obtain⟨h,h3⟩:=zA h
     obtain⟨Z,Y⟩:=zA h
     exact bs5 G (of_decide_eq_true Z) Y h3 (sE o _ X J G h4).1 h5 (sEs es _ X J G h5)
    | _=>exact ff h
   | _=>exact ff h
  | _=>exact ff h
theorem sEs:∀(es:mq) (y:yK) (X:Cx) (J:Ck),CG Γ F n X J->mEs J es y=true->PEs Γ F X es y
 | .nil,y,X,J,G,h=>by
  cases y with
  | nil =>
   exact trivial
  | _=>exact ff h
 | .cons e es,y,X,J,G,h=>by
  cases y with
  | cons x y =>
   obtain⟨h,h3⟩:=zA h
   obtain⟨Y,Z⟩:=zA h
   exact⟨⟨Z,sE e _ X J G Y⟩,sEs es _ X J G h3⟩
  | _=>exact ff h
theorem sFs:∀(es:mq) (J:yK) (X:Cx) (y:Ck),CG Γ F n X y->mFs y es J=true->PF Γ X J (my F es)
 | .nil,J,X,y,G,h=>by
  cases J with
  | nil=>exact(cg9).eq λ _ _=>rfl
  | _=>exact ff h
 | .cons e es,J,X,y,G,h=>by
  cases J with
  | cons x J =>
   cases x with
   | FormattedValue v c sp p =>
    cases sp with
    | none =>
     obtain⟨h,h3⟩:=zA h
     obtain⟨Y,Z⟩:=zA h
     have e1:=of_decide_eq_true Y
     subst e1
     exact(ck9 (sE e _ X y G Z).1 (sFs es _ X y G h3)).eq λ _ _=>rfl
    | _=>exact ff h
   | Constant v j p =>
    obtain⟨Y,Z⟩:=zA h
    exact(ch4 (sE e _ X y G Y).1 (sFs es _ X y G Z)).eq λ _ _=>rfl
   | _=>exact ff h
  | _=>exact ff h
theorem sAs:∀(es:m8) (y:yK) (X:Cx) (J:Ck),CG Γ F n X J->mAs J es y=true->PA X y (TAv Γ (nj F es))
 | .nil,y,X,J,G,h=>by
  cases y with
  | nil =>
   exact ah3.imp λ W H Q q=>aR8 (TAv.eq (λ U s=>rfl) q)
  | _=>exact ff h
 | .ex e es,y,X,J,G,h=>by
  cases y with
  | cons x y =>
   obtain⟨h,h3⟩:=zA h
   obtain⟨Y,Z⟩:=zA h
   exact(aU1 Z (sE e _ X J G Y).1 (sAs es _ X J G h3)).imp λ W H Q q=>TAv.eq (λ U s=>rfl) q
  | _=>exact ff h
 | .lam _ _ _,y,X,J,G,h=>ff h
 | .fn _ _,y,X,J,G,h=>ff h
theorem ct1:∀(es:m8) (y:yK) (X:Cx) (Y:Ck),CG Γ F n X Y->bU6 Y es y=true->PA X y (TAp Γ X.env.cells X.N (nj F es))
 | .nil,y,X,Y,G,h=>by
  cases y with
  | nil =>
   exact ah3.imp λ W H Q q=>bJ9 (TAp.eq (λ U s=>rfl) q)
  | _=>exact ff h
 | .ex e es,y,X,Y,G,h=>by
  cases y with
  | cons x y =>
   obtain⟨h,h3⟩:=zA h
   obtain⟨h1,Z⟩:=zA h
   exact(qi (sE e _ X Y G h1).1 (ct1 es _ X Y G h3) (zq Z)).imp λ W H Q q=>bV5 (TAp.eq (λ U s=>rfl) q)
  | _=>exact ff h
 | .lam id caps es,y,X,Y,G,h=>by
  cases y with
  | cons x y =>
   obtain⟨h,h3⟩:=zA h
   obtain⟨h1,Z⟩:=zA h
   obtain⟨c,P,params,body,scope,pos,J,e,L⟩:=G.lam id caps _ h1
   have hnm:J.nm=none:=by
    cases q:J.nm with
    | none=>rfl
    | some p=>unfold lamText at e;rw[q]at e;rw[e]at Z;cases Z
   unfold lamText at e
   rw[hnm]at e
   dsimp only at e
   subst e
   rw[<-G.N]at L
   exact(bY6 L hnm (ct1 es _ X Y G h3)).imp λ W H Q q=>TAp.eq (λ U s=>rfl) q
  | _=>exact ff h
 | .fn _ _,y,X,Y,G,h=>ff h
theorem sI:∀(i:DV.I) (E tg:Expr) (X:Cx) (y:Ck),CG Γ F n X y->mI y tg i E=true->PI X tg E (TIv Γ (nU F i))
 | .seq e,E,tg,X,y,G,h=>by
  obtain⟨J,Y⟩:=zA h
  exact bS8 G (sE e _ X y G J).1
 | .rg a,E,tg,X,y,G,h=>by
  cases E with
  | Call fE xs kw p =>
   cases fE with
   | Name x pN =>
    cases xs with
    | cons l xs_0 =>
     cases xs_0 with
     | nil =>
      cases kw with
      | nil =>
       obtain⟨h,Z⟩:=zA h
       obtain⟨h,h3⟩:=zA h
       obtain⟨J,Y⟩:=zA h
       have e:=of_decide_eq_true J
       subst e
       exact bw4 G Y Z (sE a _ X y G h3).1
      | _=>exact ff h
     | _=>exact ff h
    | _=>exact ff h
   | _=>exact ff h
  | _=>exact ff h
 | .zip (.seq a) (.seq b),E,tg,X,y,G,h=>by
  cases E with
  | Call fE xs kw p =>
   cases fE with
   | Name x pN =>
    cases xs with
    | cons l xs_0 =>
     cases xs_0 with
     | cons r xs_1 =>
      cases xs_1 with
      | nil =>
       cases kw with
       | nil =>
        obtain⟨h,h7⟩:=zA h
        obtain⟨h,h6⟩:=zA h
        obtain⟨h,h5⟩:=zA h
        obtain⟨h,Z⟩:=zA h
        obtain⟨h,h3⟩:=zA h
        obtain⟨J,Y⟩:=zA h
        have e:=of_decide_eq_true J
        subst e
        cases tg with
        | Tuple es k p=>exact bL7 G Y Z h6 (sE a _ X y G h3).1 (sE b _ X y G h5).1
        | _=>exact ff h7
       | _=>exact ff h
      | _=>exact ff h
     | _=>exact ff h
    | _=>exact ff h
   | _=>exact ff h
  | _=>exact ff h
 | .zip (.seq _) (.rg _),E,tg,X,y,G,h=>ff h
 | .zip (.seq _) (.zip _ _),E,tg,X,y,G,h=>ff h
 | .zip (.rg _) _,E,tg,X,y,G,h=>ff h
 | .zip (.zip _ _) _,E,tg,X,y,G,h=>ff h
theorem sL:∀(l:DV.L) (E:Expr) (X:Cx) (J:Ck),CG Γ F n X J->∀ k,mL J k l E=true->LK Γ X (DV.evL F l) E k
 | .comp tg it e caps,E,X,J,G,k,h=>by
  cases E with
  | ListComp elt gs scope p =>
   cases gs with
   | cons g gs1 =>
    cases g with
    | mk tgt iter ifs z =>
     cases ifs with
     | nil =>
      cases gs1 with
      | nil =>
       obtain⟨h,h3⟩:=zA h
       obtain⟨h,Y⟩:=zA h
       obtain⟨h0,y⟩:=zA h
       have Z:=of_decide_eq_true h0
       subst Z
       have c:=by8 (pos:=p) G y (sI it _ _ X J G Y) λ Cc cells s H ex=>(sE e _ _ _ ((G.comp y).2.2 Cc cells s H ex).1 h3).1
       exact .c (c.eq λ U s=>rfl)
      | _=>exact ff h
     | _=>exact ff h
   | _=>exact ff h
  | _=>exact ff h
 | .compIf tg it i e caps,E,X,J,G,k,h=>by
  cases E with
  | ListComp elt gs scope p =>
   cases gs with
   | cons g gs1 =>
    cases g with
    | mk tgt iter ifs z =>
     cases ifs with
     | cons i1 ifs1 =>
      cases ifs1 with
      | nil =>
       cases gs1 with
       | nil =>
        obtain⟨h,h4⟩:=zA h
        obtain⟨h,h3⟩:=zA h
        obtain⟨h,Y⟩:=zA h
        obtain⟨h0,y⟩:=zA h
        have Z:=of_decide_eq_true h0
        subst Z
        have c:=bM6 (pos:=p) G y (sI it _ _ X J G Y) (λ Cc cells s H ex=>(sE i _ _ _ ((G.comp y).2.2 Cc cells s H ex).1 h3).2) λ Cc cells s H ex=>(sE e _ _ _ ((G.comp y).2.2 Cc cells s H ex).1 h4).1
        exact .c (c.eq λ U s=>rfl)
       | _=>exact ff h
      | _=>exact ff h
     | _=>exact ff h
   | _=>exact ff h
  | _=>exact ff h
 | .disp es,E,X,J,G,k,h=>by
  cases E with
  | List xs p =>
   obtain⟨h,Y⟩:=zA h
   obtain⟨h0,y⟩:=zA h
   exact .f (of_decide_eq_true h0) (bM5 y (of_decide_eq_true Y) (as8 (sEs es _ X J G y)))
  | _=>exact ff h
 | .seq e,E,X,J,G,k,h=>by
  obtain⟨h0,y⟩:=zA h
  exact .s (of_decide_eq_true h0) ((sE e _ X J G y).1.imp λ W H Q q=>bY2 (TLv.eq (λ U s=>rfl) q))
end
end
section
variable {Γ:Gm} {F:lZ} {n:Nat}
theorem bs8 (G:CG Γ F n X ck)(c:CompF Γ X m E)(hi:ck.N[i]?=some x)(hl:ck.loc x=true) :
  PS X (.Assign [.Name x px] E pos) (bz8 (TFv Γ m) (aF4 i)):=by
 obtain⟨Z,J,iter,y,scope,p2,N',h,wi,g,tc,te,rfl,h1,h2,h3,h4,h5⟩:=c.ex
 obtain⟨l1,l2⟩:=G.loc hl
 have nd:X.N.Nodup:=by rw[G.N];exact G.nd
 have a1:X.N[i]?=some x:=by rw[G.N];exact hi
 generalize hb:((X.env.blockKind==.function&&X.env.kindOf x==some .local&&px.line==(Expr.ListComp Z [⟨J,iter,y,0⟩] scope p2).pos.line&&!(scope.names.any λ(n,k)=>n==x&&(k==.local||k==.cell))))=b
 have a0:fx (.ListComp Z [⟨J,iter,y,0⟩] scope p2) (some (.Name x px)) pos.line X.env=pure b:=by rw[<-hb];rfl
 have imp:∀ D W H,bz8 (TFv Γ m) (aF4 i) D W H->bz8 (tComp h wi g tc te) (aF4 i) D W H:=λ D W H q=>h5 _ _ _ q
 cases b with
 | true =>
  have Y:=by
   simp only[au]at hb
   exact eq_of_beq hb.1.1.2
  exact(aY2 N' h nd a1 Y h1 h2 G.calm h3 h4 a0).imp imp
 | false=>exact(bB4 nd a1 l1 (bb2 N' h h1 h2 G.calm h3 h4) a0 l2).imp imp
theorem bF7 (G:CG Γ F n X y)(Y:y.N[i]?=some x)(hl:y.loc x=true)(h:mE y e v=true) :
  PS X (.Assign [.Name x px] v pos) (TSv Γ (DV.ex F (.A (.Y i) e))):=by
 obtain⟨l1,Z⟩:=G.loc hl
 have nd:X.N.Nodup:=by rw[G.N];exact G.nd
 have J:X.N[i]?=some x:=by rw[G.N];exact Y
 by_cases hc:aE6 v=true
 .exact(bB4 nd J l1 (sE e v X y G h).1 (ax3 hc) Z).imp λ D W H q=>bm2 (TSv.eq (λ U s=>rfl) q)
 .have hs:=aF8 h
  cases v with
  | ListComp elt gs sc p =>
   cases e with
   | mk k l =>
    obtain⟨h1,h2⟩:=zA h
    have e:=of_decide_eq_true h1
    subst e
    exact(bs8 G (ca7 (sL l _ X y G 0 h2)) Y hl).imp λ D W H q=>br8 (TSv.eq (λ U s=>rfl) q)
   | _=>exact ff h
  | SetComp _ _ _ _=>cases hs
  | DictComp _ _ _ _ _=>cases hs
  | _=>exact absurd rfl hc
theorem bs3 {body:yL}(hT:TabsH T H)(nd:(T.map (·.1)).Nodup)(hm:(P,q)∈T)
  (go:∀(f:Addr) (H':Hp),bn7 H H'->(∀ b,H b≠none->H' b≠none)->TabsH T H'->H f=none->(∃ Y pm G Z,H' f=some (ay5 f (cK name q params body scope (ag5 cells scope.names []) .none .none Y pm none (.ref G) Z))/\H' G=some (qR G q))->D0.nx (W.set ix (some (.ref f))) H') :
  cv2 cells P name q params body scope pos ix D0 W H:=by
 obtain⟨ps,hP,ht,hc⟩:=hT _ hm
 refine⟨ps,hP,ht,λ hn G f Y pm Z n1 n2 ne=>?_,λ cv e=>?_⟩
 .have cP:G≠P:=λ z=>by rw[z,hP]at n1;cases n1
  have fP:f≠P:=λ z=>by rw[z,hP]at n2;cases n2
  have a0:∀ b,b≠P->H b≠none->∀ o1 o2 o3,upd (upd (upd H P o1) G o2) f o3 b=H b:=λ b z1 z2 o1 o2 o3=>by
   rw[zm λ z=>by subst z;exact z2 n2,zm λ z=>by subst z;exact z2 n1,zm z1]
  refine go f _ (λ b o d e=>?_) (λ b hb=>?_) (λ y hy=>?_) n2 ⟨Y,pm,G,Z,zo,by rw[zm ne,zo]⟩
  .rw[a0 b (λ z=>by subst z;rw[hP]at e;cases e;exact d _ rfl) (by rw[e];simp)];exact e
  .by_cases z:b=P
   .subst z;rw[zm (cb fP),zm (cb cP),zo];simp
   .rw[a0 b z hb];exact hb
  .by_cases z:y.1=P
   .have ey:=by
     have:∀(l:List (Addr×Str)),(l.map (·.1)).Nodup->y∈l->(P,q)∈l->y=(P,q):=by
      intro l
      induction l with
      | nil=>intro _ h;simp at h
      | cons a l ih =>
       intro hn h1 h2
       rw[aM,cI]at hn
       rcases aB.mp h1 with e1|h1<;>rcases aB.mp h2 with e2|h2
       .rw[e1,e2]
       .exact absurd (by rw[<-e1,z];exact bw h2) hn.1
       .exact absurd (by rw[<-e2,<-z];exact bw (f:=(·.1)) h1) hn.1
       .exact ih hn.2 h1 h2
     exact this T nd hy hm
    subst ey
    refine⟨_,by rw[zm (cb fP),zm (cb cP),zo],?_,λ J cv e=>?_⟩
    .rw[dL];exact TriplesOk_snoc _ _ _ _ ht
    .rw[dL]at e
     rcases codeAmong_add _ ht e with e'|e'
     .obtain⟨c2,e1,e2⟩:=hc J cv e'
      exact⟨c2,e1,by rw[a0 c2 (λ z=>by subst z;rw[hP]at e2;unfold qR at e2;cases e2) (by rw[e2];simp)];exact e2⟩
     .exact⟨G,e',by rw[zm ne,zo]⟩
   .obtain⟨qs,e1,e2,e3⟩:=hT y hy
    refine⟨qs,by rw[a0 y.1 z (by rw[e1];simp)];exact e1,e2,λ J cv e=>?_⟩
    obtain⟨c2,e4,e5⟩:=e3 J cv e
    exact⟨c2,e4,by rw[a0 c2 (λ z=>by subst z;rw[hP]at e5;unfold qR at e5;cases e5) (by rw[e5];simp)];exact e5⟩
 .obtain⟨G,e1,e2⟩:=hc pos cv e
  refine⟨G,e1,λ f Y pm Z n=>go f _ (.of ((ai0.refl H).new n)) (λ b hb=>by
   by_cases z:b=f
   .subst z;rw[zo];simp
   .rw[zm z];exact hb) (hT.new n) n ⟨Y,pm,G,Z,zo,?_⟩⟩
  rw[zm (zK e2 n)];exact e2
theorem be8 env : ∀ l : List Arg, (l.all λ y => y.annotation.isNone) = true -> iT l env = []
 | [], _ => by unfold iT; rfl
 | ⟨x,some a,p⟩::l,h=>by simp at h
 | ⟨x,none,p⟩::l,h=>by
  unfold iT
  exact be8 env l (by simpa using h)
theorem by4 (h:bI9 params=true) env :params.defaults=[]/\params.kw_defaults=[]/\annTrees params none env=[]:=by
 unfold bI9 at h
 split at h
 .refine⟨rfl,rfl,?_⟩
  unfold annTrees
  simp only[Option.toList,bf]
  rw[be8 env _ h];rfl
 .cases h
theorem aK2 {α:Type}{o}{f:α->Bool}(h:o.any f=true):∃ a,o=some a/\f a=true:=by
 cases o with
 | none=>exact ff h
 | some a=>exact⟨a,rfl,h⟩
theorem bv3 {s}(h:cs3 s y=some d):s=.und d.1/\y=.cons (.ret (.callC d.2.1 (.ex d.2.2.1 (.lam d.2.2.2.1 d.2.2.2.2 .nil)))) .nil:=by
 unfold cs3 at h
 split at h
 .cases h;exact⟨rfl,rfl⟩
 .cases h
theorem br3 {S:yL}(h:ct8 S=some q):S=.FunctionDef q.1 q.2.1 [.Return (some q.2.2.1) q.2.2.2.1] [] none [] q.2.2.2.2.1 none q.1 q.2.2.2.2.2.1::q.2.2.2.2.2.2:=by
 have y:∀ {p},(none)=some q->p:=λ h=>nomatch h
 cases S with
 | cons x xs =>
  cases x with
  | FunctionDef nm params body dl ret tp scope ts nm2 pos =>
   cases body with
   | cons b1 bs =>
    cases b1 with
    | Return v rp =>
     cases v with
     | some b =>
      cases bs with
      | nil =>
       cases dl with
       | nil =>
        cases ret with
        | none =>
         cases tp with
         | nil =>
          cases ts with
          | none =>
           have h:(if nm2=nm then some (nm,params,b,rp,scope,pos,xs)else none)=some q:=h
           by_cases e:nm2=nm
           .rw[if_pos e]at h;cases h;rw[e]
           .rw[if_neg e]at h;exact y h
          | _=>exact y h
         | _=>exact y h
        | _=>exact y h
       | _=>exact y h
      | _=>exact y h
     | _=>exact y h
    | _=>exact y h
   | _=>exact y h
  | _=>exact y h
 | _=>exact y h
theorem bz3 {S:yL}(h:cw6 J S=some r):S=[.Return (some (.Call (.Name r.1 r.2.1) [r.2.2.1,.Name J r.2.2.2.1] [] r.2.2.2.2.1)) r.2.2.2.2.2]:=by
 have G:∀ {p},(none)=some r->p:=λ h=>nomatch h
 cases S with
 | cons x xs =>
  cases x with
  | Return v rp2 =>
   cases v with
   | some e =>
    cases e with
    | Call f as kw cp =>
     cases f with
     | Name g gp =>
      cases as with
      | cons a as1 =>
       cases as1 with
       | cons y as2 =>
        cases y with
        | Name x p2 =>
         cases as2 with
         | nil =>
          cases kw with
          | nil =>
           cases xs with
           | nil =>
            have h:(if x=J then some (g,gp,a,p2,cp,rp2)else none)=some r:=h
            by_cases e:x=J
            .rw[if_pos e]at h;cases h;rw[e]
            .rw[if_neg e]at h;exact G h
           | _=>exact G h
          | _=>exact G h
         | _=>exact G h
        | _=>exact G h
       | _=>exact G h
      | _=>exact G h
     | _=>exact G h
    | _=>exact G h
   | _=>exact G h
  | _=>exact G h
 | _=>exact G h
theorem ch6 {s}(G:CG Γ F n X ck)(hM:cf8 ck s ss S=true):PSs X S (TSv Γ (n5 F (.cons s ss))):=by
 obtain⟨⟨i,g,e,id,Y⟩,e1,hA⟩:=aK2 hM
 clear hM
 obtain⟨⟨Z,params,b,rp,scope,pos,xs⟩,e2,hB⟩:=aK2 hA
 clear hA
 obtain⟨⟨g',gp,a,p2,cp,rp2⟩,e3,h⟩:=aK2 hB
 clear hB
 obtain⟨rfl,rfl⟩:=bv3 e1
 have e3:=bz3 e3
 have e2:=br3 e2
 dsimp only at e2 e3 h ⊢
 subst e3
 subst e2
 clear e1
 obtain⟨h,b3⟩:=zA h
 obtain⟨h,a5⟩:=zA h
 obtain⟨h,h9⟩:=zA h
 obtain⟨h,h8⟩:=zA h
 obtain⟨h,h7⟩:=zA h
 obtain⟨h,h6⟩:=zA h
 obtain⟨h,h5⟩:=zA h
 obtain⟨h0,h2⟩:=zA h
 have h7:=of_decide_eq_true h7
 subst h7
 have h1:=of_decide_eq_true h0
 clear h0
 obtain⟨c,P,a8,c2,a9,d3,J,eE,L⟩:=G.lam id Y _ h6
 obtain⟨pn,hnm⟩:∃ pn,J.nm=some pn:=by
  cases q:J.nm with
  | none=>unfold lamText at eE;rw[q]at eE;cases eE
  | some p=>exact⟨p,rfl⟩
 obtain⟨pa,pb⟩:=pn
 unfold lamText at eE
 rw[hnm]at eE
 dsimp only at eE
 cases eE
 rw[<-G.N]at L h1
 obtain⟨l1,l2⟩:=G.loc h2
 obtain⟨a1,a2,a3⟩:=by4 b3 X.env
 have b5:X.env.kindOf Z=some .local\/X.env.kindOf Z=some .cell:=l1
 have hq:kW X.env Z Z=J.qual:=by
  rw[L.q]
  unfold LamI.own kW
  rw[hnm]
  rcases b5 with z|z<;>rw[z]<;>rfl
 have p1:=ch5 (body:=[.Return (some b) rp]) (pos:=pos) (by rw[G.N];exact G.nd) h1 l1 L.code L.hd L.bm L.ck hq a1 a2 a3 l2
 have b4:PE X (.Name Z p2) (bF3 i):=bC9 G h5
 obtain⟨g1,g2,g3⟩:=G.gl h8
 rcases G.call g with hb|⟨fa,fd,ps,hF,b2,hk,hB⟩
 .intro d0 sh W H D I q
  obtain⟨C,U,s,c,s',E,R,hm,q⟩:=q
  obtain⟨c1,s1,e1,hm⟩:=aa0 hm
  have e1:(match n6 U i with|some U=>DV.R.ok (DV.Ct.next U) s|none=>.B)=.ok c1 s1:=e1
  split at e1
  case h_2=>cases e1
  cases e1
  obtain⟨c1,s1,e1,hm⟩:=aa0 hm
  obtain⟨d1,s2,e1,y⟩:=aa0 e1
  obtain⟨l,s3,e1,y⟩:=aa0 e1
  obtain⟨d,s4,e4,y⟩:=aa0 y
  rw[hb]at e4;cases e4
 have hE:=(sE e _ X ck G h9).1
 have hA:=qi hE (qi b4 ah3 (zq rfl)) (zq a5)
 have p3:=aR4 (p:=gp) (pos:=cp) hF G.room g1 b2 hk hB L.fn hA g2 (zq a5) (zY λ z hz=>by rw[bv.mp hz];rfl).1
 refine(ao0 p1 (ao0 (bk7 p3) aK0)).imp λ D W H q=>?_
 obtain⟨C,U,s,c0,s',E,R,hm,q⟩:=q
 obtain⟨c1,s1,e1,hm⟩:=aa0 hm
 have e1:(match n6 U i with|some U=>DV.R.ok (DV.Ct.next U) s|none=>.B)=.ok c1 s1:=e1
 unfold n6 at e1
 by_cases hil:i < U.length
 case neg=>rw[if_neg hil]at e1;cases e1
 rw[if_pos hil]at e1
 cases e1
 obtain⟨c1,s1,e1,hm⟩:=aa0 hm
 obtain⟨d1,s2,e1,y⟩:=aa0 e1
 cases y
 cases hm
 obtain⟨l,s3,e1,y⟩:=aa0 e1
 obtain⟨d2,s4,e4,y⟩:=aa0 y
 split at y
 case isFalse=>exact fb y
 rename_i hn
 cases y
 rw[au]at hn
 obtain⟨x1,s5,e5,e1⟩:=aa0 e1
 obtain⟨y1,s6,e6,e1⟩:=aa0 e1
 cases e1
 have e6:(match mD (U.set i none) Y with|some cs=>(nj F .nil (U.set i none) s5).bind λ l s=>DV.R.ok (DV.D.clo id cs::l) s|none=>DV.R.B)=.ok y1 s3:=e6
 cases eg:mD (U.set i none) Y with
 | none=>rw[eg]at e6;cases e6
 | some cs =>
  rw[eg]at e6
  cases e6
  refine bs3 R.tab L.nd L.tab λ f H' eS st tb hf ho=>?_
  obtain⟨a0,R1⟩:=R.sameT eS st tb
  have E1:RE Γ C H' s.length (U.set i none) (W.set i (some (.ref f))):=by
   have E0:=E.mono a0 (ak _)
   refine⟨by rw[bN,bN];exact E0.len,λ j d ej=>?_⟩
   by_cases z:i=j
   .subst z
    rw[aZ hil]at ej;cases ej
   .rw[br z]at ej
    obtain⟨q1,v,q2,q3⟩:=E0.val j d ej
    exact⟨q1,v,by rw[br z];exact q2,q3⟩
  obtain⟨cap,a6,a7,hW⟩:=bb8 E1 eg
  have hlen:=(as0 eg).1
  have c4:ak2 H' f J (ag5 X.env.cells J.scope.names []):=by
   unfold ak2;rw[hnm];skip;rw[L.p,L.b,L.s];exact ho
  refine⟨C,U.set i none,s,x1,_,E1,R1,e5,λ v1 C1 H1 g1 l1 b1 r1 b6=>?_⟩
  have c3:i < W.length:=by rw[<-E.len];exact hil
  refine⟨.ref f,by rw[aZ c3],?_⟩
  intro H2 ca
  obtain⟨gs,R2⟩:=b6.same ca.same
  have a4:=ac9 l1 cs a7
  have b0:∀ m,x1.bnd m=true->lO m cs=true->lO m [x1,.clo id cs]=true:=λ m z1 z2=>by
   simp only[lO,z1,dR,dQ]
   unfold lR;exact z2
  have bl:=b0 _ b1 a4
  have pv:PVL Γ X.env.cells X.N (W.set i (some (.ref f))) C1 H1 [x1,.clo id cs] [v1,.ref f]:=by
   refine .cons (.inl r1) (.cons (.inr ⟨id,cs,rfl,f,J,rfl,L.lg,c4.kp g1.w.kp,by rw[hlen,L.len],by rw[L.s];exact L.cl,cap,RVL.mono g1 cs cap a7 a6,λ i x v e1 e3=>?_⟩) .nil)
   have hi:i<Y.length:=by rw[<-L.len];exact(ac.mp e1).1
   have hj:Y[i]?=some Y[i]:=aj hi
   exact⟨by rw[L.s];exact L.fr x (aL e1),Y[i],L.at_ i _ x hj e1,hW i _ v hj e3⟩
  refine⟨C1,_,[x1,.clo id cs],_,_,R2,pv.caught ca L.kd bl,bl,e4,λ v C' H3 g' l' b' r' R'=>?_⟩
  have hc:Cells X.env.cells H3:=ca.cells.kp g'.w.kp
  exact q C' (ae9 X.env.cells H3) ((a0.trans g1 (ak _)).trans (Gr.caught ca g') l1) (ao l1 l') (R'.dropC hc hn.2) v b' (RV.dropC hc _ v hn.1 r')
mutual
theorem sS:∀(st:n4) (S:Stmt) (X:Cx) (y:Ck),CG Γ F n X y->mS y st S=true->PS X S (TSv Γ (DV.ex F st))
 | .A tg e,S,X,y,G,h=>by
  cases S with
  | Assign ts v p =>
   cases ts with
   | cons t ts1 =>
    cases ts1 with
    | nil =>
     obtain⟨h,h3⟩:=zA h
     obtain⟨Y,J⟩:=zA h
     cases tg with
     | Y i =>
      have h:=Y
      cases t with
      | Name x px =>
       obtain⟨a1,a2⟩:=zA h
       exact bF7 G (of_decide_eq_true a1) a2 J
      | _=>exact ff h
     | tp is =>
      obtain⟨a1,a2⟩:=zA h3
      have h:=Y
      cases t with
      | Tuple te tk tp=>exact(bC1 (sE e _ X y G J).1 (bG1 G Y) (show fx v (some (.Tuple te tk tp)) p.line X.env=pure false from ax3 a2) (aW1 a1) rfl).imp λ D W H q=>bm2 (TSv.eq (λ U s=>rfl) q)
      | _=>exact ff h
    | _=>exact ff h
   | _=>exact ff h
  | _=>exact ff h
 | .setIx o i e,S,X,y,G,h=>by
  cases S with
  | Assign ts v p2 =>
   cases ts with
   | cons tt ts1 =>
    cases tt with
    | Subscript ob ix p1 =>
     cases ts1 with
     | nil =>
      obtain⟨h,h4⟩:=zA h
      obtain⟨h,h3⟩:=zA h
      obtain⟨Y,J⟩:=zA h
      have Z:=aF8 J
      refine(bC1 (sE e _ X y G h3).1 (ca9 (sE o _ X y G Y).1 (sE i _ X y G J).1 (ci7 (aQ1 G.room)) ?_) (show fx v (some (.Subscript ob ix p1)) p2.line X.env=pure false from ax3 h4) aX3 ?_).imp λ D W H q=>bs2 (TSv.eq (λ U s=>rfl) q)
      .intro w
       cases ix<;>first|rfl|cases Z
      .rfl
     | _=>exact ff h
    | _=>exact ff h
   | _=>exact ff h
  | _=>exact ff h
 | .ex e,S,X,y,G,h=>by
  cases S with
  | Expr v p =>
   obtain⟨Y,J⟩:=zA h
   exact(bR9 (sE e _ X y G Y).1 (ax3 J)).imp λ D W H q=>bM0 (TSv.eq (λ U s=>rfl) q)
  | _=>exact ff h
 | .ret e,S,X,y,G,h=>by
  cases S with
  | Return vo p =>
   cases vo with
   | some v =>
    exact(bk7 (sE e _ X y G h).1).imp λ D W H q=>cf0 (TSv.eq (λ U s=>rfl) q)
   | _=>exact ff h
  | _=>exact ff h
 | .ite c a b,S,X,y,G,h=>by
  cases S with
  | If t l r p =>
   obtain⟨h,h3⟩:=zA h
   obtain⟨Y,J⟩:=zA h
   exact(cs1 (sE c _ X y G Y).2 (sSs a _ X y G J) (sSs b _ X y G h3)).imp λ D W H q=>ct6 (TSv.eq (λ U s=>rfl) q)
  | _=>exact ff h
 | .whl c b,S,X,y,G,h=>by
  cases S with
  | While t l o p =>
   cases o with
   | nil =>
    obtain⟨Y,J⟩:=zA h
    exact(by6 (by rw[G.xe];exact kG) (sE c _ X y G Y).2 (sSs b _ X y G J)).imp λ D W H q=>bz0 (TSv.eq (λ U s=>rfl) q)
   | _=>exact ff h
  | _=>exact ff h
 | .fo tg it b,S,X,y,G,h=>by
  cases S with
  | For tgt iter l o p =>
   cases o with
   | nil =>
    obtain⟨h,h3⟩:=zA h
    obtain⟨Y,J⟩:=zA h
    exact(cg0 (by rw[G.xe];exact kG) G.calm (sI it _ _ X y G J) (bG1 G Y) (sSs b _ X y G h3) (aM0 (ci8 J))).imp λ D W H q=>bW8 (TSv.eq (λ U s=>rfl) q)
   | _=>exact ff h
  | _=>exact ff h
 | .und _,S,X,y,G,h=>ff h
 | .raise,S,X,y,G,h=>bu7.imp λ D W H q=>by
  obtain⟨C,U,s,c,s',E,R,hm,q⟩:=q
  cases hm
theorem sSs:∀(st:nr) (S:yL) (X:Cx) (y:Ck),CG Γ F n X y->mSs y st S=true->PSs X S (TSv Γ (n5 F st))
 | .nil,S,X,y,G,h=>by
  cases S with
  | nil =>
   exact aK0.imp λ D W H q=>bG5 (m:=n5 F .nil) (λ U s=>rfl) q
  | _=>exact ff h
 | .cons s ss,S,X,y,G,h=>by
  cases S with
  | cons x xs =>
   rcases(bT _ _).mp h with h|h
   .exact ch6 G h
   obtain⟨J,Y⟩:=zA h
   exact(ao0 (sS s _ X y G J) (sSs ss _ X y G Y)).imp λ D W H q=>bX6 (TSv.eq (λ U s=>rfl) q)
  | _=>exact ff h
end
end
noncomputable def cw8 (ck:Ck):List String->List Expr->Bool
 | [],xs=>match xs with|[]=>true|_=>false
 | c::cs,xs=>match xs with|.Name x _::es=>decide (x=(c))&&ck.gl x&&cw8 ck cs es|_=>false
def mHT (ck:Ck)(n:Str):DV.HT->Expr->Bool
 | .isi cs,E=>match E with|.Call (.Name g _) [.Name x _,.Tuple es _ _] [] _=>decide (g=("isinstance"))&&ck.gl g&&decide (x=n)&&cw8 ck cs es&&decide (cs.length<=1000)|_=>false
 | .Y c,E=>match E with|.Call (.Name g _) [.Name x _,.Name d _] [] _=>decide (g=("isinstance"))&&ck.gl g&&decide (x=n)&&decide (d=(c))&&ck.gl d|_=>false
 | .not t,E=>match E with|.UnaryOp .Not e _=>mHT ck n t e|_=>false
 | .ve,E=>match E with|.Call (.Name g _) [.Name x _,.Name d _] [] _=>decide (g=("isinstance"))&&ck.gl g&&decide (x=n)&&decide (d=("ValueError"))&&ck.gl d|_=>false
 | .or a b,E=>match E with|.BoolOp .Or [x,y] _=>mHT ck n a x&&mHT ck n b y|_=>false
def mHd (ck:Ck)(n:Str):DV.Hd->List Stmt->Bool
 | .ret t,S=>match S with|[.Return (some e) _]=>mHT ck n t e|_=>false
 | .iff t b h,S=>match S with|.If e [.Return (some (.Constant (.bool b') _ _)) _] [] _::rest=>mHT ck n t e&&decide (b'=b)&&mHd ck n h rest|_=>false
 | .nob _,_=>false
 | .noe,_=>false
 | .iffN t h,S=>match S with|.If e [.Return (some (.Constant .none _ _)) _] [] _::rest=>mHT ck n t e&&mHd ck n h rest|_=>false
 | .aoN a b,S=>match S with|[.Return (some (.BoolOp .Or [.BoolOp .And [x,y] _,.Constant .none _ _] _)) _]=>mHT ck n a x&&mHT ck n b y|_=>false
 | .sup _ h,S=>mHd ck n h S
 | .kin _ _,_=>false
section
variable {Γ:Gm} {F:lZ} {n:Nat} {X:Cx} {ck:Ck} {a Cc:Addr} {oe:Obj}
end
def ct5 (ck:Ck)(nm:Str):List String->List Expr->Bool
 | [],es=>match es with|[]=>true|_=>false
 | c::cs,es=>match es with|e::es=>mHT ck nm (.Y c) e&&ct5 ck nm cs es|_=>false
noncomputable def ca3:List (List Nat)->List Expr->Bool
 | [],es=>match es with|[]=>true|_=>false
 | t::ts,es=>match es with|.Constant (.str y) _ _::es=>decide (y=⟨t.toArray⟩)&&ca3 ts es|_=>false
def cz0 (ck:Ck)(nm ks:Str)(e1 e4:Expr)(y1 y5 m4 m5 m6:Str)(es2 es3 es6:yK)(l4 l5 l6:Bool):Bool :=
 (ck.sc.names.lookup nm==some .local)&&((ck.sc.names.lookup ks==some .local)&&(!(nm==("__debug__"))&&(!(nm==("__classdict__"))&&(!(ks==("__debug__"))&&(!(ks==("__classdict__"))&&(mHT ck nm (.not .ve) e1&&(decide (y1=⟨DV.aA0.toArray⟩)&&(decide (y5=⟨DV.aA0.toArray⟩)&&(decide (m4=("append"))&&(decide (m5=("count"))&&(decide (m6=("index"))&&(l4&&(l5&&(l6&&(ct5 ck nm (DV.aU2.take 4) es2&&(ct5 ck nm ((DV.aU2.drop 4).take 4) es3&&(mHT ck nm (.Y "NoName") e4&&ca3 DV.bF2 es6)))))))))))))))))
def cp8 (ck:Ck)(S:yL):Prop:=∃(nm ks:Str) (e1 e4:Expr) (y1 y5 m4 m5 m6:Str) (es2 es3 es6:yK) (j1 j5 i5 k5 j6:Nat) (p1 q1 r1 a2 b2 c2 a3 b3 c3 d3 f3 a4 ap4 cp4 p4 a5 ap5 pj5 cp5 pi5 pc5 pk5 q5 p5 pl6 a6 ap6 pj6 cp6 ps6 p6:Pos),
 S=[.If e1 [.Return (some (.Constant (.str y1) j1 p1)) q1] [] r1,.Assign [.Name ks a2] (.List es2 b2) c2,.Assign [.Name ks a3] (.BinOp (.Name ks b3) .Add (.List es3 c3) d3) f3,.Expr (.Call (.Attribute (.Name ks a4) m4 ap4) [e4] [] cp4) p4,
  .If (.Compare (.Call (.Attribute (.Name ks a5) m5 ap5) [.Constant (.bool true) j5 pj5] [] cp5) [.NotEq] [.Constant (.int 1) i5 pi5] pc5) [.Return (some (.Constant (.str y5) k5 pk5)) q5] [] p5,.Return (some (.Subscript (.List es6 pl6) (.Call (.Attribute (.Name ks a6) m6 ap6) [.Constant (.bool true) j6 pj6] [] cp6) ps6)) p6]/\ck.N=[nm,ks] /\
 cz0 ck nm ks e1 e4 y1 y5 m4 m5 m6 es2 es3 es6 (ap4.endLine==cp4.line) (ap5.endLine==cp5.line) (ap6.endLine==cp6.line)=true
def mX (ck:Ck):DV.XB->List Stmt->Bool
 | .no,_=>true
 | .kind,S=>@decide (cp8 ck S) (d6 _)
 | .alt a b,S=>mX ck a S&&mX ck b S
 | .rais c,S=>match S with|.Raise (some (.Call (.Name x _) [.Constant (.str _) _ _] [] _)) none _::_=>decide (x=(c))&&ck.gl x|_=>false
 | .call f as,S=>match S with
  | .Return (some (.Call (.Name x _) (e::es) [] _)) _::_=>decide (x=(f))&&ck.gl x&&mAs ck as (e::es)
  | .Expr (.Call (.Name x _) (e::es) [] _) _::_=>decide (x=(f))&&ck.gl x&&mAs ck as (e::es)
  | .Return (some (.List [.Call (.Name x _) (e::es) [] _] _)) _::_=>decide (x=(f))&&ck.gl x&&mAs ck as (e::es)
  | .Assign [.Name _ _] (.Call (.Name x _) (e::es) [] _) _::_=>decide (x=(f))&&ck.gl x&&mAs ck as (e::es)
  | .Assign [.Name _ _] (.Subscript (.Call (.Name x _) (e::es) [] _) ix _) _::_=>decide (x=(f))&&ck.gl x&&mAs ck as (e::es)&&shp ix
  | _=>false
 | .iteT c a r,S=>match S with|.If t l [] _::rest=>mE ck c t&&mX ck a l&&mX ck r rest|_=>false
 | .iteE c a r,S=>match S with|.If t l o _::_=>mE ck c t&&mX ck a l&&mX ck r o|_=>false
 | .seq s b,S=>match S with|x::rest=>mS ck s x&&mX ck b rest|_=>false
 | .forX tg it b x,S=>match S with|.For tgt iter l [] _::_=>mTg ck tg tgt&&mI ck tgt it iter&&mSs ck b l&&mX ck x l|_=>false
 | .whlX c b x,S=>match S with|.While t l [] _::_=>mE ck c t&&mSs ck b l&&mX ck x l|_=>false
noncomputable def noL:DV.XB->Bool
 | .alt a b=>noL a&&noL b
 | .iteT _ a r=>noL a&&noL r
 | .iteE _ a r=>noL a&&noL r
 | .seq _ b=>noL b
 | .forX _ _ _ _=>false
 | .whlX _ _ _=>false
 | _=>true
noncomputable def noR:DV.XB->Bool
 | .alt a b=>noR a&&noR b
 | .rais _=>false
 | .iteT _ a r=>noR a&&noR r
 | .iteE _ a r=>noR a&&noR r
 | .seq _ b=>noR b
 | .forX _ _ _ x=>noR x
 | .whlX _ _ x=>noR x
 | _=>true
section
variable {Γ:Gm} {F:lZ} {n:Nat} {X:Cx} {ck:Ck} {a Cc:Addr} {oe:Obj}
noncomputable def mHn (h:DV.Hd)(S:yL):Bool:=match h with
 | .nob b=>(match S with|[.Return (some (.Constant (.bool b') _ _)) _]=>decide (b'=b)|_=>false)
 | .noe=>(match S with|[.Return (some (.List [] _)) _]=>true|_=>false)
 | _=>false
end
section
variable {X:Cx} {a:Addr} {oe:Obj}
end
section
variable {F:lZ} {X:Cx} {ck:Ck} {a Cc:Addr} {oe:Obj}
end
section
variable {Γ:Gm}
theorem aK3 (R:Rp Γ C H s)(g:Gr C s H C1 s1 G)(ho:n8 s s1=true)(y:i<s.length)(e:s1[i]?=some o):o.bnd s.length=true:=by
 unfold n8 at ho
 have:=aX.mp ho i (bq.mpr y)
 rw[e,bT]at this
 rcases this with h|h
 .exact R.wf i o (of_decide_eq_true h).symm
 .exact h
theorem jm {s1:lM}(e:(s1.take k)[i]?=some o):i<k/\s1[i]?=some o:=by
 rw[jW]at e
 split at e
 .exact⟨‹_›,e⟩
 .cases e
theorem aV7 (R:Rp Γ C H s)(g:Gr C s H C1 s1 h)(R1:Rp Γ C1 h s1)(ho:n8 s s1=true):Gr C s H C1 (s1.take s.length) h/\Rp Γ C1 h (s1.take s.length):=by
 have hl:(s1.take s.length).length=s.length:=by rw[bW];have:=g.le;lia
 refine⟨⟨g.w,by rw[hl];exact ak _,λ i J G=>by rw[hl]at G;lia,λ i o y e e'=>g.kd i o y e (jm e').2,g.st,g.fr⟩,λ i j o y e e' m m' z=>R1.inj i j o y (jm e).2 (jm e').2 m m' z,λ i o e=>R1.obj i o (jm e).2,λ i o e=>?_,R1.tab⟩
 rw[hl]
 exact aK3 R g ho (jm e).1 (jm e).2
theorem ay6 (R:Rp Γ C H s)(g:Gr C s H C1 s1 G)(R1:Rp Γ C1 G s1)(hb:v0.bnd s1.length=true)(r:RV Γ C1 G v0 v)(h:DV.zJ s v0 s1=.ok d s') :
  ∃ C',Gr C s H C' s' G/\s.length<=s'.length/\d.bnd s'.length=true/\RV Γ C' G d v/\Rp Γ C' G s':=by
 have all:d=v0->s'=s1->∃ C',Gr C s H C' s' G/\s.length<=s'.length/\d.bnd s'.length=true/\RV Γ C' G d v/\Rp Γ C' G s':=λ e1 e2=>by
  subst e1;subst e2
  exact⟨C1,g,g.le,hb,r,R1⟩
 unfold DV.zJ at h
 split at h
 case isFalse=>cases h;exact all rfl rfl
 rename_i ho
 obtain⟨gt,Rt⟩:=aV7 R g R1 ho
 have hl:(s1.take s.length).length=s.length:=by rw[bW];have:=g.le;omega
 have tk:d=v0->s'=s1.take s.length->v0.bnd s.length=true->∃ C',Gr C s H C' s' G/\s.length<=s'.length/\d.bnd s'.length=true/\RV Γ C' G d v/\Rp Γ C' G s':=λ e1 e2 b=>by
  subst e1;subst e2
  exact⟨C1,gt,by rw[hl];exact ak _,by rw[hl];exact b,r,Rt⟩
 split at h
 .rename_i k
  split at h
  .cases h
   exact tk rfl rfl (by unfold lR;exact decide_eq_true ‹_›)
  .rename_i hk
   split at h
   .rename_i o Z
    split at h
    .rename_i Y
     cases h
     have gw:Gw C1 s.length G (λ i=>if i=s.length then C1 k else C1 i) G:=⟨λ i y=>if_neg (aA y),Kp.refl _⟩
     have key:∀ i J ,(s1.take s.length++[o])[i]?=some J->(i<s.length/\s1[i]?=some J)\/(i=s.length/\J=o):=λ i J e=>by
      rcases fX i s.length with h|h|h
      .rw[ax (by rw[hl];exact h)]at e;exact .inl (jm e)
      .subst h
       rw[am (by rw[hl];exact ak _),hl,eG]at e
       exact .inr ⟨rfl,(aw e).symm⟩
      .rw[bG (by rw[aU,hl];simp;lia)]at e;cases e
     have hlen:(s1.take s.length++[o]).length=s.length+1:=by rw[aU,hl];rfl
     refine⟨λ i=>if i=s.length then C1 k else C1 i,⟨⟨λ i y=>?_,g.w.kp⟩,by rw[hlen];lia,λ i h1 h2=>?_,λ i oo J e e'=>?_,g.st,g.fr⟩,by rw[hlen];omega,by unfold lR;rw[hlen];exact decide_eq_true (dH _),?_,⟨λ i j oi oj a1 a0 mi mj e=>?_,λ i J e=>?_,λ i J e=>?_,R1.tab⟩⟩
     .skip
      rw[if_neg (aA y)];exact g.w.map i y
     .rw[hlen]at h2
      rw[if_pos (by lia)]
      exact g.new k (by lia) (ac.mp Z).1
     .rcases key i J e' with⟨_,e2⟩|⟨y,_⟩
      .exact g.kd i oo J e e2
      .have:=(ac.mp e).1;lia
     .rw[r.refE]
      unfold RV
      rw[if_pos rfl]
     .rcases key i oi a1 with⟨y,ei⟩|⟨y,zi⟩<;>rcases key j oj a0 with⟨hj,ej⟩|⟨hj,zj⟩
      .rw[if_neg (aA y),if_neg (aA hj)]at e
       exact R1.inj i j oi oj ei ej mi mj e
      .rw[if_neg (aA y),if_pos hj]at e
       subst zj
       have:=R1.inj i k oi _ ei Z mi mj e
       lia
      .rw[if_neg (aA hj),if_pos y]at e
       subst zi
       have:=R1.inj k j _ oj Z ej mi mj e
       lia
      .rw[y,hj]
     .rcases key i J e with⟨y,e⟩|⟨y,rfl⟩
      .skip
       rw[if_neg (aA y)]
       exact(R1.obj i J e).mono gw (aK3 R g ho y e) λ _ u hu=>hu
      .skip
       rw[if_pos y]
       exact(R1.obj k _ Z).mono gw Y λ _ u hu=>hu
     .rw[hlen]
      rcases key i J e with⟨y,e⟩|⟨_,rfl⟩
      .exact qO (dC _) _ (aK3 R g ho y e)
      .exact qO (dC _) _ Y
    .cases h;exact all rfl rfl
   .exact fb h
 .split at h
  .cases h;exact tk rfl rfl ‹_›
  .cases h;exact all rfl rfl
structure LamGood (J:LamI)(L:nu):Prop where
 sc:LamScope (J.ps++J.fr) J.ps J.fr J.scope
 ps:J.ps.length=L.ps
 fr:J.fr.length=L.cs
 m:mE (ck0 (J.ps++J.fr) J.scope) L.body J.body=true
 pa:lamArgs J.params=some J.ps
 bind:∀(clos:yB) (doc pm:Value) (c':Addr) (ctv:Value) (us:yG),us.length=J.ps.length->ee (bR "<lambda>" J.qual J.params J.body J.scope clos pm (.ref c') ctv) ⟨us,[]⟩=pure (J.ps.zip us) /\
  ∀(nm:Str) (rp:Pos),ee (cK nm J.qual J.params [.Return (some J.body) rp] J.scope clos .none .none doc pm none (.ref c') ctv) ⟨us,[]⟩=pure (J.ps.zip us)
structure LkAt (Γ:Gm)(cds:yF)(f:Str)(sc:Scope)(N:yH)(fd:bJ)(id:String)(caps:List Nat)(params:bp)(body:Expr)(scope:Scope)(c P:Addr)(J:LamI):Prop where
 code:fd.code=.ref c
 cd:(c,P)∈cds
 ck:lamCheck scope sc=true
 fre:∀ x,scope.names.lookup x=some .free->sc.names.lookup x=some .cell
 cel:∀ y∈sc.names,y.2=.cell->sc.names.lookup y.1=some .cell
 df:∀ env,kU params env=([],[])
 lg:Γ.lg id J
 q:J.qual=f ++ ".<locals>."++J.own
 p:J.params=params
 b:J.body=body
 s:J.scope=scope
 len:J.fr.length=caps.length
 at_:∀(i j:Nat) (x:Str),caps[i]?=some j->J.fr[i]?=some x->N[j]?=some x
 fr:∀ x∈J.fr,scope.names.lookup x=some .free
 tab:(P,J.qual)∈Γ.T
def ce2 (Γ:Gm)(cds:yF)(f:Str)(sc:Scope)(N:yH)(fd:bJ)(lk:String->List Nat->Expr->Bool):Prop :=
 ∀ id caps E,lk id caps E=true->∃ c P params body scope pos J,E=lamText J params body scope pos/\LkAt Γ cds f sc N fd id caps params body scope c P J
def GoodB (Γ:Gm)(cds:yF)(mg:yC)(f:String)(pc vc:Nat)(m:Ck->List Stmt->Bool):Prop:=∃ st N ps a fd lk,DefAt Γ.K mg (f) st ps a fd/\FnScope N ps (defScope st)/\ps.length=pc/\N.length=pc+vc/\m ⟨N,defScope st,lk⟩ (qc st)=true/\ce2 Γ cds (f) (defScope st) N fd lk
def Good (Γ:Gm)(cds:yF)(mg:yC)(f:String)(d:nv):Prop:=GoodB Γ cds mg f d.ps d.vs λ ck S=>mSs ck d.body S
noncomputable def mKc (ck:Ck)(nm:Str)(f:String)(E:Expr):Bool:=match E with|.Call (.Name g _) [.Name x _] [] _=>decide (g=(f))&&(ck.gl g&&decide (x=nm))|_=>false
def cx5 (ck:Ck)(nm:Str)(f:String)(l:Bool)(S:yL):Bool:=match S with
 | [.Return (some e) _]=>(match l with|true=>(match e with|.List [c] _=>mKc ck nm f c|_=>false)|false=>mKc ck nm f e)
 | _=>false
def mHk (ck:Ck)(nm:Str)(h:DV.Hd)(S:yL):Bool:=match h.kn with|some (f,l)=>cx5 ck nm f l S|none=>mHd ck nm h S
def mT0 (ck:Ck)(d:DV.Tf)(S:yL):Bool:=match S with
 | st::rest=>(match st with|.Try tb hs [] [] _=>(match hs with|[eh]=>(match eh with|.ExceptHandler (some en) (some nm) hb _=>(match en,hb with|.Name x _,b::su=>mSs ck d.body tb&&(mX ck d.xb tb&&(noR d.xb&&(noL d.xb&&(d.h.supOk d.c&&(decide (x=((d.h.cls d.c:String):Str))&&(ck.gl x&&(decide (ck.N[d.i]?=some nm)&&((ck.sc.names.lookup nm==some .local)&&(!(nm==("__debug__":Str))&&(!(nm==("__classdict__":Str))&&(mHk ck nm d.h (b::su)&&mSs ck d.tl rest)))))))))))|_,_=>false)|.ExceptHandler (some en) none hb _=>(match en,hb with|.Name x _,b::su=>mSs ck d.body tb&&(mX ck d.xb tb&&(noR d.xb&&(noL d.xb&&(decide (x=(d.c:Str))&&(ck.gl x&&(mHn d.h (b::su)&&mSs ck d.tl rest))))))|_,_=>false)|_=>false)|_=>false)|_=>false)
 | _=>false
def cu8 (ck:Ck):nr->List Stmt->Option (List Stmt)
 | .nil,S=>some S
 | .cons s ss,S=>match S with|x::xs=>(match mS ck s x with|true=>cu8 ck ss xs|false=>none)|[]=>none
def mT (ck:Ck)(d:DV.Tf)(S:yL):Bool:=match cu8 ck d.pre S with
 | some S1=>mT0 ck d S1
 | none=>false
structure PrOk (Γ:Gm)(cds:yF)(P:l7)(mg:yC)(w:World):Prop where
 df:∀ f d,P.df f=some d->Good Γ cds mg f d
 con:∀ x d,P.con x=some d->∃ v u,mg (x:Str)=some u/\RelV v u/\(∀ m,d.bnd m=true)/\∀ C H,RV Γ C H d v
 bi:∀ x∈bNames,mg x=none
 fa:∀(f:String) (a:Addr),Γ.fa f=some a->mg (f:Str)=some (.ref a)/\∃ oc od fd sl,Γ.K.lookup a=some ⟨oc,od,.func fd,sl⟩
 lg:∀ id J,Γ.lg id J->∃ L,P.lm id=some L/\LamGood J L
 nd:(Γ.T.map (·.1)).Nodup
 xf:∀ f d,P.xf f=some d->GoodB Γ cds mg f d.ps d.vs λ ck S=>mX ck d.body S
 tf:∀ f d,P.tf f=some d->GoodB Γ cds mg f d.ps d.vs λ ck S=>mT ck d S
 xc:∀ c:String,P.xc c=true->∃ Cc,mg (c:Str)=some (.ref Cc)/\ExcCls Γ.K Cc/\excI Γ.K Cc=true
 xt:∀ c:String,P.xt c=true->∃ Cc,mg (c:Str)=some (.ref Cc)
 xs:∀(c d:String) (Cc D:Addr),P.xc c=true->P.xt d=true->mg (c:Str)=some (.ref Cc)->mg (d:Str)=some (.ref D)->cu Γ.K (.ref Cc) (.ref D)=some (DV.subC c d)
 xm:∀(c d:String) (Cc D:Addr),P.xc c=true->P.xt d=true->mg (c:Str)=some (.ref Cc)->mg (d:Str)=some (.ref D)->kY Γ.K (.ref Cc) (.ref D)=some (DV.subC c d)
 xe:∀(c:String) (Cc:Addr),P.xc c=true->mg (c:Str)=some (.ref Cc)->kY Γ.K (.ref Cc) (.ref Cc)=some true
 v0:∀ c:String,P.xc c=true->mg ("ValueError":Str)=none
 v1:∀(c:String) (Cc:Addr),P.xc c=true->mg (c:Str)=some (.ref Cc)->cu Γ.K (.ref Cc) (.type "ValueError")=some true
 cdc:∀(c:String) kvs,P.cdc c=some kvs->∃ a,mg (c:Str)=some (.ref a)/\∀(prog:aK) (h:Heap),Γ.K.In h->StrTab prog w h a (strD kvs)
def aP6 (Γ:Gm)(prog:aK)(w:World)(mg:yC)(base:Heap)(F:lZ)(n:Nat):Prop:=(∀ f:String,(∀ l s,F.call f l s=.B) \/
  ∃ a fd ps,FnOk prog w Γ.K mg base CX0 n a fd ps (spV Γ (F.call f))/\mg (f:Str)=some (.ref a)/\cE Γ.K (.ref a)=true/\Binds Γ.K fd ps []) /\
 ∀(id:String) (J:LamI) (f:Addr) (cap:List V) (clos:yB),Γ.lg id J->cap.length=J.fr.length->ClOk prog w Γ.K mg base n (λ H=>CloAt H f J cap clos) f (spL Γ (F.lam id) cap)
theorem bt2 (r:RVL Γ C H l vs)(b:lO n l=true)(hN:N.length=l.length+k):RE Γ C H n (l.map some++aq k none) (al5 N vs):=by
 have hl:=r.length
 refine⟨?_,λ i d e=>?_⟩
 .unfold al5;simp[hl,hN]
 .by_cases hi:i<l.length
  .rw[ax (by simpa using hi),av]at e
   have e':l[i]?=some d:=by
    rw[aj hi]at e ⊢
    exact aw e
   obtain⟨v,e1,e2⟩:=r.get e'
   refine⟨ao7 b e',v,?_,e2⟩
   unfold al5
   rw[ax (by rw[aD,hl];exact hi),av,e1];rfl
  .rw[am (by simpa using ko hi)]at e
   rw[gq]at e
   split at e<;>cases e
theorem bE4 (J:PrOk Γ G P mg w) n :∀ c y,(lW P n).cdc c=some y->∃ a,mg (c)=some (.ref a)/\∀ h:Heap,Γ.K.In h->StrTab prog w h a (strD y):=by
 have:(lW P n).cdc=P.cdc:=by cases n<;>rfl
 rw[this]
 intro c y e
 obtain⟨a,Y,Z⟩:=J.cdc c y e
 exact⟨a,Y,Z prog⟩
theorem cb0 (hP:PrOk Γ Z P mg w)(hb:∀ y∈Z,bS base y.1 y.2/\BM mg base) n (G:aP6 Γ prog w mg base (lW P n) (n+31))
  {f:String} {st:Stmt} (hS:FnScope N ps (defScope st)) (hL:ce2 Γ Z (f:Str) (defScope st) N fd lk) Y (a3:∀ id h E,lk id h E=true->fd.code=Y) A a0 sh H E (hr:Room (n+31) (A.deeper (fC (f:Str) (defScope st) sh.heap.objs.size a Y))) :
  CG Γ (lW P n) (n+31) (bv2 CX0 prog w Γ.K mg base N (f:Str) (defScope st) a Y A a0 sh H E).nox ⟨N,defScope st,lk⟩:=by
 refine⟨rfl,rfl,hS.nd,rfl,rfl,?_,hr,λ x k e=>.inl e,λ _ _=>rfl,hP.bi,G.1,?_,λ id h E' hlk=>?_,G.2,hP.fa,DV.ah9 P n,bE4 hP n⟩
 .show lY+1<=n+31
  unfold lY;lia
 .have:(lW P n).con=P.con:=by cases n<;>rfl
  rw[this];exact hP.con
 .obtain⟨c,Pa,params,body,scope,pos,J,eE,L⟩:=hL id h E' hlk
  obtain⟨a6,a4⟩:=hb _ L.cd
  obtain⟨L',_,lg⟩:=hP.lg id J L.lg
  refine⟨c,Pa,params,body,scope,pos,J,eE,⟨?_,a6,a4,L.ck,L.df _,L.lg,L.q,L.p,L.b,L.s,L.len,L.at_,L.fr,λ x hx=>?_,L.tab,hP.nd,λ _=>rfl,λ x c hx=>?_,lg.sc,lg.pa,λ a1 pm c' a5 us a2=>(lg.bind a1 .none pm c' a5 us a2).1⟩⟩
  .show Y=.ref c
   rw[<-a3 id h E' hlk];exact L.code
  .exact qu (L.fre x hx)
  .rcases zS (aF hx)with z|z
   .exact .inl (L.cel (x,.cell) z rfl)
   .exact absurd z (by simp)
theorem cd5 {a2:yF}{P:l7}{prog:aK}{w:World}{mg:yC}{base:Heap}(hP:PrOk Γ a2 P mg w)(hb:∀ y∈a2,bS base y.1 y.2/\BM mg base)(n:Nat)(a1:aP6 Γ prog w mg base (lW P n) (n+31))
  {f:String} {d:nv} (e:P.df f=some d) {st:Stmt} {N ps:yH} {a:Addr} {fd:bJ} {lk:String->List Nat->Expr->Bool} (hD:DefAt Γ.K mg (f:Str) st ps a fd) (hS:FnScope N ps (defScope st)) (h1:ps.length=d.ps) (h2:N.length=d.ps+d.vs) (hm:mSs ⟨N,defScope st,lk⟩ d.body (qc st)=true) (hL:ce2 Γ a2 (f:Str) (defScope st) N fd lk) :
  FnOk prog w Γ.K mg base CX0 (n+1+31) a fd ps (spV Γ ((lW P (n+1)).call f)):=by
 have hlen:∀ vs H Q E,spV Γ ((lW P (n+1)).call f) vs H Q E->vs.length=ps.length:=λ vs H Q E q=>by
  obtain⟨C,s,l,d',s',R,r,b,hc,k⟩:=q
  simp only[lW,e]at hc
  split at hc
  .rw[r.length,h1];assumption
  .exact fb hc
 have body:∀(a0:Value),(∀ id Y E,lk id Y E=true->fd.code=a0)->∀(A:aV) (Z:List Env) (sh:ah) (H:Hp) (vs:List V) (Q:VK) (E:XK),Room (n+31) (A.deeper (fC (f:Str) (defScope st) sh.heap.objs.size a a0))->spV Γ ((lW P (n+1)).call f) vs H Q E ->
   ∃ t,PSs (bv2 CX0 prog w Γ.K mg base N (f:Str) (defScope st) a a0 A Z sh H E).nox (qc st) t/\t { nx:=λ _ H'=>Q .N H',rt:=Q } (al5 N vs) H:=by
  intro a0 a3 A Z sh H vs Q E hr q
  have G:=cb0 hP hb n a1 hS hL (a:=a) a0 a3 A Z sh H E hr
  refine⟨_,sSs d.body (qc st) _ ⟨N,defScope st,lk⟩ G hm,?_⟩
  obtain⟨C,s,l,d',s',R,r,b,hc,k⟩:=q
  simp only[lW,e]at hc
  split at hc
  case isFalse=>exact fb hc
  rename_i hlen
  obtain⟨c,s1,e1,hc⟩:=aa0 hc
  refine⟨C,l.map some++aq d.vs none,s,c,s1,bt2 r b (by rw[h2,hlen]),R,e1,λ C1 H1 g1 l1 R1=>?_⟩
  cases c with
  | ret v0 =>
   intro v hb rv
   obtain⟨C',g',l',b',r',R'⟩:=ay6 R g1 R1 hb rv hc
   exact k v C' H1 g' l' b' r' R'
  | next U =>
   intro W' _
   obtain⟨C',g',l',b',r',R'⟩:=ay6 (v0:=.N) R g1 R1 rfl RV.nonI hc
   exact k .N C' H1 g' l' b' r' R'
  | cont U=>exact fb hc
  | brk U=>exact fb hc
 by_cases hl:∃ id Y E,lk id Y E=true
 .obtain⟨id,Y,E,hlk⟩:=hl
  obtain⟨c,Pa,params,a4,scope,pos,J,eE,L⟩:=hL id Y E hlk
  exact hD.fn.okC L.code hS hlen (body _ λ _ _ _ _=>L.code)
 .exact hD.fn.ok hS hlen (λ a0=>body a0 λ id Y E h=>absurd ⟨id,Y,E,h⟩ hl)
theorem bI7 (hP:PrOk Γ b4 P mg w) n (a1:aP6 Γ prog w mg base (lW P n) (n+31))
   id J f cap Z (b2:Γ.lg id J) (a4:cap.length=J.fr.length) :
  ClOk prog w Γ.K mg base (n+1+31) (λ H=>CloAt H f J cap Z) f (spL Γ ((lW P (n+1)).lam id) cap):=by
 obtain⟨L,eL,LG⟩:=hP.lg id J b2
 have hlen:∀ vs H Q E,spL Γ ((lW P (n+1)).lam id) cap vs H Q E->vs.length=J.ps.length:=λ vs H Q E q=>by
  obtain⟨C,s,cs,l,d,s',R,r,rc,b,bc,hc,k⟩:=q
  simp only[lW,eL]at hc
  split at hc
  .rename_i hh;rw[r.length,LG.ps];exact hh.1
  .exact fb hc
 have main:∀(A:aV) (a0:List Env) (sh:ah) (H:Hp) (cd:Value) (vs:List V) (Q:VK),Room (n+31) (A.deeper (db J.qual J.scope sh.heap.objs.size f cd (aP (sh.heap.objs.size+1) J.scope.names Z)))->Cells Z H->(∀ b o,Γ.K.lookup b=some o->H b=none)->spL Γ ((lW P (n+1)).lam id) cap vs H Q E0 ->
   ∃ t,PE (aN6 prog w Γ.K mg base (J.ps++J.fr) J.qual J.scope f cd Z A a0 sh H) J.body t/\t (vs.map some++cap.map some) (ae9 Z H) λ v H'=>(∀ b,isC Z b=true->H' b=none)->Q v (Put Z H H'):=by
  intro A a0 sh H cd vs Q hr Y hK q
  have G:CG Γ (lW P n) (n+31) (aN6 prog w Γ.K mg base (J.ps++J.fr) J.qual J.scope f cd Z A a0 sh H) (ck0 (J.ps++J.fr) J.scope):=by
   refine⟨rfl,rfl,LG.sc.nd,rfl,rfl,?_,hr,λ x k e=>.inl e,λ x e=>?_,hP.bi,a1.1,?_,λ _ _ _ h=>(by cases h),a1.2,hP.fa,DV.ah9 P n,bE4 hP n⟩
   .skip
    unfold lY;lia
   .show(J.scope.names.lookup x==some .cell)=true
    rw[e];rfl
   .have:(lW P n).con=P.con:=by cases n<;>rfl
    rw[this];exact hP.con
  refine⟨_,(sE L.body J.body _ (ck0 (J.ps++J.fr) J.scope) G LG.m).1,?_⟩
  obtain⟨C,s,cs,l,d,s',R,r,rc,b,bc,hc,k⟩:=q
  simp only[lW,eL]at hc
  split at hc
  case isFalse=>exact fb hc
  rename_i hh
  obtain⟨h1,h2,h3⟩:=hh
  rw[au,au]at h3
  obtain⟨⟨b0,b3⟩,b5⟩:=h3
  obtain⟨v0,s1,e1,hc⟩:=aa0 hc
  have RD:=R.dropC Y b5
  have a8:=(RVL.dropC Y l vs b0 r).append (RVL.dropC Y cs cap b3 rc)
  refine⟨C,l.map some++cs.map some,s,v0,s1,⟨by simp[r.length,rc.length],λ i x ei=>?_⟩,RD,e1,λ v C1 H1 g1 l1 b1 r1 R1 a3=>?_⟩
  .rw[<-cg,av]at ei
   have a7:(l++cs)[i]?=some x:=by
    cases q:(l++cs)[i]? with
    | none=>rw[q]at ei;cases ei
    | some y=>rw[q]at ei;cases ei;rfl
   obtain⟨u,e3,e4⟩:=a8.get a7
   refine⟨ao7 (qo b bc) a7,u,?_,e4⟩
   rw[<-cg,av,e3];rfl
  .obtain⟨C',g',l',b',r',R'⟩:=ay6 RD g1 R1 b1 r1 hc
   have gp:=Gr.put Y a3 hK R' g'
   obtain⟨gs,Rs⟩:=R'.same (bd9 a3)
   exact k v C' _ gp l' b' (RV.mono gs d v b' r') Rs
 unfold CloAt
 cases q:J.nm with
 | none=>exact bT5 LG.sc hlen a4 (λ pm c' a2 us a5=>(LG.bind Z .none pm c' a2 us a5).1) (λ A a0 sh H cd vs Q hr a6 hK q=>by
   obtain⟨pm,c',a2,_,_,Y,_⟩:=a6
   exact main A a0 sh H cd vs Q hr Y hK q)
 | some p=>exact bO9 LG.sc hlen a4 (λ a9 pm c' a2 us a5=>(LG.bind Z a9 pm c' a2 us a5).2 _ _) (λ A a0 sh H cd vs Q hr a6 hK q=>by
   obtain⟨a9,pm,c',a2,_,_,Y,_⟩:=a6
   obtain⟨t,h1,h2⟩:=main A a0 sh H cd vs Q hr Y hK q
   exact⟨_,ao0 (bk7 h1) aK0,h2⟩)
theorem aR5 (Y:PrOk Γ G P mg w)(hb:∀ y∈G,bS base y.1 y.2/\BM mg base)(ht:∀ f,P.tf f=none):∀ n:Nat,aP6 Γ prog w mg base (lW P n) (n+31)
 | 0=>⟨λ f=>.inl λ l s=>rfl,λ id J f cap h _ _=>⟨λ A a0 s H us vs Q _ _ _ _ q=>by
   obtain⟨C,s,cs,l,d,s',R,r,rc,b,bc,hc,k⟩:=q
   cases hc⟩⟩
 | n+1=>by
  have ih:=aR5 (prog:=prog) Y hb ht n
  refine⟨λ f=>?_,λ id J f cap h h1 Z=>bI7 Y n ih id J f cap h h1 Z⟩
  cases e:P.df f with
  | none=>exact .inl λ l s=>by simp only[lW,e,ht f]
  | some d =>
   obtain⟨st,N,ps,a,fd,lk,hD,hS,h1,Z,hm,hL⟩:=Y.df f d e
   exact .inr ⟨a,fd,ps,cd5 Y hb n ih e hD hS h1 Z hm hL,hD.mg,hD.fn.kp,hD.bi⟩
def spT (Γ:Gm):Sp:=λ vs H Q _=>∃(a:Addr) (ns:List Int),vs=[.ref a]/\SqF Γ.K H a (ns.map V.int)/\ns.length<=63/\TabsH Γ.T H/\∀ H',Q (.T true) H'
theorem aU8 :∀ ns:List Int,RVL Γ C H (ns.map DV.D.int) (ns.map V.int)
 | []=>.nil
 | n::ns=>.cons RV.intI (aU8 ns)
theorem aG6 :∀ ns:List Int,lO m (ns.map DV.D.int)=true
 | []=>rfl
 | n::ns=>by rw[aM];unfold lO;rw[aG6 ns];rfl
theorem ce4 (h:∀ ns:List Int,ns.length<=63->∃ s',(lW P k).call "law" [.ref 0] [.ro (ns.map DV.D.int)]=.ok (.T true) s') vs  H  Q  E (q:spT Γ vs H Q E):spV Γ ((lW P k).call "law") vs H Q E:=by
 obtain⟨a,ns,rfl,hS,hl,hT,y⟩:=q
 obtain⟨s',hs⟩:=h ns hl
 refine⟨λ _=>a,[.ro (ns.map DV.D.int)],[.ref 0],.T true,s',⟨λ i j o G e e' m m' _=>?_,λ i o e=>?_,λ i o e=>?_,hT⟩,.cons RV.refI .nil,?_,hs,λ v C' H' g l b r R=>?_⟩
 .cases i with
  | zero=>cases e;cases m
  | succ i=>cases e
 .cases i with
  | zero=>cases e;exact⟨_,hS,aU8 ns⟩
  | succ i=>cases e
 .cases i with
  | zero=>cases e;unfold lT;exact aG6 ns
  | succ i=>cases e
 .unfold lO lR lO;rfl
 .rw[r.blE];exact y H'
theorem aT0 :∀ {tbl:List (String×nv)},(∀ p∈tbl,Good Γ y mg p.1 p.2)->∀ f d,tbl.lookup f=some d->Good Γ y mg f d
 | [],_,f,d,h=>by cases h
 | (g,e)::tbl,H,f,d,h=>by
  rw[bj]at h
  cases q:f==g with
  | true =>
   rw[q]at h
   cases h
   rw[eq_of_beq q]
   exact H (g,_) (aG ..)
  | false =>
   rw[q]at h
   exact aT0 (λ p G=>H p (aE _ G)) f d h
def bo5 (Γ:Gm)(mg:yC)(x:String)(d:lN):Prop:=∃ v u,mg (x)=some u/\RelV v u/\(∀ m,d.bnd m=true)/\∀ C H,RV Γ C H d v
theorem bf1 :∀ {tbl:List (String×lN)},(∀ p∈tbl,bo5 Γ mg p.1 p.2)->∀ f d,tbl.lookup f=some d->bo5 Γ mg f d
 | [],_,f,d,h=>by cases h
 | (g,e)::tbl,H,f,d,h=>by
  rw[bj]at h
  cases q:f==g with
  | true =>
   rw[q]at h
   cases h
   rw[eq_of_beq q]
   exact H (g,_) (aG ..)
  | false =>
   rw[q]at h
   exact bf1 (λ p y=>H p (aE _ y)) f d h
theorem al7 (h:mg (x:Str)=some (.int i t)):bo5 Γ mg x (.int i):=⟨.int i,_,h,⟨t,rfl⟩,λ _=>rfl,λ _ _=>RV.intI⟩
inductive ConV (Γ:Gm):lN->Value->Prop where
 | int (i:Int) (t:Tok):ConV Γ (.int i) (.int i t)
 | str (x:List Nat) (t:Tok) (h:x.length<=1000):ConV Γ (.str x) (.str ⟨x.toArray⟩ t)
inductive ConL (Γ:Gm):List lN->List Value->Prop where
 | nil:ConL Γ [] []
 | cons {d v l vs} (a:ConV Γ d v) (b:ConL Γ l vs):ConL Γ (d::l) (v::vs)
theorem bF8 {its:yG}(h:mg (x:Str)=some (.ref a))(hk:Γ.K.lookup a=some o)(hc:o.cls=.type "tuple")(hd:o.data=.seq its.toArray n)(hz:its.length<=1000)
  (hl:ConL Γ l its) (Y:mF l=false:=by rfl):bo5 Γ mg x (.tp l):=by
 have key:∃ y,Vals y its/\(∀ m,lO m l=true)/\∀ C H,RVL Γ C H l y:=by
  clear hd hz Y
  induction hl with
  | nil=>exact⟨[],.nil,λ _=>rfl,λ _ _=>.nil⟩
  | cons a b ih =>
   obtain⟨y,G,J,h3⟩:=ih
   cases a with
   | int i t=>exact⟨.int i::y,.cons ⟨t,rfl⟩ G,λ m=>by unfold lO;rw[J];rfl,λ C H=>.cons RV.intI (h3 C H)⟩
   | str x t h=>exact⟨.str ⟨x.toArray⟩::y,.cons ⟨t,rfl⟩ G,λ m=>by unfold lO;rw[J];rfl,λ C H=>.cons (RV.strI (by unfold lU;omega)) (h3 C H)⟩
 obtain⟨y,G,J,h3⟩:=key
 refine⟨.ref a,_,h,rfl,λ m=>by unfold lR;exact J m,λ C H=>RV.tupC (.inr ⟨o,its.toArray,n,hk,hc,hd,?_,G⟩) (λ z=>by rw[Y]at z;cases z) (h3 C H)⟩
 rw[ay];exact aU3 hz
end
theorem aZ3 {K:af}{mg mb:yC}{vs:yG}{tabs:yF}
  (KX:K.In G.heap) (b0:G.heap.Ns aY mg) (hb:G.heap.Ns gD mb) (d2:∀ x:Str,x ≠ "__name__"->mb x=bz x) (a9:G.heap.NoLimit) (hg:G.gens=#[]) (c0:BM mg G.heap) (hT:kZ tabs G.heap) (c2:k6 K=true)
  (ha:G.heap.get? a=some { cls:=.type "list",data:=.seq vs.toArray }) (hi:kL vs ns) (hl:ns.length<=aQ) (hr:Room k iu)
  (F:∀ base:Heap,K.In base->base.Ns aY mg->BM mg base->(∀ q∈tabs,bS base q.1 q.2)->FnOk P w K mg base CX0 k fa fd [x] sp) (a5:∀(s:ah) (u:Value),kJ s fd ⟨[u],[]⟩ [(x,u)])
  (c3:∀ H:Hp,(∀ q∈tabs,H q.2=some (.tbl #[]))->SqL K H a (ns.map V.int)->(∀ u,H a=some u->(∃ o xs,u=.frz o (.J xs))\/∃ ps,u=.tbl ps)->sp [.ref a] H (λ v _=>v=.T true) E0) :
  fR (model P w) iu (.call (.ref fa) ⟨[.ref a],[]⟩) (λ r s'=>r=.ok (.ret (.bool true))/\OldK G.heap s'.heap/\s'.os=G.os/\fO s'.gens) G:=by
 have rv:=aI8 hi
 have a8:=hi.length
 have J:∀ b,b∈tabs.map (·.2)->G.heap.get? b=some (eC #[]):=λ b h=>by
  obtain⟨q,hq,rfl⟩:=az.mp h
  exact(hT q hq).2
 have a1:∀ H:Hp,(∀ b u,H b=some u->(b=a/\∃ o xs,u=.frz o (.J xs))\/(b∈tabs.map (·.2)/\u=.tbl #[]))->(∀ q∈tabs,H q.2=some (.tbl #[]))->SqL K H a (ns.map V.int)->HOk P w H G.heap->(H a≠none->K.lookup a=none) ->
   fR (model P w) iu (.call (.ref fa) ⟨[.ref a],[]⟩) (λ r s'=>r=.ok (.ret (.bool true))/\OldK G.heap s'.heap/\s'.os=G.os/\fO s'.gens) G:=by
  intro H hO c4 hS hok hK
  have un:∀ b o,G.heap.get? b=some o->o.cls≠.type "list"->(∀ vs,o.data≠.fields vs)->H b=none:=λ b o e n1 n2=>by
   cases q:H b with
   | none=>rfl
   | some u =>
    rcases hO b u q with⟨z,_⟩|⟨z,_⟩
    .rw[z,ha]at e;cases e;exact absurd rfl n1
    .rw[J b z]at e;cases e;exact absurd rfl (n2 #[])
  have Z:∀ {b:Addr} {m:yC},G.heap.Ns b m->(bq7 G.heap H).Ns b m:=λ {b m} ⟨o,es,ep,e,d,r⟩=>by
   refine⟨o,es,ep,an8 e ?_,d,r⟩
   cases q:H b with
   | none=>rfl
   | some u =>
    rcases hO b u q with⟨z,_⟩|⟨z,_⟩
    .rw[z,ha]at e;cases e;cases d
    .rw[J b z]at e;cases e;cases d
  have a6:K.In (bq7 G.heap H):=λ b o e=>an8 (KX b o e) (by
   cases q:H b with
   | none=>rfl
   | some u =>
    rcases hO b u q with⟨z,_⟩|⟨z,_⟩
    .subst z
     rw[hK (by rw[q];simp)]at e;cases e
    .have e2:=KX b o e
     rw[J b z]at e2
     have h2:=aX.mp c2 (b,o) (PySem.W.mem_of_lookupK e)
     have e3:o=eC #[]:=(aw e2).symm
     subst e3
     exact absurd (show false=true from h2) aS)
  have hM:Mod K mg (bq7 G.heap H):=⟨a6,Z b0,⟨mb,Z hb,d2⟩,let⟨mc,h1,h2⟩:=a9;⟨mc,Z h1,h2⟩⟩
  have c1:BM mg (bq7 G.heap H):=by
   obtain⟨bm,ob,b1,b2,b3,b4,b5,b6⟩:=c0
   exact⟨bm,ob,b1,b2,an8 b3 (un bm ob b3 (by rw[b4];nofun) (by rw[b6];nofun)),b4,b5,b6⟩
  have d0:∀ q∈tabs,bS (bq7 G.heap H) q.1 q.2:=λ q hq=>by
   obtain⟨o,d3,a7,tf,a4,tg,d1,text,tt,e1,r1,r2⟩:=(hT q hq).1
   refine⟨o,d3,a7,tf,a4,tg,d1,text,tt,an8 e1 ?_,r1,r2⟩
   cases q2:H q.1 with
   | none=>rfl
   | some u =>
    rcases hO _ u q2 with⟨z,_⟩|⟨z,_⟩
    .rw[z,ha]at e1;cases e1;exact absurd r1 (by simp)
    .rw[J _ z]at e1;cases e1;exact absurd r1 (by simp)
  have e0:Env0 P w K mg (bq7 G.heap H) iu [] G H:=⟨rfl,hM,λ b o e=>bR7 e,Nat.le_of_eq (be2 _ _),trivial,λ b hb=>absurd (show b∈([]:List Addr)from hb) (by simp),hok,.of_eq hg⟩
  refine fq ((F _ a6 (Z b0) c1 d0).run iu [] G H ⟨[.ref a],[]⟩ [.ref a] [.ref a] _ _ hr e0 (a5 G (.ref a)) (.cons rfl .nil) (c3 H c4 hS (λ u e=>(hO a u e).elim (λ z=>.inl z.2) (λ z=>.inr ⟨_,z.2⟩)))) λ r s' h=>?_
  cases r with
  | error e=>exact bI h
  | ok fl =>
   cases fl with
   | next=>exact bI h
   | brk=>exact bI h
   | cont=>exact bI h
   | ret u =>
    obtain⟨v,H',os,bare,a3,a2,r',q⟩:=h
    have q':v=.T true:=q
    subst q'
    obtain rfl:u=Value.bool true:=r'
    have key:∀ b o,G.heap.get? b=some o->asItWas G.heap s'.heap b o/\∃ o',s'.heap.get? b=some o':=λ b o e=>by
     cases q:H b with
     | none =>
      have z:=a3.keep b o e q (by intro z;exact absurd (show b∈([]:List Addr)from z) (by simp)) (by simp)
      exact⟨.inl z,o,z⟩
     | some u =>
      rcases hO b u q with⟨_,ob,xs,z⟩|⟨z,z2⟩
      .subst z
       have z2:=a3.frzs b ob _ q
       obtain⟨e1,_⟩:=hok b _ q
       obtain⟨e2,_⟩:=a2 b _ z2
       rw[e]at e1;cases e1
       exact⟨.inl e2,_,e2⟩
      .subst z2
       obtain⟨a0,z3⟩:=a3.tbls b _ q
       have g:s'.heap.get? b=some { cls:=.none,data:=.fields (#[]++a0) }:=a2 b _ z3
       have e1:=J b z
       rw[e]at e1;cases e1
       obtain⟨p,hp,ep⟩:=az.mp z
       refine⟨.inr (.inl ⟨?_,rfl,#[],a0,rfl,g⟩),_,g⟩
       have t:=((hT p hp).1.tab (hT p hp).2).isCodeTable
       rw[ep]at t
       exact t
    exact⟨rfl,⟨λ b o e=>(key b o e).1,λ b o e=>(key b o e).2⟩,os,bare⟩
 have tbl:∀ b,b∈tabs.map (·.2)->b≠a:=λ b h z=>by
  have e:=J b h
  rw[z,ha]at e;cases e
 cases hk:K.lookup a with
 | some o =>
  have e:=KX a o hk
  rw[ha]at e
  cases e
  refine a1 (λ b=>if b∈tabs.map (·.2)then some (.tbl #[])else none) (λ b u z=>?_) (λ q hq=>if_pos (bw hq)) (.inr ⟨_,vs.toArray,_,hk,rfl,rfl,rfl,by rw[ay,a8];exact hl,by simpa using rv⟩) (λ b u z=>?_) λ z=>?_
  .by_cases hb:b∈tabs.map (·.2)
   .have Y:=(if_pos hb).symm.trans z
    cases Y
    exact .inr ⟨hb,rfl⟩
   .have Y:=(if_neg hb).symm.trans z
    cases Y
  .by_cases hb:b∈tabs.map (·.2)
   .have Y:=(if_pos hb).symm.trans z
    cases Y
    exact J b hb
   .have Y:=(if_neg hb).symm.trans z
    cases Y
  .exact absurd (if_neg λ y=>tbl a y rfl) z
 | none =>
  refine a1 (λ b=>if b=a then some (.frz { cls:=.type "list",data:=.seq vs.toArray } (.J (ns.map V.int)))else if b∈tabs.map (·.2)then some (.tbl #[])else none) (λ b u z=>?_) (λ q hq=>?_) (.inl (.inr ⟨{ cls:=.type "list",data:=.seq vs.toArray },if_pos rfl⟩)) (λ b u z=>?_) λ _=>hk
  .by_cases hb:b=a
   .have Y:=(if_pos hb).symm.trans z
    cases Y
    exact .inl ⟨hb,_,_,rfl⟩
   .have Y:=(if_neg hb).symm.trans z
    by_cases hc:b∈tabs.map (·.2)
    .rw[if_pos hc]at Y;cases Y;exact .inr ⟨hc,rfl⟩
    .rw[if_neg hc]at Y;cases Y
  .have hm:q.2∈tabs.map (·.2):=bw hq
   show(if _ then _ else if _ then _ else _)=_
   rw[if_neg (tbl _ hm),if_pos hm]
  .by_cases hb:b=a
   .have Y:=(if_pos hb).symm.trans z
    cases Y
    subst hb
    exact⟨ha,by rw[aD];exact hl,vs,_,rv,ha⟩
   .have Y:=(if_neg hb).symm.trans z
    by_cases hc:b∈tabs.map (·.2)
    .rw[if_pos hc]at Y;cases Y;exact J b hc
    .rw[if_neg hc]at Y;cases Y
theorem bg5 {l:di}{loose:yH}{K:Params->af}{sp:af->Sp} names 
  (hn:l.most=some n) (a2:n<=aQ) (a5:d.params.defaults=[]) (hr:Room k iu)
  (hY:∀(w:World) (h:Heap),YP w h->(K w.params).In h/\∀ P∈ts,h.get? P=some (eC #[])) (a0:∀ w:World,cd4 (K w.params) names ts=true) (a1:∀ w:World,k6 (K w.params)=true)
  (F:∀(w:World) (mg:yC) (fa:Addr) (h:Heap),(K w.params).In h->h.Ns aY mg->mg d.name=some (.ref fa) ->
   ∃ fd:bJ,(∀(s:ah) (u:Value),kJ s fd ⟨[u],[]⟩ [(x,u)]) /\
    ∀ base:Heap,(K w.params).In base->base.Ns aY mg->BM mg base->bT7 (K w.params) names base->FnOk l.prog w (K w.params) mg base CX0 k fa fd [x] (sp (K w.params)))
  (a4:∀(K:af) (H:Hp) (a:Addr) (ns:List Int),ns.length<=n->bH3 K names H->SqL K H a (ns.map V.int)->(∀ u,H a=some u->(∃ o xs,u=.frz o (.J xs))\/∃ ps,u=.tbl ps)->sp K [.ref a] H (λ v _=>v=.T true) E0) :
  la q loose XP YP l.row.toRowW d [] (λ f vs=>kM f vs):=by
 refine Att.attach_call hn a5 λ w s₀ s₁ mg mb fa o pm cd a7 a vs ns G Y ho hd a8 a3 Z J hlen hg=>?_
 obtain⟨KX,a6⟩:=hY w _ Y
 obtain⟨fd,hb,hF⟩:=F w mg fa _ KX G.T.g a3
 have hT:kZ ((aE2 (K w.params) names).map (·.2)) s₁.heap:=λ p hp=>by
  obtain⟨y,hy,rfl⟩:=az.mp hp
  obtain⟨h1,h2⟩:=av0.mp hy
  have z:=aX.mp (a0 w) y.1 h1
  rw[h2]at z
  have z':(kr (K w.params) y.2.1 y.2.2&&ts.contains y.2.2)=true:=z
  rw[au]at z'
  exact⟨PySem.W.codeHd_of_K KX z'.1,a6 _ (by simpa using z'.2)⟩
 have hm:∀ x∈names,∀ c P,bo (K w.params) x=some (c,P)->(c,P)∈(aE2 (K w.params) names).map (·.2):=λ x hx c P e=>az.mpr ⟨(x,c,P),av0.mpr ⟨hx,e⟩,rfl⟩
 refine aZ3 (tabs:=(aE2 (K w.params) names).map (·.2)) KX G.T.g G.T.b G.T.builtins G.T.nolimit hg ?_ hT (a1 w) Z J (ao hlen a2) hr (λ base k1 k2 k3 k4=>hF base k1 k2 k3 λ x hx c P e=>k4 _ (hm x hx c P e)) hb λ H hO hS hF=>a4 (K w.params) H a ns hlen (λ x hx c P e=>hO _ (hm x hx c P e)) hS hF
 obtain⟨bm,ob,h1,h2,h3,h4,h5,h6⟩:=G.T.bmain
 exact⟨bm,ob,h1,h2,h3,h4,h5,h6⟩
def spB (names:yH)(K:af):Sp:=λ vs H Q _=>∃(a:Addr) (ns:List Int),vs=[.ref a]/\SqF K H a (ns.map V.int)/\ns.length<=63/\bH3 K names H/\∀ H',Q (.T true) H'
theorem cd1 {K}{ns:List Int}(hl:ns.length<=63)(G:bH3 K names H)(hS:SqL K H a (ns.map V.int))(J:∀ u,H a=some u->(∃ o y,u=.frz o (.J y))\/∃ ps,u=.tbl ps):spB names K [.ref a] H (λ v _=>v=.T true) E0:=by
 refine⟨a,ns,rfl,⟨hS,λ H' k=>?_⟩,hl,G,λ _=>rfl⟩
 rcases hS with(h|⟨o,h⟩)|h
 .rcases J _ h with⟨_,_,z⟩|⟨_,z⟩<;>cases z
 .exact .inl (.inr ⟨o,k _ _ h rfl⟩)
 .exact .inr h
def cz7 (P:l7):String->LamI->Prop:=λ id J=>∃ L,P.lm id=some L/\LamGood J L
noncomputable def sfx (x:Str):Str:=if x = "letter_table" then "least_fee" else "<lambda>"
def bO6 (names:yH)(K:af):List (Addr×Str):=names.map λ x=>(((bo K x).getD (0,0)).2,x ++ ".<locals>."++sfx x)
noncomputable def bL8 (names:yH)(K:af):List (Addr×Addr):=names.map λ x=>(bo K x).getD (0,0)
noncomputable def ch7 (K:af)(f:String):Option Addr:=match ci K aY (f)with
 | some (some (.ref a))=>(match K.lookup a with
  | some ⟨_,_,.func _,_⟩=>some a
  | _=>none)
 | _=>none
theorem bJ8 {K}{f:String}{od:yI}{sl:yE}(y:ci K aY (f:Str)=some (some (.ref a)))(G:K.lookup a=some ⟨oc,od,.func h,sl⟩):ch7 K f=some a:=by
 unfold ch7
 rw[y]
 simp only
 rw[G]
theorem aT9 {K}(h:ch7 K f=some a):ci K aY (f)=some (some (.ref a))/\∃ oc od y sl,K.lookup a=some ⟨oc,od,.func y,sl⟩:=by
 unfold ch7 at h
 split at h
 .rename_i G e
  split at h
  .rename_i oc od y sl e2
   cases h
   exact⟨e,_,_,_,_,e2⟩
  .cases h
 .cases h
abbrev bk6 (names:yH)(P:l7)(K:af):Gm:=⟨K,ch7 K,cz7 P,bO6 names K⟩
theorem co9 {K}{mg:yC}(X:K.In h)(G:h.Ns aY mg):∀ f a ,(bk6 names P K).fa f=some a->mg (f)=some (.ref a)/\∃ oc od y sl,(bk6 names P K).K.lookup a=some ⟨oc,od,.func y,sl⟩:=λ f a e=>⟨bU X G (aT9 e).1,(aT9 e).2⟩
theorem bA3 {K}{mg}{f:String}{od:yI}{sl:yE}(X:K.In h)(G:h.Ns aY mg)(y:ci K aY (f:Str)=some (some (.ref a)))(Y:K.lookup a=some ⟨oc,od,.func J,sl⟩):bo5 (bk6 names P K) mg f (.fn f) :=
 ⟨.ref a,.ref a,bU X G y,rfl,λ _=>rfl,λ C H=>by unfold RV;exact⟨a,bJ8 y Y,rfl⟩⟩
theorem by9 {K}(ht:∀ x∈names,(bo K x).isSome=true)(q:spB names K vs H Q E):spT (bk6 names P K) vs H Q E:=by
 obtain⟨a,ns,e,hS,hl,G,y⟩:=q
 refine⟨a,ns,e,hS,hl,TabsH.init λ p h=>?_,y⟩
 simp only[bO6,dh]at h
 obtain⟨x,hx,rfl⟩:=az.mp h
 exact G x hx _ _ (aC4 (ht x hx))
theorem bC5 {K}(ht:∀ x∈names,(bo K x).isSome=true)(bm:BM mg base)(hc:bT7 K names base):∀ y∈bL8 names K,bS base y.1 y.2/\BM mg base:=λ y hy=>by
 obtain⟨x,hx,rfl⟩:=az.mp hy
 exact⟨hc x hx _ _ (aC4 (ht x hx)),bm⟩
theorem qT {ps:yH}(h:lamArgs p=some ps):∃ args,p=⟨[],args,none,[],[],none,[]⟩/\args.map (·.arg)=ps:=by
 unfold lamArgs at h
 split at h
 .exact⟨_,rfl,aw h⟩
 .cases h
def aG7 (ps:yH):Prop:=∀ params,lamArgs params=some ps->∀ qual   body   scope  (clos:yB)  doc pm   c'   ctv  (us:yG),us.length=ps.length->ee (bR "<lambda>" qual params body scope clos pm (.ref c') ctv) ⟨us,[]⟩=pure (ps.zip us) /\
 ∀ nm rp ,ee (cK nm qual params [.Return (some body) rp] scope clos .none .none doc pm none (.ref c') ctv) ⟨us,[]⟩=pure (ps.zip us)
noncomputable def bf2 (ps fr:yH)(sc:Scope):Bool:=decide (sc.kind=.function)&&!sc.isCoroutine&&!sc.isGenerator&&decide ((ps++fr).Nodup)&&(ps.all λ x=>decide (sc.names.lookup x=some .local)||decide (sc.names.lookup x=some .cell))&&(fr.all λ x=>decide (sc.names.lookup x=some .free))&&(sc.names.all λ y=>!decide (y.2=.cell)||decide (sc.names.lookup y.1=some .cell))
theorem bc2 (h:bf2 ps fr sc=true):LamScope (ps++fr) ps fr sc:=by
 unfold bf2 at h
 simp only[au,decide_eq_true_eq,fY,aX,bT]at h
 obtain⟨⟨⟨⟨⟨⟨Y,h2⟩,h3⟩,Z⟩,J⟩,G⟩,h7⟩:=h
 exact⟨Y,h2,h3,Z,rfl,J,G,λ y hy e=>by
  rcases h7 y hy with z|z
  .rw[e]at z;simp at z
  .exact z⟩
noncomputable def bY0 (scope sc:Scope):Bool:=scope.names.all λ y=>!decide (scope.names.lookup y.1=some .free)||decide (sc.names.lookup y.1=some .cell)
theorem bt0 (h:bY0 scope sc=true):∀ x,scope.names.lookup x=some .free->sc.names.lookup x=some .cell:=λ x hx=>by
 have:=aX.mp h (x,.free) (aF hx)
 simp only[bT,fY,decide_eq_false_iff_not,decide_eq_true_eq]at this
 rcases this with z|z
 .exact absurd hx z
 .exact z
def lkB (sc:Scope)(N:yH)(caps:List Nat)(params:bp)(body:Expr)(scope:Scope)(t:nu×List Str×List Str):Bool :=
 decide (lamArgs params=some t.2.1)&&decide (caps.map (λ j=>N[j]?)=t.2.2.map some)&&lamCheck scope sc&&bY0 scope sc&&bf2 t.2.1 t.2.2 scope&&decide (t.2.1.length=t.1.ps)&&decide (t.2.2.length=t.1.cs)&&mE (ck0 (t.2.1++t.2.2) scope) t.1.body body
def lkG (f:Str)(sc:Scope)(N:yH)(tab:List (String×nu×List Str×List Str))(id:String)(caps:List Nat)(E:Expr):Bool:=match tab.lookup id,E with
 | some t,.Lambda params body scope _=>decide (sfx f = "<lambda>")&&lkB sc N caps params body scope t
 | some t,.NamedExpr (.Name nm _) (.Lambda params body scope p1) p2=>decide (sfx f=nm)&&decide (p1=p2)&&lkB sc N caps params body scope t
 | _,_=>false
theorem bP1 {K}(hf:f∈names)(Y:fd.code=.ref ((bo K f).getD (0,0)).1)(Z:∀ y∈sc.names,y.2=.cell->sc.names.lookup y.1=some .cell)
  (a0:∀ id t,tab.lookup id=some t->P.lm id=some t.1/\aG7 t.2.1):ce2 (bk6 names P K) (bL8 names K) f sc N fd (lkG f sc N tab):=by
 intro id G E h
 have J:∀ t   params   body   scope   nm ,tab.lookup id=some t->lkB sc N G params body scope t=true->(match nm with|none => "<lambda>" | some p=>p.1)=sfx f ->
   LkAt (bk6 names P K) (bL8 names K) f sc N fd id G params body scope ((bo K f).getD (0,0)).1 ((bo K f).getD (0,0)).2 ⟨f ++ ".<locals>."++sfx f,params,body,scope,t.2.1,t.2.2,nm⟩:=λ t params body scope nm e h hs=>by
  obtain⟨L,ps,fr⟩:=t
  unfold lkB at h
  simp only[au,decide_eq_true_eq]at h
  obtain⟨⟨⟨⟨⟨⟨⟨h1,h2⟩,h3⟩,h4⟩,h5⟩,h6⟩,h7⟩,h8⟩:=h
  obtain⟨hL,hB⟩:=a0 id _ e
  obtain⟨args,rfl,a1⟩:=qT h1
  have hlen:=by have:=congrArg ie h2;simpa using this.symm
  have S:=bc2 h5
  refine⟨Y,az.mpr ⟨f,hf,rfl⟩,h3,bt0 h4,Z,λ env=>rfl,⟨L,hL,⟨S,h6,h7,h8,h1,λ a3 a4 pm c' a5 us a2=>hB _ h1 _ _ _ _ _ _ _ _ _ a2⟩⟩,?_,rfl,rfl,rfl,hlen,λ i j x e1 e2=>?_,S.frs,az.mpr ⟨f,hf,rfl⟩⟩
  .skip
   unfold LamI.own
   rw[<-hs]<;>rfl
  .have e3:(G.map (λ j=>N[j]?))[i]?=some (N[j]?):=by rw[av,e1];rfl
   rw[h2,av,e2]at e3
   exact(aw e3).symm
 unfold lkG at h
 split at h
 case h_3=>cases h
 .rename_i t params body scope pos e
  rw[au]at h
  exact⟨_,_,params,body,scope,pos,_,rfl,J t params body scope none e h.2 (of_decide_eq_true h.1).symm⟩
 .rename_i t nm rp params body scope p1 p2 e
  rw[au,au]at h
  have ep:=of_decide_eq_true h.1.2
  subst ep
  exact⟨_,_,params,body,scope,p1,_,rfl,J t params body scope (some (nm,rp)) e h.2 (of_decide_eq_true h.1.1).symm⟩
theorem bf4 {K}:ce2 (bk6 names P K) (bL8 names K) f sc N y (λ _ _ _=>false):=λ _ _ _ h=>by cases h
theorem cn4 {K}:∀ id J,(bk6 names P K).lg id J->∃ L,P.lm id=some L/\LamGood J L:=λ _ _ h=>h
theorem cr7 {P:l7}{tab:List (String×nu×List Str×List Str)}(h:∀ p∈tab,P.lm p.1=some p.2.1/\aG7 p.2.2.1):∀ id t,tab.lookup id=some t->P.lm id=some t.1/\aG7 t.2.1:=by
 induction tab with
 | nil=>intro id t e;cases e
 | cons y l ih =>
  intro id t e
  rw[bj]at e
  cases q:id==y.1 with
  | true =>
   rw[q]at e
   cases e
   rw[eq_of_beq q]
   exact h y (aG ..)
  | false =>
   rw[q]at e
   exact ih (λ p G=>h p (aE _ G)) id t e
def cm9 (K:af)(n:Str)(st:Stmt):Prop:=∃(f:Addr) (od an:yI) (sl:yE) (oc kV dc pm cd ct:Value),ci K aY n=some (some (.ref f)) /\
 K.lookup f=some ⟨oc,od,.func (da n n (defArgs st) (qc st) (defScope st) .none kV dc pm an cd ct),sl⟩/\fD K cd n=true/\cE K (.ref f)=true
def cw3 (n:Str)(st:Stmt)(ps:yH):Prop:=∀ kV doc pm (an:yI) cdv ct (us:yG),us.length=ps.length->ee (da n n (defArgs st) (qc st) (defScope st) .none kV doc pm an cdv ct) ⟨us,[]⟩=pure (ps.zip us)
theorem bd0 {Q:List Value->Prop}(h:Q [])(us:yG)(hl:us.length=0):Q us:=by
 cases us with
 | nil=>exact h
 | cons _ _=>cases hl
theorem bdS {Q:List Value->Prop}(h:∀ a us,us.length=k->Q (a::us))(us:yG)(hl:us.length=k+1):Q us:=by
 cases us with
 | nil=>cases hl
 | cons a us=>exact h a us (Nat.succ.inj hl)
theorem bd1 {Q:List Value->Prop}(h:∀ a,Q [a]):∀ us:List Value,us.length=1->Q us:=bdS λ a=>bd0 (h a)
theorem bd2 {Q:List Value->Prop}(h:∀ a b,Q [a,b]):∀ us:List Value,us.length=2->Q us:=bdS λ a=>bd1 (h a)
theorem bd3 {Q:List Value->Prop}(h:∀ a b c,Q [a,b,c]):∀ us:List Value,us.length=3->Q us:=bdS λ a=>bd2 (h a)
theorem bd4 {Q:List Value->Prop}(h:∀ a b c d,Q [a,b,c,d]):∀ us:List Value,us.length=4->Q us:=bdS λ a=>bd3 (h a)
def DTB (names:yH)(P:l7)(n:String)(pc vc:Nat)(m:Ck->List Stmt->Bool)(st:Stmt):Prop:=∃ N ps,FnScope N ps (defScope st)/\ps.length=pc/\N.length=pc+vc/\cw3 n st ps/\(m ⟨N,defScope st,λ _ _ _=>false⟩ (qc st)=true \/
 ((n:Str)∈names/\∃ tab,m ⟨N,defScope st,lkG n (defScope st) N tab⟩ (qc st)=true/\(∀ y∈(defScope st).names,y.2=.cell->(defScope st).names.lookup y.1=some .cell)/\∀ p∈tab,P.lm p.1=some p.2.1/\aG7 p.2.2.1))
def DT (names:yH)(P:l7)(n:String)(d:nv)(st:Stmt):Prop:=DTB names P n d.ps d.vs (λ ck S=>mSs ck d.body S) st
theorem br7 {names:yH}{P:l7}{K:af}{h:Heap}{mg:yC}{n:String}{J Y:Nat}{m:Ck->List Stmt->Bool}{st:Stmt}(X:K.In h)(G:h.Ns aY mg)(hT:∀ x∈names,(bo K x).isSome=true)(hD:cm9 K n st)(hd:DTB names P n J Y m st):GoodB (bk6 names P K) (bL8 names K) mg n J Y m:=by
 obtain⟨f,od,an,sl,oc,kV,dc,pm,cd,ct,a,l,c,k⟩:=hD
 obtain⟨N,ps,h1,Z,h3,h4,y⟩:=hd
 have F:=bD4 (st:=st) l c k
 have D:DefAt K mg n st ps f _:=⟨F,bU X G a,F.binds h4⟩
 rcases y with y|⟨hn,tab,y,h6,h7⟩
 .exact⟨_,_,_,_,_,_,D,h1,Z,h3,y,bf4⟩
 .exact⟨_,_,_,_,_,_,D,h1,Z,h3,y,bP1 hn (PySem.W.law_code X G (aC4 (hT _ hn)) (bU X G a) (X _ _ l) rfl) h6 (cr7 h7)⟩
theorem good_of {K}{mg}{n:String}{st}(X:K.In h)(G:h.Ns aY mg)(hT:∀ x∈names,(bo K x).isSome=true)(hD:cm9 K n st)(hd:DT names P n d st):Good (bk6 names P K) (bL8 names K) mg n d:=br7 X G hT hD hd
end L2
end
noncomputable section
namespace DV
noncomputable def af2:Df:=⟨"is_whole",3,0,(.cons (.ret (.and (.bi .isInt (.cons (.X 0) .nil)) (.and (.not (.bi .isBool (.cons (.X 0) .nil))) (.chain .le .le (.X 1) (.X 0) (.X 2))))) .nil)⟩
noncomputable def ad0:Df:=⟨"is_tuple_of",2,0,(.cons (.ret (.and (.bi .isTup (.cons (.X 0) .nil)) (.Z .eq (.bi .len (.cons (.X 0) .nil)) (.X 1)))) .nil)⟩
noncomputable def ae3:Df:=⟨"is_letter",2,0,(.cons (.ret (.Z .isin (.X 0) (.slU (.gl "LETTERS") (.X 1)))) .nil)⟩
noncomputable def cr8:Df:=⟨"_law_bag",2,3,(.cons (.A (.Y 2) (.K (.int 0))) (.cons (.ite (.Z .lt (.X 1) (.bi .len (.cons (.X 0) .nil))) (.cons (.A (.Y 2) (.bi .abs (.cons (.ix (.X 0) (.X 1)) .nil))) .nil) .nil) (.cons (.A (.Y 3) (.G .add (.G .mul (.K (.int 7919)) (.X 1)) (.K (.int 17)))) (.cons (.fo (.Y 4) (.rg (.bi .min2 (.cons (.bi .len (.cons (.X 0) .nil)) (.cons (.K (.int 60)) .nil)))) (.cons (.A (.Y 3) (.G .mod (.G .add (.G .add (.G .mul (.X 3) (.K (.int 48271))) (.G .mod (.ix (.X 0) (.X 4)) (.K (.int 2147483647)))) (.X 4)) (.K (.int 2147483629)))) .nil)) (.cons (.ite (.Z .lt (.X 2) (.G .pow (.K (.int 10)) (.K (.int 18)))) (.cons (.A (.Y 2) (.K (.int 0))) .nil) .nil) (.cons (.ret (.J (.cons (.X 2) (.cons (.X 3) .nil)))) .nil))))))⟩
noncomputable def ce5:Df:=⟨"_law_take",2,3,(.cons (.ite (.Z .gt (.ix (.X 0) (.K (.int 0))) (.K (.int 0))) (.cons (.A (.Y 2) (.G .mod (.ix (.X 0) (.K (.int 0))) (.X 1))) (.cons (.setIx (.X 0) (.K (.int 0)) (.G .fdiv (.ix (.X 0) (.K (.int 0))) (.X 1))) (.cons (.ret (.X 2)) .nil))) .nil) (.cons (.A (.Y 3) (.K (.int 0))) (.cons (.A (.Y 4) (.K (.int 1))) (.cons (.whl (.Z .lt (.X 4) (.X 1)) (.cons (.setIx (.X 0) (.K (.int 1)) (.G .mod (.G .add (.G .mul (.ix (.X 0) (.K (.int 1))) (.K (.int 48271))) (.K (.int 7919))) (.K (.int 2147483647)))) (.cons (.A (.Y 3) (.G .add (.G .mul (.X 3) (.K (.int 1073741789))) (.G .mod (.G .mul (.G .fdiv (.ix (.X 0) (.K (.int 1))) (.K (.int 8))) (.K (.int 69621))) (.K (.int 1073741789))))) (.cons (.A (.Y 4) (.G .mul (.X 4) (.K (.int 1073741789)))) .nil)))) (.cons (.ret (.G .mod (.X 3) (.X 1))) .nil)))))⟩
noncomputable def bK7:Df:=⟨"_law_rooms",2,1,(.cons (.A (.Y 2) (.call "_law_take" (.ex (.X 0) (.ex (.G .shl (.K (.int 1)) (.X 1)) .nil)))) (.cons (.ret (.mk .tuple (.compIf (.Y 0) (.rg (.X 1)) (.Z .eq (.G .mod (.G .fdiv (.X 1) (.G .shl (.K (.int 1)) (.X 0))) (.K (.int 2))) (.K (.int 1))) (.X 0) [none,some 2]))) .nil))⟩
noncomputable def bi7:Df:=⟨"_law_machine",1,5,(.cons (.A (.Y 1) (.G .add (.K (.int 1)) (.call "_law_take" (.ex (.X 0) (.ex (.K (.int 3)) .nil))))) (.cons (.A (.Y 2) (.G .add (.K (.int 1)) (.call "_law_take" (.ex (.X 0) (.ex (.K (.int 5)) .nil))))) (.cons (.A (.Y 3) (.call "_law_take" (.ex (.X 0) (.ex (.K (.int 13)) .nil)))) (.cons (.ite (.Z .eq (.call "_law_take" (.ex (.X 0) (.ex (.K (.int 8)) .nil))) (.K (.int 7))) (.cons (.A (.Y 3) (.call "_law_take" (.ex (.X 0) (.ex (.K (.int 76)) .nil)))) .nil) .nil) (.cons (.A (.Y 4) (.J .nil)) (.cons (.fo (.Y 5) (.rg (.X 3)) (.cons (.ex (.me .append (.X 4) (.cons (.tp (.cons (.call "_law_take" (.ex (.X 0) (.ex (.X 2) .nil))) (.cons (.ix (.K (.str [97,98,99])) (.call "_law_take" (.ex (.X 0) (.ex (.X 1) .nil)))) (.cons (.call "_law_take" (.ex (.X 0) (.ex (.X 2) .nil))) (.cons (.call "_law_take" (.ex (.X 0) (.ex (.K (.int 4)) .nil))) .nil))))) .nil))) .nil)) (.cons (.ret (.tp (.cons (.X 1) (.cons (.X 2) (.cons (.call "_law_rooms" (.ex (.X 0) (.ex (.X 2) .nil))) (.cons (.call "_law_rooms" (.ex (.X 0) (.ex (.X 2) .nil))) (.cons (.mk .tuple (.seq (.X 4))) .nil))))))) .nil)))))))⟩
noncomputable def ad6:Df:=⟨"letters_of",1,0,(.cons (.ret (.slU (.gl "LETTERS") (.ix (.X 0) (.K (.int 0))))) .nil)⟩
noncomputable def ci3:Df:=⟨"_law_word",3,2,(.cons (.A (.Y 3) (.K (.str []))) (.cons (.fo (.Y 4) (.rg (.call "_law_take" (.ex (.X 0) (.ex (.G .add (.X 2) (.K (.int 1))) .nil)))) (.cons (.A (.Y 3) (.G .add (.X 3) (.ix (.K (.str [97,98,99])) (.call "_law_take" (.ex (.X 0) (.ex (.X 1) .nil)))))) .nil)) (.cons (.ret (.X 3)) .nil)))⟩
noncomputable def aa8:Df:=⟨"rooms_of",1,0,(.cons (.ret (.ix (.X 0) (.K (.int 1)))) .nil)⟩
noncomputable def jr:Df:=⟨"begins_of",1,0,(.cons (.ret (.ix (.X 0) (.K (.int 2)))) .nil)⟩
noncomputable def aj9:Df:=⟨"ends_of",1,0,(.cons (.ret (.ix (.X 0) (.K (.int 3)))) .nil)⟩
noncomputable def ab3:Df:=⟨"doors_of",1,0,(.cons (.ret (.ix (.X 0) (.K (.int 4)))) .nil)⟩
noncomputable def ad7:Df:=⟨"grid",2,2,(.cons (.A (.Y 2) (.J .nil)) (.cons (.fo (.Y 3) (.rg (.X 0)) (.cons (.ex (.me .append (.X 2) (.cons (.mk .tuple (.comp (.Y 0) (.rg (.X 0)) (.callV 1 (.cons (.X 2) (.cons (.X 0) .nil))) [none,some 1,some 3])) .nil))) .nil)) (.cons (.ret (.mk .tuple (.seq (.X 2)))) .nil)))⟩
noncomputable def ad5:Df:=⟨"least",1,0,(.cons (.ret (.mkD .min (.compIf (.Y 0) (.seq (.X 0)) (.notN (.X 0)) (.X 0) [none]) (.K .N))) .nil)⟩
noncomputable def ad9:Df:=⟨"added",2,0,(.cons (.ite (.or (.isN (.X 0)) (.isN (.X 1))) (.cons (.ret (.K .N)) .nil) .nil) (.cons (.ret (.G .add (.X 0) (.X 1))) .nil))⟩
noncomputable def ae1:Df:=⟨"plain",1,0,(.cons (.ret (.callC "grid" (.ex (.X 0) (.lam "plain.0" [] .nil)))) .nil)⟩
noncomputable def ab1:Lm:=⟨"plain.0",2,0,(.ite (.Z .eq (.X 0) (.X 1)) (.K (.int 0)) (.K .N))⟩
noncomputable def ab4:Df:=⟨"product",2,1,(.cons (.A (.Y 2) (.bi .len (.cons (.X 0) .nil))) (.cons (.ret (.callC "grid" (.ex (.X 2) (.lam "product.0" [2,0,1] .nil)))) .nil))⟩
noncomputable def aa6:Lm:=⟨"product.0",2,3,(.call "least" (.ex (.mk .list (.comp (.Y 0) (.rg (.X 2)) (.call "added" (.ex (.ix (.ix (.X 1) (.X 2)) (.X 0)) (.ex (.ix (.ix (.X 3) (.X 0)) (.X 4)) .nil))) [none,some 3,some 0,some 4,some 1])) .nil))⟩
noncomputable def bx9:Df:=⟨"_law_same",2,2,(.cons (.ite (.or (.not (.bi .isTup (.cons (.X 0) .nil))) (.Z .ne (.bi .len (.cons (.X 0) .nil)) (.bi .len (.cons (.X 1) .nil)))) (.cons (.ret (.K (.T false))) .nil) .nil) (.cons (.fo (.Y 2) (.rg (.bi .len (.cons (.X 1) .nil))) (.cons (.ite (.or (.not (.bi .isTup (.cons (.ix (.X 0) (.X 2)) .nil))) (.Z .ne (.bi .len (.cons (.ix (.X 0) (.X 2)) .nil)) (.bi .len (.cons (.X 1) .nil)))) (.cons (.ret (.K (.T false))) .nil) .nil) (.cons (.fo (.Y 3) (.seq (.ix (.X 0) (.X 2))) (.cons (.ite (.and (.notN (.X 3)) (.or (.not (.bi .isInt (.cons (.X 3) .nil))) (.bi .isBool (.cons (.X 3) .nil)))) (.cons (.ret (.K (.T false))) .nil) .nil) .nil)) .nil))) (.cons (.ret (.Z .eq (.X 0) (.X 1))) .nil)))⟩
noncomputable def ae0:Df:=⟨"raised",4,3,(.cons (.A (.Y 4) (.X 2)) (.cons (.A (.Y 5) (.X 0)) (.cons (.A (.Y 6) (.X 1)) (.cons (.whl (.Z .gt (.X 6) (.K (.int 0))) (.cons (.ite (.Z .eq (.G .mod (.X 6) (.K (.int 2))) (.K (.int 1))) (.cons (.A (.Y 4) (.callV 3 (.cons (.X 4) (.cons (.X 5) .nil)))) .nil) .nil) (.cons (.A (.Y 6) (.G .fdiv (.X 6) (.K (.int 2)))) (.cons (.ite (.Z .gt (.X 6) (.K (.int 0))) (.cons (.A (.Y 5) (.callV 3 (.cons (.X 5) (.cons (.X 5) .nil)))) .nil) .nil) .nil)))) (.cons (.ret (.X 4)) .nil)))))⟩
noncomputable def af7:Df:=⟨"power",2,0,(.cons (.ret (.call "raised" (.ex (.X 0) (.ex (.X 1) (.ex (.call "plain" (.ex (.bi .len (.cons (.X 0) .nil)) .nil)) (.ex (.gl "product") .nil)))))) .nil)⟩
noncomputable def aa4:Df:=⟨"letter_table",2,1,(.cons (.und 2) (.cons (.ret (.callC "grid" (.ex (.call "rooms_of" (.ex (.X 0) .nil)) (.lam "letter_table.least_fee" [0,1] .nil)))) .nil))⟩
noncomputable def aa2:Lm:=⟨"letter_table.least_fee",2,2,(.call "least" (.ex (.mk .list (.compIf (.tp [0,1,2,3]) (.seq (.call "doors_of" (.ex (.X 2) .nil))) (.Z .eq (.tp (.cons (.X 0) (.cons (.X 1) (.cons (.X 2) .nil)))) (.tp (.cons (.X 4) (.cons (.X 5) (.cons (.X 6) .nil))))) (.X 3) [none,none,none,none,some 0,some 3,some 1])) .nil))⟩
noncomputable def aa7:Df:=⟨"word_table",2,3,(.cons (.A (.Y 2) (.dc .nil .nil)) (.cons (.A (.Y 3) (.call "plain" (.ex (.call "rooms_of" (.ex (.X 0) .nil)) .nil))) (.cons (.fo (.Y 4) (.seq (.X 1)) (.cons (.ite (.Z .notin (.X 4) (.X 2)) (.cons (.setIx (.X 2) (.X 4) (.call "letter_table" (.ex (.X 0) (.ex (.X 4) .nil)))) .nil) .nil) (.cons (.A (.Y 3) (.call "product" (.ex (.X 3) (.ex (.ix (.X 2) (.X 4)) .nil)))) .nil))) (.cons (.ret (.X 3)) .nil))))⟩
noncomputable def aJ3:Df:=⟨"_law_from_room",3,7,(.cons (.A (.Y 3) (.mk .list (.comp (.Y 0) (.rg (.ix (.X 0) (.K (.int 1)))) (.K .N) [none]))) (.cons (.setIx (.X 3) (.X 2) (.K (.int 0))) (.cons (.fo (.Y 4) (.seq (.X 1)) (.cons (.A (.Y 5) (.mk .list (.comp (.Y 0) (.seq (.X 3)) (.K .N) [none]))) (.cons (.fo (.tp [6,7,8,9]) (.seq (.ix (.X 0) (.K (.int 4)))) (.cons (.ite (.and (.Z .eq (.X 7) (.X 4)) (.notN (.ix (.X 3) (.X 6)))) (.cons (.ite (.or (.isN (.ix (.X 5) (.X 8))) (.Z .lt (.G .add (.ix (.X 3) (.X 6)) (.X 9)) (.ix (.X 5) (.X 8)))) (.cons (.setIx (.X 5) (.X 8) (.G .add (.ix (.X 3) (.X 6)) (.X 9))) .nil) .nil) .nil) .nil) .nil)) (.cons (.A (.Y 3) (.X 5)) .nil)))) (.cons (.ret (.mk .tuple (.seq (.X 3)))) .nil))))⟩
noncomputable def bg8:Df:=⟨"law",1,7,.nil⟩
noncomputable def zM:Df:=⟨"at_begins_and_ends",2,2,.nil⟩
noncomputable def aO1:Df:=⟨"price",2,0,(.cons (.ret (.call "least" (.ex (.call "at_begins_and_ends" (.ex (.X 0) (.ex (.call "word_table" (.ex (.X 0) (.ex (.X 1) .nil))) .nil))) .nil))) .nil)⟩
noncomputable def ae5:Df:=⟨"sign_of",1,0,(.cons (.ite (.isN (.X 0)) (.cons (.ret (.gl "NONE")) .nil) .nil) (.cons (.ret (.ite (.Z .eq (.X 0) (.K (.int 0))) (.gl "FREE") (.gl "SOME"))) .nil))⟩
noncomputable def ae8:Df:=⟨"reading",1,0,(.cons (.ret (.callC "grid" (.ex (.bi .len (.cons (.X 0) .nil)) (.lam "reading.0" [0] .nil)))) .nil)⟩
noncomputable def ac1:Lm:=⟨"reading.0",2,1,(.call "sign_of" (.ex (.ix (.ix (.X 2) (.X 0)) (.X 1)) .nil))⟩
noncomputable def af8:Df:=⟨"plain_signs",1,0,(.cons (.ret (.callC "grid" (.ex (.X 0) (.lam "plain_signs.0" [] .nil)))) .nil)⟩
noncomputable def af0:Lm:=⟨"plain_signs.0",2,0,(.ite (.Z .eq (.X 0) (.X 1)) (.gl "FREE") (.gl "NONE"))⟩
noncomputable def ai8:Df:=⟨"_law_box",2,4,(.cons (.A (.Y 2) (.K (.int 0))) (.cons (.ite (.Z .lt (.X 1) (.bi .len (.cons (.X 0) .nil))) (.cons (.A (.Y 2) (.bi .abs (.cons (.ix (.X 0) (.X 1)) .nil))) .nil) .nil) (.cons (.ite (.Z .ge (.X 2) (.G .pow (.K (.int 10)) (.K (.int 18)))) (.cons (.ret (.J (.cons (.X 2) .nil))) .nil) .nil) (.cons (.A (.Y 3) (.K (.int 0))) (.cons (.fo (.Y 4) (.rg (.K (.int 128))) (.cons (.A (.Y 5) (.G .mod (.G .mul (.G .add (.G .add (.G .add (.G .mod (.X 2) (.K (.int 2147483647))) (.G .mul (.K (.int 7919)) (.X 1))) (.G .mul (.K (.int 104729)) (.X 4))) (.K (.int 97))) (.K (.int 48271))) (.K (.int 2147483647)))) (.cons (.A (.Y 3) (.G .add (.G .mul (.X 3) (.K (.int 2147483647))) (.G .mod (.G .add (.G .add (.G .mul (.X 5) (.X 5)) (.G .mul (.K (.int 31)) (.X 4))) (.G .fdiv (.X 2) (.K (.int 2147483647)))) (.K (.int 2147483647))))) .nil))) (.cons (.ret (.J (.cons (.X 3) .nil))) .nil))))))⟩
noncomputable def af5:Df:=⟨"_law_draw",2,1,(.cons (.A (.Y 2) (.G .mod (.ix (.X 0) (.K (.int 0))) (.X 1))) (.cons (.setIx (.X 0) (.K (.int 0)) (.G .fdiv (.ix (.X 0) (.K (.int 0))) (.X 1))) (.cons (.ret (.X 2)) .nil)))⟩
noncomputable def bk3:Df:=⟨"_law_form",2,2,(.cons (.ite (.or (.not (.bi .isTup (.cons (.X 0) .nil))) (.Z .ne (.bi .len (.cons (.X 0) .nil)) (.X 1))) (.cons (.ret (.K (.T false))) .nil) .nil) (.cons (.fo (.Y 2) (.seq (.X 0)) (.cons (.ite (.or (.not (.bi .isTup (.cons (.X 2) .nil))) (.Z .ne (.bi .len (.cons (.X 2) .nil)) (.X 1))) (.cons (.ret (.K (.T false))) .nil) .nil) (.cons (.fo (.Y 3) (.seq (.X 2)) (.cons (.ite (.or (.not (.bi .isInt (.cons (.X 3) .nil))) (.bi .isBool (.cons (.X 3) .nil))) (.cons (.ret (.K (.T false))) .nil) .nil) .nil)) .nil))) (.cons (.ret (.K (.T true))) .nil)))⟩
noncomputable def aa5:Df:=⟨"sign_product",2,1,(.cons (.A (.Y 2) (.bi .len (.cons (.X 0) .nil))) (.cons (.ret (.callC "grid" (.ex (.X 2) (.lam "sign_product.0" [2,0,1] .nil)))) .nil))⟩
noncomputable def aa3:Lm:=⟨"sign_product.0",2,3,(.mk .min (.comp (.Y 0) (.rg (.X 2)) (.bi .max2 (.cons (.ix (.ix (.X 1) (.X 2)) (.X 0)) (.cons (.ix (.ix (.X 3) (.X 0)) (.X 4)) .nil))) [none,some 3,some 0,some 4,some 1]))⟩
noncomputable def aM2:Df:=⟨"_law_signs",2,6,(.cons (.A (.Y 2) (.call "_law_draw" (.ex (.X 0) (.ex (.K (.int 4)) .nil)))) (.cons (.A (.Y 3) (.J .nil)) (.cons (.fo (.Y 4) (.rg (.X 1)) (.cons (.A (.Y 5) (.J .nil)) (.cons (.fo (.Y 6) (.rg (.X 1)) (.cons (.A (.Y 7) (.call "_law_draw" (.ex (.X 0) (.ex (.K (.int 4)) .nil)))) (.cons (.ite (.or (.and (.Z .eq (.X 2) (.K (.int 1))) (.Z .gt (.call "_law_draw" (.ex (.X 0) (.ex (.K (.int 3)) .nil))) (.K (.int 0)))) (.and (.Z .eq (.X 2) (.K (.int 2))) (.Z .gt (.X 4) (.X 6)))) (.cons (.A (.Y 7) (.K (.int 3))) .nil) .nil) (.cons (.ite (.and (.Z .eq (.X 2) (.K (.int 3))) (.and (.Z .ne (.X 6) (.G .mod (.G .add (.X 4) (.K (.int 1))) (.X 1))) (.Z .gt (.call "_law_draw" (.ex (.X 0) (.ex (.K (.int 4)) .nil))) (.K (.int 0))))) (.cons (.A (.Y 7) (.K (.int 3))) .nil) .nil) (.cons (.ex (.me .append (.X 5) (.cons (.X 7) .nil))) .nil))))) (.cons (.ex (.me .append (.X 3) (.cons (.mk .tuple (.seq (.X 5))) .nil))) .nil)))) (.cons (.ret (.mk .tuple (.seq (.X 3)))) .nil))))⟩
noncomputable def ab2:Df:=⟨"_law_product",2,4,(.cons (.A (.Y 2) (.J .nil)) (.cons (.fo (.Y 3) (.seq (.X 0)) (.cons (.A (.Y 4) (.mk .list (.comp (.Y 0) (.seq (.X 3)) (.K (.int 3)) [none]))) (.cons (.fo (.Y 5) (.rg (.bi .len (.cons (.X 3) .nil))) (.cons (.ite (.Z .lt (.ix (.X 3) (.X 5)) (.K (.int 3))) (.cons (.A (.Y 4) (.mk .list (.comp (.Y 0) (.rg (.bi .len (.cons (.X 3) .nil))) (.bi .min2 (.cons (.ix (.X 1) (.X 0)) (.cons (.bi .max2 (.cons (.ix (.X 2) (.X 3)) (.cons (.ix (.ix (.X 4) (.X 3)) (.X 0)) .nil))) .nil))) [none,some 4,some 3,some 5,some 1]))) .nil) .nil) .nil)) (.cons (.ex (.me .append (.X 2) (.cons (.mk .tuple (.seq (.X 4))) .nil))) .nil)))) (.cons (.ret (.mk .tuple (.seq (.X 2)))) .nil)))⟩
noncomputable def ag2:Df:=⟨"sign_power",2,0,(.cons (.ret (.call "raised" (.ex (.X 0) (.ex (.X 1) (.ex (.call "plain_signs" (.ex (.bi .len (.cons (.X 0) .nil)) .nil)) (.ex (.gl "sign_product") .nil)))))) .nil)⟩
noncomputable def aE9:Df:=⟨"_law_unit",1,0,(.cons (.ret (.mk .tuple (.comp (.Y 0) (.rg (.X 0)) (.mk .tuple (.comp (.Y 0) (.rg (.X 1)) (.G .mul (.K (.int 3)) (.bi .int (.cons (.Z .ne (.X 1) (.X 0)) .nil))) [none,some 0])) [none,some 0]))) .nil)⟩
noncomputable def bc5:Df:=⟨"_law_round",1,2,.nil⟩
noncomputable def bJ0:Df:=⟨"_law_due",3,0,(.cons (.ite (.Z .lt (.X 2) (.bi .len (.cons (.X 0) .nil))) (.cons (.ret (.ix (.X 0) (.X 2))) .nil) .nil) (.cons (.ret (.ix (.X 0) (.G .add (.X 1) (.G .mod (.G .sub (.X 2) (.X 1)) (.G .sub (.bi .len (.cons (.X 0) .nil)) (.X 1)))))) .nil))⟩
noncomputable def bo0:Df:=⟨"law",1,9,(.cons (.fo (.Y 1) (.rg (.G .add (.bi .min2 (.cons (.K (.int 8)) (.cons (.bi .len (.cons (.X 0) .nil)) .nil))) (.K (.int 1)))) (.cons (.A (.Y 2) (.call "_law_box" (.ex (.X 0) (.ex (.X 1) .nil)))) (.cons (.A (.Y 3) (.G .add (.K (.int 1)) (.call "_law_draw" (.ex (.X 2) (.ex (.K (.int 5)) .nil))))) (.cons (.A (.Y 4) (.call "_law_signs" (.ex (.X 2) (.ex (.X 3) .nil)))) (.cons (.A (.tp [5,6]) (.call "_law_round" (.ex (.X 4) .nil))) (.cons (.A (.Y 7) (.G .mul (.call "_law_draw" (.ex (.X 2) (.ex (.G .pow (.K (.int 10)) (.K (.int 30))) .nil))) (.G .pow (.K (.int 10)) (.K (.int 29))))) (.cons (.ite (.Z .gt (.X 1) (.K (.int 0))) (.cons (.A (.Y 7) (.K (.int 0))) .nil) .nil) (.cons (.fo (.Y 8) (.seq (.J (.cons (.K (.int 0)) (.cons (.K (.int 1)) (.cons (.G .add (.K (.int 2)) (.call "_law_draw" (.ex (.X 2) (.ex (.K (.int 30)) .nil)))) (.cons (.call "_law_draw" (.ex (.X 2) (.ex (.K (.int 1000)) .nil))) (.cons (.G .add (.X 7) (.call "_law_draw" (.ex (.X 2) (.ex (.K (.int 1000)) .nil)))) .nil))))))) (.cons (.A (.Y 9) (.call "sign_power" (.ex (.X 4) (.ex (.X 8) .nil)))) (.cons (.ite (.or (.not (.call "_law_form" (.ex (.X 9) (.ex (.X 3) .nil)))) (.Z .ne (.X 9) (.call "_law_due" (.ex (.X 5) (.ex (.X 6) (.ex (.X 8) .nil)))))) (.cons (.ret (.K (.T false))) .nil) .nil) (.cons (.ite (.Z .ne (.call "sign_product" (.ex (.X 9) (.ex (.call "sign_power" (.ex (.X 4) (.ex (.K (.int 7)) .nil))) .nil))) (.call "_law_due" (.ex (.X 5) (.ex (.X 6) (.ex (.G .add (.X 8) (.K (.int 7))) .nil))))) (.cons (.ret (.K (.T false))) .nil) .nil) .nil)))) .nil)))))))) (.cons (.ret (.K (.T true))) .nil))⟩
noncomputable def ab6:Df:=⟨"is_steady",1,0,(.cons (.ret (.Z .eq (.call "sign_product" (.ex (.X 0) (.ex (.X 0) .nil))) (.X 0))) .nil)⟩
noncomputable def ac7:Df:=⟨"round_of",1,0,(.cons (.ite (.or (.Z .eq (.X 0) (.gl "FREE")) (.Z .eq (.X 0) (.gl "NONE"))) (.cons (.ret (.X 0)) .nil) .nil) (.cons (.ret (.gl "UNBOUND")) .nil))⟩
noncomputable def ac5:Df:=⟨"sharpened",1,2,(.cons (.ite (.not (.call "is_steady" (.ex (.X 0) .nil))) (.cons .raise .nil) .nil) (.cons (.A (.Y 1) (.bi .len (.cons (.X 0) .nil))) (.cons (.A (.Y 2) (.mk .list (.comp (.Y 0) (.rg (.X 1)) (.call "round_of" (.ex (.ix (.ix (.X 1) (.X 0)) (.X 0)) .nil)) [none,some 0]))) (.cons (.ret (.callC "grid" (.ex (.X 1) (.lam "sharpened.0" [1,0,2] .nil)))) .nil))))⟩
noncomputable def ab0:Lm:=⟨"sharpened.0",2,3,(.mk .min (.comp (.Y 0) (.rg (.X 2)) (.bi .max3 (.cons (.ix (.ix (.X 1) (.X 2)) (.X 0)) (.cons (.ix (.X 3) (.X 0)) (.cons (.ix (.ix (.X 1) (.X 0)) (.X 4)) .nil)))) [none,some 3,some 0,some 4,some 1]))⟩
noncomputable def zT:Df:=⟨"steady_power",1,2,.nil⟩
noncomputable def aJ4:Df:=⟨"_law_goes_with",2,4,(.cons (.fo (.tp [2,3]) (.zip (.seq (.X 0)) (.seq (.X 1))) (.cons (.fo (.tp [4,5]) (.zip (.seq (.X 2)) (.seq (.X 3))) (.cons (.ite (.or (.Z .lt (.X 5) (.X 4)) (.or (.Z .ne (.Z .eq (.X 5) (.K (.int 0))) (.Z .eq (.X 4) (.K (.int 0)))) (.Z .ne (.Z .eq (.X 5) (.K (.int 3))) (.Z .eq (.X 4) (.K (.int 3)))))) (.cons (.ret (.K (.T false))) .nil) .nil) .nil)) .nil)) (.cons (.ret (.Z .eq (.bi .len (.cons (.X 0) .nil)) (.bi .len (.cons (.X 1) .nil)))) .nil))⟩
noncomputable def bL0:Df:=⟨"_law_right",1,3,.nil⟩
noncomputable def bi2:Df:=⟨"law",1,7,(.cons (.fo (.Y 1) (.rg (.G .add (.bi .min2 (.cons (.K (.int 12)) (.cons (.bi .len (.cons (.X 0) .nil)) .nil))) (.K (.int 1)))) (.cons (.A (.Y 2) (.call "_law_box" (.ex (.X 0) (.ex (.X 1) .nil)))) (.cons (.A (.Y 3) (.G .add (.K (.int 1)) (.call "_law_draw" (.ex (.X 2) (.ex (.K (.int 5)) .nil))))) (.cons (.A (.Y 4) (.call "_law_signs" (.ex (.X 2) (.ex (.X 3) .nil)))) (.cons (.A (.Y 5) (.call "_law_signs" (.ex (.X 2) (.ex (.X 3) .nil)))) (.cons (.A (.Y 6) (.call "sign_product" (.ex (.call "sharpened" (.ex (.ix (.call "steady_power" (.ex (.X 4) .nil)) (.K (.int 1))) .nil)) (.ex (.X 5) .nil)))) (.cons (.fo (.Y 7) (.seq (.J (.cons (.X 4) (.cons (.call "sign_product" (.ex (.X 4) (.ex (.X 5) .nil))) (.cons (.call "sign_product" (.ex (.X 5) (.ex (.X 4) .nil))) (.cons (.X 6) .nil)))))) (.cons (.ite (.not (.call "_law_right" (.ex (.X 7) .nil))) (.cons (.ret (.K (.T false))) .nil) .nil) .nil)) .nil))))))) (.cons (.ret (.K (.T true))) .nil))⟩
noncomputable def ac2:Df:=⟨"word_signs",2,0,(.cons (.ret (.call "reading" (.ex (.call "word_table" (.ex (.X 0) (.ex (.X 1) .nil))) .nil))) .nil)⟩
noncomputable def aw6:Df:=⟨"end_sign",2,0,.nil⟩
noncomputable def ad4:Df:=⟨"_law_machine",1,12,(.cons (.A (.Y 1) (.G .add (.K (.int 1)) (.call "_law_draw" (.ex (.X 0) (.ex (.K (.int 3)) .nil))))) (.cons (.A (.Y 2) (.G .add (.K (.int 1)) (.call "_law_draw" (.ex (.X 0) (.ex (.K (.int 5)) .nil))))) (.cons (.A (.Y 3) (.call "_law_draw" (.ex (.X 0) (.ex (.G .add (.G .mul (.K (.int 3)) (.X 2)) (.K (.int 2))) .nil)))) (.cons (.ite (.Z .eq (.call "_law_draw" (.ex (.X 0) (.ex (.K (.int 8)) .nil))) (.K (.int 5))) (.cons (.A (.Y 3) (.call "_law_draw" (.ex (.X 0) (.ex (.K (.int 76)) .nil)))) .nil) .nil) (.cons (.A (.Y 4) (.ix (.J (.cons (.K (.int 2)) (.cons (.K (.int 2)) (.cons (.K (.int 4)) (.cons (.K (.int 1)) .nil))))) (.call "_law_draw" (.ex (.X 0) (.ex (.K (.int 4)) .nil))))) (.cons (.A (.Y 5) (.J .nil)) (.cons (.fo (.Y 6) (.rg (.X 3)) (.cons (.A (.Y 7) (.call "_law_draw" (.ex (.X 0) (.ex (.X 2) .nil)))) (.cons (.A (.Y 8) (.call "_law_draw" (.ex (.X 0) (.ex (.X 2) .nil)))) (.cons (.A (.Y 9) (.ix (.K (.str [97,98,99])) (.call "_law_draw" (.ex (.X 0) (.ex (.X 1) .nil))))) (.cons (.ex (.me .append (.X 5) (.cons (.tp (.cons (.X 7) (.cons (.X 9) (.cons (.X 8) (.cons (.call "_law_draw" (.ex (.X 0) (.ex (.X 4) .nil))) .nil))))) .nil))) .nil))))) (.cons (.A (.Y 10) (.call "_law_draw" (.ex (.X 0) (.ex (.G .shl (.K (.int 1)) (.X 2)) .nil)))) (.cons (.A (.Y 11) (.mk .tuple (.compIf (.Y 0) (.rg (.X 2)) (.Z .eq (.G .mod (.G .shr (.X 1) (.X 0)) (.K (.int 2))) (.K (.int 1))) (.X 0) [none,some 10]))) (.cons (.A (.Y 10) (.call "_law_draw" (.ex (.X 0) (.ex (.G .shl (.K (.int 1)) (.X 2)) .nil)))) (.cons (.A (.Y 12) (.mk .tuple (.compIf (.Y 0) (.rg (.X 2)) (.Z .eq (.G .mod (.G .shr (.X 1) (.X 0)) (.K (.int 2))) (.K (.int 1))) (.X 0) [none,some 10]))) (.cons (.ret (.tp (.cons (.X 1) (.cons (.X 2) (.cons (.X 11) (.cons (.X 12) (.cons (.mk .tuple (.seq (.X 5))) .nil))))))) .nil))))))))))))⟩
noncomputable def aa9:Df:=⟨"_law_letter_signs",2,6,(.cons (.A (.Y 2) (.ix (.X 0) (.K (.int 1)))) (.cons (.A (.Y 3) (.mk .list (.comp (.Y 0) (.rg (.X 2)) (.mk .list (.comp (.Y 0) (.rg (.X 1)) (.K (.int 3)) [none])) [none,some 2]))) (.cons (.fo (.tp [4,5,6,7]) (.seq (.ix (.X 0) (.K (.int 4)))) (.cons (.ite (.Z .eq (.X 5) (.X 1)) (.cons (.setIx (.ix (.X 3) (.X 4)) (.X 6) (.bi .min2 (.cons (.ix (.ix (.X 3) (.X 4)) (.X 6)) (.cons (.bi .int (.cons (.Z .gt (.X 7) (.K (.int 0))) .nil)) .nil)))) .nil) .nil) .nil)) (.cons (.ret (.mk .tuple (.comp (.Y 0) (.seq (.X 3)) (.mk .tuple (.seq (.X 0))) [none]))) .nil))))⟩
noncomputable def bf6:Df:=⟨"law",1,11,.nil⟩
noncomputable def af1:Df:=⟨"is_ahead",2,0,(.cons (.ret (.call "is_whole" (.ex (.X 0) (.ex (.K (.int 0)) (.ex (.G .sub (.X 1) (.K (.int 1))) .nil))))) .nil)⟩
noncomputable def ab5:Df:=⟨"is_letter_step",2,0,(.cons (.ret (.and (.call "is_tuple_of" (.ex (.X 0) (.ex (.K (.int 2)) .nil))) (.and (.Z .eq (.ix (.X 0) (.K (.int 0))) (.K (.str [108,101,116,116,101,114]))) (.call "is_letter" (.ex (.ix (.X 0) (.K (.int 1))) (.ex (.X 1) .nil)))))) .nil)⟩
noncomputable def ac4:Df:=⟨"is_pair_step",2,0,(.cons (.ret (.and (.call "is_tuple_of" (.ex (.X 0) (.ex (.K (.int 3)) .nil))) (.and (.Z .eq (.ix (.X 0) (.K (.int 0))) (.K (.str [112,97,105,114]))) (.and (.call "is_ahead" (.ex (.ix (.X 0) (.K (.int 1))) (.ex (.X 1) .nil))) (.call "is_ahead" (.ex (.ix (.X 0) (.K (.int 2))) (.ex (.X 1) .nil))))))) .nil)⟩
noncomputable def ab8:Df:=⟨"is_sharp_step",2,0,(.cons (.ret (.and (.call "is_tuple_of" (.ex (.X 0) (.ex (.K (.int 2)) .nil))) (.and (.Z .eq (.ix (.X 0) (.K (.int 0))) (.K (.str [115,104,97,114,112]))) (.call "is_ahead" (.ex (.ix (.X 0) (.K (.int 1))) (.ex (.X 1) .nil)))))) .nil)⟩
noncomputable def ae2:Df:=⟨"signs_made",2,2,(.cons (.ite (.or (.not (.bi .isTup (.cons (.X 1) .nil))) (.not (.chain .le .le (.K (.int 1)) (.bi .len (.cons (.X 1) .nil)) (.gl "MOST_STEPS")))) (.cons .raise .nil) .nil) (.cons (.A (.Y 2) (.J .nil)) (.cons (.fo (.Y 3) (.seq (.X 1)) (.cons (.ex (.me .append (.X 2) (.cons (.call "signs_of_step" (.ex (.X 0) (.ex (.X 3) (.ex (.X 2) .nil)))) .nil))) .nil)) (.cons (.ret (.X 2)) .nil))))⟩
noncomputable def ac6:Df:=⟨"signs_of_step",3,1,(.cons (.A (.Y 3) (.bi .len (.cons (.X 2) .nil))) (.cons (.ite (.call "is_letter_step" (.ex (.X 1) (.ex (.bi .len (.cons (.call "letters_of" (.ex (.X 0) .nil)) .nil)) .nil))) (.cons (.ret (.call "word_signs" (.ex (.X 0) (.ex (.ix (.X 1) (.K (.int 1))) .nil)))) .nil) .nil) (.cons (.ite (.call "is_pair_step" (.ex (.X 1) (.ex (.X 3) .nil))) (.cons (.ret (.call "sign_product" (.ex (.ix (.X 2) (.ix (.X 1) (.K (.int 1)))) (.ex (.ix (.X 2) (.ix (.X 1) (.K (.int 2)))) .nil)))) .nil) .nil) (.cons (.ite (.and (.call "is_sharp_step" (.ex (.X 1) (.ex (.X 3) .nil))) (.call "is_steady" (.ex (.ix (.X 2) (.ix (.X 1) (.K (.int 1)))) .nil))) (.cons (.ret (.call "sharpened" (.ex (.ix (.X 2) (.ix (.X 1) (.K (.int 1)))) .nil))) .nil) .nil) (.cons .raise .nil)))))⟩
noncomputable def ae6:Df:=⟨"_law_sharp",1,8,(.cons (.A (.Y 1) (.bi .len (.cons (.X 0) .nil))) (.cons (.A (.Y 2) (.J .nil)) (.cons (.fo (.Y 3) (.rg (.X 1)) (.cons (.A (.Y 4) (.J .nil)) (.cons (.fo (.Y 5) (.rg (.X 1)) (.cons (.A (.Y 6) (.K (.int 3))) (.cons (.fo (.Y 7) (.rg (.X 1)) (.cons (.A (.Y 8) (.ix (.ix (.X 0) (.X 7)) (.X 7))) (.cons (.ite (.Z .eq (.X 8) (.K (.int 1))) (.cons (.A (.Y 8) (.K (.int 2))) .nil) .nil) (.cons (.A (.Y 6) (.bi .min2 (.cons (.X 6) (.cons (.bi .max3 (.cons (.ix (.ix (.X 0) (.X 3)) (.X 7)) (.cons (.X 8) (.cons (.ix (.ix (.X 0) (.X 7)) (.X 5)) .nil)))) .nil)))) .nil)))) (.cons (.ex (.me .append (.X 4) (.cons (.X 6) .nil))) .nil)))) (.cons (.ex (.me .append (.X 2) (.cons (.mk .tuple (.seq (.X 4))) .nil))) .nil)))) (.cons (.ret (.mk .tuple (.seq (.X 2)))) .nil))))⟩
noncomputable def af3:Df:=⟨"_law_makings",4,8,(.cons (.A (.Y 4) (.J .nil)) (.cons (.A (.Y 5) (.J .nil)) (.cons (.A (.Y 6) (.J .nil)) (.cons (.fo (.Y 7) (.rg (.G .add (.K (.int 1)) (.call "_law_draw" (.ex (.X 0) (.ex (.X 2) .nil))))) (.cons (.A (.Y 8) (.call "_law_draw" (.ex (.X 0) (.ex (.K (.int 6)) .nil)))) (.cons (.A (.Y 9) (.call "_law_draw" (.ex (.X 0) (.ex (.G .add (.X 7) (.K (.int 1))) .nil)))) (.cons (.A (.Y 10) (.call "_law_draw" (.ex (.X 0) (.ex (.G .add (.X 7) (.K (.int 1))) .nil)))) (.cons (.ite (.and (.Z .lt (.X 8) (.K (.int 4))) (.and (.Z .gt (.X 3) (.K (.int 0))) (.and (.Z .ne (.X 6) (.J .nil)) (.Z .gt (.X 8) (.K (.int 0)))))) (.cons (.A (.Y 9) (.ix (.X 6) (.G .mod (.X 10) (.bi .len (.cons (.X 6) .nil))))) (.cons (.ex (.me .append (.X 4) (.cons (.tp (.cons (.K (.str [115,104,97,114,112])) (.cons (.X 9) .nil))) .nil))) (.cons (.ex (.me .append (.X 5) (.cons (.call "_law_sharp" (.ex (.ix (.X 5) (.X 9)) .nil)) .nil))) (.cons (.A (.Y 3) (.G .sub (.X 3) (.K (.int 1)))) .nil)))) (.cons (.ite (.and (.Z .gt (.X 7) (.K (.int 0))) (.Z .lt (.X 8) (.K (.int 5)))) (.cons (.A (.Y 9) (.bi .min2 (.cons (.X 9) (.cons (.G .sub (.X 7) (.K (.int 1))) .nil)))) (.cons (.A (.Y 10) (.ite (.Z .gt (.X 8) (.K (.int 1))) (.bi .min2 (.cons (.X 10) (.cons (.G .sub (.X 7) (.K (.int 1))) .nil))) (.X 9))) (.cons (.ex (.me .append (.X 4) (.cons (.tp (.cons (.K (.str [112,97,105,114])) (.cons (.X 9) (.cons (.X 10) .nil)))) .nil))) (.cons (.ex (.me .append (.X 5) (.cons (.call "_law_product" (.ex (.ix (.X 5) (.X 9)) (.ex (.ix (.X 5) (.X 10)) .nil))) .nil))) .nil)))) (.cons (.A (.Y 11) (.ix (.K (.str [97,98,99])) (.G .mod (.X 9) (.ix (.X 1) (.K (.int 0)))))) (.cons (.ex (.me .append (.X 4) (.cons (.tp (.cons (.K (.str [108,101,116,116,101,114])) (.cons (.X 11) .nil))) .nil))) (.cons (.ex (.me .append (.X 5) (.cons (.call "_law_letter_signs" (.ex (.X 1) (.ex (.X 11) .nil))) .nil))) .nil)))) .nil)) (.cons (.ite (.Z .eq (.call "_law_product" (.ex (.ix (.X 5) (.X 7)) (.ex (.ix (.X 5) (.X 7)) .nil))) (.ix (.X 5) (.X 7))) (.cons (.ex (.me .append (.X 6) (.cons (.X 7) .nil))) .nil) .nil) .nil)))))) (.cons (.ret (.tp (.cons (.mk .tuple (.seq (.X 4))) (.cons (.X 5) .nil)))) .nil)))))⟩
noncomputable def bq3:Df:=⟨"law",1,6,(.cons (.fo (.Y 1) (.rg (.G .add (.bi .min2 (.cons (.K (.int 6)) (.cons (.bi .len (.cons (.X 0) .nil)) .nil))) (.K (.int 1)))) (.cons (.A (.Y 2) (.call "_law_box" (.ex (.X 0) (.ex (.X 1) .nil)))) (.cons (.A (.Y 3) (.call "_law_machine" (.ex (.X 2) .nil))) (.cons (.A (.tp [4,5]) (.call "_law_makings" (.ex (.X 2) (.ex (.X 3) (.ex (.K (.int 20)) (.ex (.K (.int 6)) .nil)))))) (.cons (.A (.Y 6) (.call "signs_made" (.ex (.X 3) (.ex (.X 4) .nil)))) (.cons (.ite (.or (.not (.bi .isList (.cons (.X 6) .nil))) (.Z .ne (.X 6) (.X 5))) (.cons (.ret (.K (.T false))) .nil) .nil) (.cons (.ite (.not (.mk .all (.comp (.Y 0) (.seq (.X 6)) (.call "_law_form" (.ex (.X 0) (.ex (.ix (.X 1) (.K (.int 1))) .nil))) [none,some 3]))) (.cons (.ret (.K (.T false))) .nil) .nil) (.cons (.ex (.me .append (.X 6) (.cons (.ix (.X 6) (.K (.int 0))) .nil))) (.cons (.setIx (.X 6) (.K (.int 0)) (.K .N)) (.cons (.ite (.Z .ne (.call "signs_made" (.ex (.X 3) (.ex (.X 4) .nil))) (.X 5)) (.cons (.ret (.K (.T false))) .nil) .nil) .nil)))))))))) (.cons (.ret (.K (.T true))) .nil))⟩
noncomputable def ad8:Df:=⟨"as_times",2,0,(.cons (.ret (.mk .list (.comp (.Y 0) (.seq (.X 0)) (.ite (.Z .eq (.ix (.X 0) (.K (.int 0))) (.K (.str [115,104,97,114,112]))) (.tp (.cons (.K (.str [116,105,109,101,115])) (.cons (.ix (.X 0) (.K (.int 1))) (.cons (.X 1) .nil)))) (.X 0)) [none,some 1]))) .nil)⟩
noncomputable def ac3:Df:=⟨"folded",4,2,(.cons (.A (.Y 4) (.J .nil)) (.cons (.fo (.Y 5) (.seq (.X 0)) (.cons (.ite (.Z .eq (.ix (.X 5) (.K (.int 0))) (.K (.str [108,101,116,116,101,114]))) (.cons (.ex (.me .append (.X 4) (.cons (.callV 1 (.cons (.ix (.X 5) (.K (.int 1))) .nil)) .nil))) .nil) (.cons (.ite (.Z .eq (.ix (.X 5) (.K (.int 0))) (.K (.str [112,97,105,114]))) (.cons (.ex (.me .append (.X 4) (.cons (.callV 2 (.cons (.ix (.X 4) (.ix (.X 5) (.K (.int 1)))) (.cons (.ix (.X 4) (.ix (.X 5) (.K (.int 2)))) .nil))) .nil))) .nil) (.cons (.ex (.me .append (.X 4) (.cons (.callV 3 (.cons (.ix (.X 4) (.ix (.X 5) (.K (.int 1)))) (.cons (.ix (.X 5) (.K (.int 2))) .nil))) .nil))) .nil)) .nil)) .nil)) (.cons (.ret (.X 4)) .nil)))⟩
noncomputable def ae4:Df:=⟨"counted",2,0,(.cons (.ret (.callC "folded" (.ex (.X 0) (.lam "counted.2" [1] (.lam "counted.1" [] (.lam "counted.0" [] .nil)))))) .nil)⟩
noncomputable def ad2:Lm:=⟨"counted.0",2,0,(.G .mul (.X 0) (.X 1))⟩
noncomputable def ad3:Lm:=⟨"counted.1",2,0,(.G .add (.X 0) (.X 1))⟩
noncomputable def ad1:Lm:=⟨"counted.2",1,1,(.X 1)⟩
noncomputable def af6:Df:=⟨"weights",2,0,(.cons (.ret (.call "counted" (.ex (.call "as_times" (.ex (.X 1) (.ex (.K (.int 2)) .nil))) (.ex (.gl "LETTER_WEIGHT") .nil)))) .nil)⟩
noncomputable def ae7:Df:=⟨"unrolled",3,0,(.cons (.ret (.call "as_times" (.ex (.X 1) (.ex (.G .mul (.G .add (.X 2) (.K (.int 1))) (.call "rooms_of" (.ex (.X 0) .nil))) .nil)))) .nil)⟩
noncomputable def aE4:Df:=⟨"lengths",3,0,(.cons (.ret (.call "counted" (.ex (.call "unrolled" (.ex (.X 0) (.ex (.X 1) (.ex (.X 2) .nil)))) (.ex (.K (.int 1)) .nil)))) .nil)⟩
noncomputable def ci4:Df:=⟨"_law_tall",2,4,(.cons (.A (.Y 2) (.J (.cons (.tp (.cons (.K (.str [108,101,116,116,101,114])) (.cons (.K (.str [97])) .nil))) .nil))) (.cons (.A (.Y 3) (.call "_law_letter_signs" (.ex (.X 1) (.ex (.K (.str [97])) .nil)))) (.cons (.A (.Y 4) (.X 3)) (.cons (.whl (.Z .ne (.call "_law_product" (.ex (.X 4) (.ex (.X 4) .nil))) (.X 4)) (.cons (.ex (.me .append (.X 2) (.cons (.tp (.cons (.K (.str [112,97,105,114])) (.cons (.G .sub (.bi .len (.cons (.X 2) .nil)) (.K (.int 1))) (.cons (.K (.int 0)) .nil)))) .nil))) (.cons (.A (.Y 4) (.call "_law_product" (.ex (.X 4) (.ex (.X 3) .nil)))) .nil))) (.cons (.whl (.Z .lt (.bi .len (.cons (.X 2) .nil)) (.K (.int 100))) (.cons (.A (.Y 5) (.G .sub (.bi .len (.cons (.X 2) .nil)) (.K (.int 1)))) (.cons (.ite (.Z .gt (.call "_law_draw" (.ex (.X 0) (.ex (.K (.int 3)) .nil))) (.K (.int 0))) (.cons (.ex (.me .append (.X 2) (.cons (.tp (.cons (.K (.str [115,104,97,114,112])) (.cons (.X 5) .nil))) .nil))) (.cons (.A (.Y 4) (.call "_law_sharp" (.ex (.X 4) .nil))) .nil)) (.cons (.ex (.me .append (.X 2) (.cons (.tp (.cons (.K (.str [112,97,105,114])) (.cons (.X 5) (.cons (.X 5) .nil)))) .nil))) (.cons (.A (.Y 4) (.call "_law_product" (.ex (.X 4) (.ex (.X 4) .nil)))) .nil))) .nil))) (.cons (.ret (.mk .tuple (.seq (.X 2)))) .nil))))))⟩
noncomputable def bH1:Df:=⟨"_law_due",2,3,(.cons (.A (.Y 2) (.J .nil)) (.cons (.A (.Y 3) (.J .nil)) (.cons (.fo (.Y 4) (.seq (.X 0)) (.cons (.ite (.Z .eq (.ix (.X 4) (.K (.int 0))) (.K (.str [108,101,116,116,101,114]))) (.cons (.ex (.me .append (.X 2) (.cons (.K (.int 1)) .nil))) (.cons (.ex (.me .append (.X 3) (.cons (.K (.int 3)) .nil))) .nil)) (.cons (.ite (.Z .eq (.ix (.X 4) (.K (.int 0))) (.K (.str [112,97,105,114]))) (.cons (.ex (.me .append (.X 2) (.cons (.G .add (.ix (.X 2) (.ix (.X 4) (.K (.int 1)))) (.ix (.X 2) (.ix (.X 4) (.K (.int 2))))) .nil))) (.cons (.ex (.me .append (.X 3) (.cons (.G .add (.ix (.X 3) (.ix (.X 4) (.K (.int 1)))) (.ix (.X 3) (.ix (.X 4) (.K (.int 2))))) .nil))) .nil)) (.cons (.ex (.me .append (.X 2) (.cons (.G .mul (.ix (.X 2) (.ix (.X 4) (.K (.int 1)))) (.X 1)) .nil))) (.cons (.ex (.me .append (.X 3) (.cons (.G .mul (.K (.int 2)) (.ix (.X 3) (.ix (.X 4) (.K (.int 1))))) .nil))) .nil))) .nil)) .nil)) (.cons (.ret (.tp (.cons (.X 2) (.cons (.X 3) .nil)))) .nil))))⟩
noncomputable def bo6:Df:=⟨"_law_numbers",1,0,(.cons (.ret (.and (.bi .isList (.cons (.X 0) .nil)) (.mk .all (.comp (.Y 0) (.seq (.X 0)) (.and (.bi .isInt (.cons (.X 0) .nil)) (.not (.bi .isBool (.cons (.X 0) .nil)))) [none])))) .nil)⟩
noncomputable def bo2:Df:=⟨"law",1,9,.nil⟩
noncomputable def bn1:Df:=⟨"begun",1,0,(.cons (.ret (.slU (.X 0) (.G .add (.gl "MOST_WRITTEN") (.K (.int 1))))) .nil)⟩
noncomputable def aj4:Df:=⟨"begun_times",2,1,(.cons (.A (.Y 2) (.G .add (.G .fdiv (.gl "MOST_WRITTEN") (.bi .len (.cons (.X 0) .nil))) (.K (.int 1)))) (.cons (.ret (.call "begun" (.ex (.G .mul (.X 0) (.bi .min2 (.cons (.X 1) (.cons (.X 2) .nil)))) .nil))) .nil))⟩
noncomputable def ap2:Df:=⟨"last_word",1,1,(.cons (.A (.Y 1) (.ix (.callC "folded" (.ex (.X 0) (.lam "last_word.1" [] (.lam "last_word.0" [] (.ex (.gl "begun_times") .nil))))) (.neg (.K (.int 1))))) (.cons (.ite (.Z .gt (.bi .len (.cons (.X 1) .nil)) (.gl "MOST_WRITTEN")) (.cons .raise .nil) .nil) (.cons (.ret (.X 1)) .nil)))⟩
noncomputable def jM:Lm:=⟨"last_word.0",2,0,(.call "begun" (.ex (.G .add (.X 0) (.X 1)) .nil))⟩
noncomputable def jK:Lm:=⟨"last_word.1",1,0,(.X 0)⟩
noncomputable def ju:Df:=⟨"word_unrolled",3,0,(.cons (.ret (.call "last_word" (.ex (.call "unrolled" (.ex (.X 0) (.ex (.X 1) (.ex (.X 2) .nil)))) .nil))) .nil)⟩
noncomputable def aS0:Df:=⟨"_law_tall",3,2,(.cons (.A (.Y 3) (.J (.cons (.tp (.cons (.K (.str [108,101,116,116,101,114])) (.cons (.ix (.K (.str [97,98,99])) (.call "_law_draw" (.ex (.X 0) (.ex (.X 1) .nil)))) .nil))) .nil))) (.cons (.fo (.Y 4) (.rg (.call "_law_draw" (.ex (.X 0) (.ex (.X 2) .nil)))) (.cons (.ex (.me .append (.X 3) (.cons (.tp (.cons (.K (.str [112,97,105,114])) (.cons (.X 4) (.cons (.G .sub (.X 4) (.call "_law_draw" (.ex (.X 0) (.ex (.G .add (.bi .min2 (.cons (.X 4) (.cons (.K (.int 1)) .nil))) (.K (.int 1))) .nil)))) .nil)))) .nil))) .nil)) (.cons (.ret (.mk .tuple (.seq (.X 3)))) .nil)))⟩
noncomputable def ac8:Df:=⟨"last_table",2,0,(.cons (.ret (.ix (.callC "folded" (.ex (.X 1) (.lam "last_table.0" [0] (.ex (.gl "product") (.ex (.gl "power") .nil))))) (.neg (.K (.int 1))))) .nil)⟩
noncomputable def ab9:Lm:=⟨"last_table.0",1,1,(.call "letter_table" (.ex (.X 1) (.ex (.X 0) .nil)))⟩
noncomputable def ac0:Df:=⟨"table_unrolled",3,0,(.cons (.ret (.call "last_table" (.ex (.X 0) (.ex (.call "unrolled" (.ex (.X 0) (.ex (.X 1) (.ex (.X 2) .nil)))) .nil)))) .nil)⟩
noncomputable def jh:Df:=⟨"_law_least",2,0,(.cons (.ite (.or (.isN (.X 0)) (.and (.notN (.X 1)) (.Z .lt (.X 1) (.X 0)))) (.cons (.ret (.X 1)) .nil) .nil) (.cons (.ret (.X 0)) .nil))⟩
noncomputable def aq0:Df:=⟨"_law_times",2,6,(.cons (.A (.Y 2) (.J .nil)) (.cons (.fo (.Y 3) (.seq (.X 0)) (.cons (.A (.Y 4) (.J .nil)) (.cons (.fo (.Y 5) (.rg (.bi .len (.cons (.X 0) .nil))) (.cons (.A (.Y 6) (.K .N)) (.cons (.fo (.Y 7) (.rg (.bi .len (.cons (.X 0) .nil))) (.cons (.ite (.and (.notN (.ix (.X 3) (.X 7))) (.notN (.ix (.ix (.X 1) (.X 7)) (.X 5)))) (.cons (.A (.Y 6) (.call "_law_least" (.ex (.X 6) (.ex (.G .add (.ix (.X 3) (.X 7)) (.ix (.ix (.X 1) (.X 7)) (.X 5))) .nil)))) .nil) .nil) .nil)) (.cons (.ex (.me .append (.X 4) (.cons (.X 6) .nil))) .nil)))) (.cons (.ex (.me .append (.X 2) (.cons (.mk .tuple (.seq (.X 4))) .nil))) .nil)))) (.cons (.ret (.mk .tuple (.seq (.X 2)))) .nil)))⟩
noncomputable def ak7:Df:=⟨"_law_power",2,1,(.cons (.A (.Y 2) (.K .N)) (.cons (.whl (.Z .gt (.X 1) (.K (.int 0))) (.cons (.ite (.Z .eq (.G .mod (.X 1) (.K (.int 2))) (.K (.int 1))) (.cons (.A (.Y 2) (.ite (.isN (.X 2)) (.X 0) (.call "_law_times" (.ex (.X 2) (.ex (.X 0) .nil))))) .nil) .nil) (.cons (.A (.Y 1) (.G .fdiv (.X 1) (.K (.int 2)))) (.cons (.ite (.Z .gt (.X 1) (.K (.int 0))) (.cons (.A (.Y 0) (.call "_law_times" (.ex (.X 0) (.ex (.X 0) .nil)))) .nil) .nil) .nil)))) (.cons (.ret (.X 2)) .nil)))⟩
noncomputable def qH:Df:=⟨"_law_letter_table",2,6,(.cons (.A (.Y 2) (.ix (.X 0) (.K (.int 1)))) (.cons (.A (.Y 3) (.mk .list (.comp (.Y 0) (.rg (.X 2)) (.mk .list (.comp (.Y 0) (.rg (.X 1)) (.K .N) [none])) [none,some 2]))) (.cons (.fo (.tp [4,5,6,7]) (.seq (.ix (.X 0) (.K (.int 4)))) (.cons (.ite (.Z .eq (.X 5) (.X 1)) (.cons (.setIx (.ix (.X 3) (.X 4)) (.X 6) (.call "_law_least" (.ex (.ix (.ix (.X 3) (.X 4)) (.X 6)) (.ex (.X 7) .nil)))) .nil) .nil) .nil)) (.cons (.ret (.mk .tuple (.comp (.Y 0) (.seq (.X 3)) (.mk .tuple (.seq (.X 0))) [none]))) .nil))))⟩
noncomputable def bj8:Df:=⟨"_law_due",3,2,(.cons (.A (.Y 3) (.J .nil)) (.cons (.fo (.Y 4) (.seq (.X 1)) (.cons (.ite (.Z .eq (.ix (.X 4) (.K (.int 0))) (.K (.str [108,101,116,116,101,114]))) (.cons (.ex (.me .append (.X 3) (.cons (.call "_law_letter_table" (.ex (.X 0) (.ex (.ix (.X 4) (.K (.int 1))) .nil))) .nil))) .nil) (.cons (.ite (.Z .eq (.ix (.X 4) (.K (.int 0))) (.K (.str [112,97,105,114]))) (.cons (.ex (.me .append (.X 3) (.cons (.call "_law_times" (.ex (.ix (.X 3) (.ix (.X 4) (.K (.int 1)))) (.ex (.ix (.X 3) (.ix (.X 4) (.K (.int 2)))) .nil))) .nil))) .nil) (.cons (.ex (.me .append (.X 3) (.cons (.call "_law_power" (.ex (.ix (.X 3) (.ix (.X 4) (.K (.int 1)))) (.ex (.X 2) .nil))) .nil))) .nil)) .nil)) .nil)) (.cons (.ret (.ix (.X 3) (.neg (.K (.int 1))))) .nil)))⟩
noncomputable def bg4:Df:=⟨"law",1,8,(.cons (.fo (.Y 1) (.rg (.G .add (.bi .min2 (.cons (.K (.int 4)) (.cons (.bi .len (.cons (.X 0) .nil)) .nil))) (.K (.int 1)))) (.cons (.A (.Y 2) (.call "_law_box" (.ex (.X 0) (.ex (.X 1) .nil)))) (.cons (.A (.Y 3) (.call "_law_machine" (.ex (.X 2) .nil))) (.cons (.A (.Y 4) (.ix (.call "_law_makings" (.ex (.X 2) (.ex (.X 3) (.ex (.K (.int 8)) (.ex (.K (.int 3)) .nil))))) (.K (.int 0)))) (.cons (.ite (.Z .eq (.call "_law_draw" (.ex (.X 2) (.ex (.K (.int 8)) .nil))) (.K (.int 3))) (.cons (.A (.Y 4) (.call "_law_tall" (.ex (.X 2) (.ex (.ix (.X 3) (.K (.int 0))) (.ex (.K (.int 100)) .nil))))) .nil) .nil) (.cons (.A (.Y 5) (.call "_law_draw" (.ex (.X 2) (.ex (.G .add (.G .pow (.K (.int 10)) (.K (.int 30))) (.K (.int 1))) .nil)))) (.cons (.ite (.Z .gt (.X 1) (.K (.int 0))) (.cons (.A (.Y 5) (.G .mod (.X 5) (.G .pow (.K (.int 10)) (.K (.int 9))))) .nil) .nil) (.cons (.fo (.Y 6) (.seq (.J (.cons (.call "_law_draw" (.ex (.X 2) (.ex (.K (.int 4)) .nil))) (.cons (.X 5) .nil)))) (.cons (.A (.Y 7) (.call "_law_due" (.ex (.X 3) (.ex (.X 4) (.ex (.G .mul (.G .add (.X 6) (.K (.int 1))) (.ix (.X 3) (.K (.int 1)))) .nil))))) (.cons (.A (.Y 8) (.call "table_unrolled" (.ex (.X 3) (.ex (.X 4) (.ex (.X 6) .nil))))) (.cons (.ite (.or (.not (.bi .isTup (.cons (.X 8) .nil))) (.Z .ne (.X 8) (.X 7))) (.cons (.ret (.K (.T false))) .nil) .nil) (.cons (.ite (.Z .le (.ix (.call "lengths" (.ex (.X 3) (.ex (.X 4) (.ex (.X 6) .nil)))) (.neg (.K (.int 1)))) (.K (.int 200))) (.cons (.ite (.Z .ne (.call "word_table" (.ex (.X 3) (.ex (.call "word_unrolled" (.ex (.X 3) (.ex (.X 4) (.ex (.X 6) .nil)))) .nil))) (.X 7)) (.cons (.ret (.K (.T false))) .nil) .nil) .nil) .nil) .nil))))) .nil)))))))) (.cons (.ret (.K (.T true))) .nil))⟩
noncomputable def ak0:Df:=⟨"_law_goes",4,4,(.cons (.ite (.Z .ne (.bi .len (.cons (.X 0) .nil)) (.bi .len (.cons (.X 1) .nil))) (.cons (.ret (.K (.T false))) .nil) .nil) (.cons (.fo (.tp [4,5]) (.zip (.seq (.X 0)) (.seq (.X 1))) (.cons (.fo (.tp [6,7]) (.zip (.seq (.X 4)) (.seq (.X 5))) (.cons (.ite (.or (.Z .ne (.Z .eq (.X 7) (.K (.int 3))) (.isN (.X 6))) (.Z .ne (.Z .eq (.X 7) (.K (.int 0))) (.Z .eq (.X 6) (.K (.int 0))))) (.cons (.ret (.K (.T false))) .nil) .nil) (.cons (.ite (.or (.and (.Z .eq (.X 7) (.K (.int 2))) (.Z .le (.X 6) (.X 2))) (.and (.Z .eq (.X 7) (.K (.int 1))) (.not (.chain .le .le (.K (.int 1)) (.X 6) (.X 3))))) (.cons (.ret (.K (.T false))) .nil) .nil) .nil))) .nil)) (.cons (.ret (.K (.T true))) .nil)))⟩
noncomputable def af4:Df:=⟨"law",1,8,(.cons (.fo (.Y 1) (.rg (.G .add (.bi .min2 (.cons (.K (.int 4)) (.cons (.bi .len (.cons (.X 0) .nil)) .nil))) (.K (.int 1)))) (.cons (.A (.Y 2) (.call "_law_box" (.ex (.X 0) (.ex (.X 1) .nil)))) (.cons (.A (.Y 3) (.call "_law_machine" (.ex (.X 2) .nil))) (.cons (.A (.Y 4) (.ix (.call "_law_makings" (.ex (.X 2) (.ex (.X 3) (.ex (.K (.int 10)) (.ex (.K (.int 4)) .nil))))) (.K (.int 0)))) (.cons (.A (.Y 5) (.ix (.call "signs_made" (.ex (.X 3) (.ex (.X 4) .nil))) (.neg (.K (.int 1))))) (.cons (.A (.Y 6) (.ix (.call "weights" (.ex (.X 3) (.ex (.X 4) .nil))) (.neg (.K (.int 1))))) (.cons (.A (.Y 7) (.call "_law_draw" (.ex (.X 2) (.ex (.G .add (.G .pow (.K (.int 10)) (.K (.int 30))) (.K (.int 1))) .nil)))) (.cons (.ite (.Z .gt (.X 1) (.K (.int 1))) (.cons (.A (.Y 7) (.G .mod (.X 7) (.G .pow (.K (.int 10)) (.K (.int 6))))) .nil) .nil) (.cons (.fo (.Y 8) (.seq (.J (.cons (.K (.int 0)) (.cons (.K (.int 1)) (.cons (.G .add (.K (.int 2)) (.call "_law_draw" (.ex (.X 2) (.ex (.K (.int 8)) .nil)))) (.cons (.X 7) .nil)))))) (.cons (.ite (.not (.call "_law_goes" (.ex (.call "table_unrolled" (.ex (.X 3) (.ex (.X 4) (.ex (.X 8) .nil)))) (.ex (.X 5) (.ex (.X 8) (.ex (.X 6) .nil)))))) (.cons (.ret (.K (.T false))) .nil) .nil) .nil)) .nil))))))))) (.cons (.ret (.K (.T true))) .nil))⟩
noncomputable def bx0:Df:=⟨"_law_recipe",4,6,(.cons (.A (.Y 4) (.J .nil)) (.cons (.fo (.Y 5) (.rg (.G .add (.K (.int 1)) (.call "_law_draw" (.ex (.X 0) (.ex (.X 2) .nil))))) (.cons (.A (.Y 6) (.call "_law_draw" (.ex (.X 0) (.ex (.K (.int 6)) .nil)))) (.cons (.A (.Y 7) (.call "_law_draw" (.ex (.X 0) (.ex (.G .add (.X 5) (.K (.int 1))) .nil)))) (.cons (.A (.Y 8) (.call "_law_draw" (.ex (.X 0) (.ex (.G .add (.X 5) (.K (.int 1))) .nil)))) (.cons (.A (.Y 9) (.G .add (.K (.int 1)) (.call "_law_draw" (.ex (.X 0) (.ex (.K (.int 6)) .nil))))) (.cons (.ite (.Z .eq (.call "_law_draw" (.ex (.X 0) (.ex (.K (.int 3)) .nil))) (.K (.int 2))) (.cons (.A (.Y 9) (.G .add (.K (.int 1)) (.call "_law_draw" (.ex (.X 0) (.ex (.G .pow (.K (.int 10)) (.K (.int 30))) .nil))))) .nil) .nil) (.cons (.ite (.and (.Z .gt (.X 5) (.K (.int 0))) (.and (.Z .lt (.X 6) (.K (.int 3))) (.Z .gt (.X 3) (.K (.int 0))))) (.cons (.ex (.me .append (.X 4) (.cons (.tp (.cons (.K (.str [116,105,109,101,115])) (.cons (.bi .min2 (.cons (.X 7) (.cons (.G .sub (.X 5) (.K (.int 1))) .nil))) (.cons (.X 9) .nil)))) .nil))) (.cons (.A (.Y 3) (.G .sub (.X 3) (.K (.int 1)))) .nil)) (.cons (.ite (.and (.Z .gt (.X 5) (.K (.int 0))) (.Z .lt (.X 6) (.K (.int 5)))) (.cons (.ex (.me .append (.X 4) (.cons (.tp (.cons (.K (.str [112,97,105,114])) (.cons (.bi .min2 (.cons (.X 7) (.cons (.G .sub (.X 5) (.K (.int 1))) .nil))) (.cons (.bi .min2 (.cons (.X 8) (.cons (.G .sub (.X 5) (.K (.int 1))) .nil))) .nil)))) .nil))) .nil) (.cons (.ex (.me .append (.X 4) (.cons (.tp (.cons (.K (.str [108,101,116,116,101,114])) (.cons (.ix (.K (.str [97,98,99])) (.G .mod (.X 7) (.X 1))) .nil))) .nil))) .nil)) .nil)) .nil))))))) (.cons (.ret (.mk .tuple (.seq (.X 4)))) .nil)))⟩
noncomputable def aB8:Df:=⟨"long_length",1,0,(.cons (.ret (.ix (.call "counted" (.ex (.X 0) (.ex (.K (.int 1)) .nil))) (.neg (.K (.int 1))))) .nil)⟩
noncomputable def aN5:Df:=⟨"letter_at",2,4,(.cons (.A (.Y 2) (.call "counted" (.ex (.X 0) (.ex (.K (.int 1)) .nil)))) (.cons (.A (.Y 3) (.ix (.X 0) (.neg (.K (.int 1))))) (.cons (.A (.Y 4) (.X 1)) (.cons (.whl (.Z .ne (.ix (.X 3) (.K (.int 0))) (.K (.str [108,101,116,116,101,114]))) (.cons (.A (.Y 5) (.ix (.X 3) (.K (.int 1)))) (.cons (.ite (.Z .eq (.ix (.X 3) (.K (.int 0))) (.K (.str [116,105,109,101,115]))) (.cons (.A (.Y 4) (.G .mod (.X 4) (.ix (.X 2) (.X 5)))) .nil) (.cons (.ite (.Z .ge (.X 4) (.ix (.X 2) (.X 5))) (.cons (.A (.Y 4) (.G .sub (.X 4) (.ix (.X 2) (.X 5)))) (.cons (.A (.Y 5) (.ix (.X 3) (.K (.int 2)))) .nil)) .nil) .nil)) (.cons (.A (.Y 3) (.ix (.X 0) (.X 5))) .nil)))) (.cons (.ret (.ix (.X 3) (.K (.int 1)))) .nil)))))⟩
noncomputable def am0:Df:=⟨"long_table",2,0,(.cons (.ret (.call "last_table" (.ex (.X 0) (.ex (.X 1) .nil)))) .nil)⟩
noncomputable def aG4:Df:=⟨"long_price",2,0,(.cons (.ret (.call "least" (.ex (.call "at_begins_and_ends" (.ex (.X 0) (.ex (.call "long_table" (.ex (.X 0) (.ex (.X 1) .nil))) .nil))) .nil))) .nil)⟩
noncomputable def bI5:Df:=⟨"_law_due",2,2,(.cons (.A (.Y 2) (.J .nil)) (.cons (.fo (.Y 3) (.seq (.X 1)) (.cons (.ite (.Z .eq (.ix (.X 3) (.K (.int 0))) (.K (.str [108,101,116,116,101,114]))) (.cons (.ex (.me .append (.X 2) (.cons (.call "_law_letter_table" (.ex (.X 0) (.ex (.ix (.X 3) (.K (.int 1))) .nil))) .nil))) .nil) (.cons (.ite (.Z .eq (.ix (.X 3) (.K (.int 0))) (.K (.str [112,97,105,114]))) (.cons (.ex (.me .append (.X 2) (.cons (.call "_law_times" (.ex (.ix (.X 2) (.ix (.X 3) (.K (.int 1)))) (.ex (.ix (.X 2) (.ix (.X 3) (.K (.int 2)))) .nil))) .nil))) .nil) (.cons (.ex (.me .append (.X 2) (.cons (.call "_law_power" (.ex (.ix (.X 2) (.ix (.X 3) (.K (.int 1)))) (.ex (.ix (.X 3) (.K (.int 2))) .nil))) .nil))) .nil)) .nil)) .nil)) (.cons (.ret (.ix (.X 2) (.neg (.K (.int 1))))) .nil)))⟩
noncomputable def bd7:Df:=⟨"_law_price",2,3,(.cons (.A (.Y 2) (.K .N)) (.cons (.fo (.Y 3) (.seq (.ix (.X 0) (.K (.int 2)))) (.cons (.fo (.Y 4) (.seq (.ix (.X 0) (.K (.int 3)))) (.cons (.ite (.notN (.ix (.ix (.X 1) (.X 3)) (.X 4))) (.cons (.A (.Y 2) (.call "_law_least" (.ex (.ix (.ix (.X 1) (.X 3)) (.X 4)) (.ex (.X 2) .nil)))) .nil) .nil) .nil)) .nil)) (.cons (.ret (.X 2)) .nil)))⟩
noncomputable def bQ4:Df:=⟨"_law_tamed",2,2,(.cons (.A (.Y 2) (.J .nil)) (.cons (.fo (.Y 3) (.seq (.X 0)) (.cons (.ite (.and (.Z .eq (.ix (.X 3) (.K (.int 0))) (.K (.str [116,105,109,101,115]))) (.Z .gt (.ix (.X 3) (.K (.int 2))) (.K (.int 1000)))) (.cons (.ite (.Z .gt (.X 1) (.K (.int 0))) (.cons (.A (.Y 1) (.G .sub (.X 1) (.K (.int 1)))) .nil) (.cons (.A (.Y 3) (.tp (.cons (.K (.str [116,105,109,101,115])) (.cons (.ix (.X 3) (.K (.int 1))) (.cons (.G .add (.K (.int 1)) (.G .mod (.ix (.X 3) (.K (.int 2))) (.K (.int 1000)))) .nil))))) .nil)) .nil) .nil) (.cons (.ex (.me .append (.X 2) (.cons (.X 3) .nil))) .nil))) (.cons (.ret (.mk .tuple (.seq (.X 2)))) .nil)))⟩
noncomputable def qV:Df:=⟨"signs_of_pair",2,0,(.cons (.ret (.tp (.cons (.call "sign_product" (.ex (.ix (.X 0) (.K (.int 0))) (.ex (.ix (.X 1) (.K (.int 0))) .nil))) (.cons (.G .add (.ix (.X 0) (.K (.int 1))) (.ix (.X 1) (.K (.int 1)))) .nil)))) .nil)⟩
noncomputable def qF:Df:=⟨"signs_of_times",3,5,(.cons (.A (.Y 3) (.ix (.X 0) (.K (.int 0)))) (.cons (.A (.Y 4) (.ix (.X 0) (.K (.int 1)))) (.cons (.A (.Y 5) (.call "steady_power" (.ex (.X 3) .nil))) (.cons (.A (.Y 6) (.ix (.X 5) (.K (.int 0)))) (.cons (.A (.Y 7) (.G .mod (.X 1) (.X 6))) (.cons (.ite (.Z .lt (.G .fdiv (.X 1) (.X 6)) (.X 2)) (.cons (.ret (.tp (.cons (.call "sign_power" (.ex (.X 3) (.ex (.X 1) .nil))) (.cons (.G .mul (.X 1) (.X 4)) .nil)))) .nil) .nil) (.cons (.ret (.tp (.cons (.call "sign_product" (.ex (.call "sharpened" (.ex (.ix (.X 5) (.K (.int 1))) .nil)) (.ex (.call "sign_power" (.ex (.X 3) (.ex (.X 7) .nil))) .nil))) (.cons (.G .mul (.G .add (.G .mul (.K (.int 2)) (.X 6)) (.X 7)) (.X 4)) .nil)))) .nil)))))))⟩
noncomputable def am5:Df:=⟨"long_signs",3,1,(.cons (.A (.Y 3) (.G .mul (.G .add (.X 2) (.K (.int 1))) (.call "rooms_of" (.ex (.X 0) .nil)))) (.cons (.ret (.ix (.callC "folded" (.ex (.X 1) (.lam "long_signs.1" [0] (.ex (.gl "signs_of_pair") (.lam "long_signs.0" [3] .nil))))) (.neg (.K (.int 1))))) .nil))⟩
noncomputable def ah7:Lm:=⟨"long_signs.0",2,1,(.call "signs_of_times" (.ex (.X 0) (.ex (.X 1) (.ex (.X 2) .nil))))⟩
noncomputable def ah2:Lm:=⟨"long_signs.1",1,1,(.tp (.cons (.call "word_signs" (.ex (.X 1) (.ex (.X 0) .nil))) (.cons (.gl "LETTER_WEIGHT") .nil)))⟩
noncomputable def av1:Df:=⟨"_law_steady",1,2,(.cons (.A (.Y 1) (.K (.int 1))) (.cons (.A (.Y 2) (.X 0)) (.cons (.whl (.Z .ne (.call "_law_product" (.ex (.X 2) (.ex (.X 2) .nil))) (.X 2)) (.cons (.A (.Y 2) (.call "_law_product" (.ex (.X 2) (.ex (.X 0) .nil)))) (.cons (.A (.Y 1) (.G .add (.X 1) (.K (.int 1)))) .nil))) (.cons (.ret (.tp (.cons (.X 1) (.cons (.X 2) .nil)))) .nil))))⟩
noncomputable def aH9:Df:=⟨"_law_power",2,3,.nil⟩
noncomputable def aE1:Df:=⟨"_law_many_times",4,3,(.cons (.A (.tp [4,5]) (.call "_law_steady" (.ex (.X 0) .nil))) (.cons (.A (.Y 6) (.G .mod (.X 2) (.X 4))) (.cons (.ite (.Z .ge (.G .fdiv (.X 2) (.X 4)) (.X 3)) (.cons (.ret (.tp (.cons (.call "_law_product" (.ex (.call "_law_sharp" (.ex (.X 5) .nil)) (.ex (.call "_law_power" (.ex (.X 0) (.ex (.X 6) .nil))) .nil))) (.cons (.G .mul (.G .add (.G .mul (.K (.int 2)) (.X 4)) (.X 6)) (.X 1)) .nil)))) .nil) .nil) (.cons (.ret (.tp (.cons (.call "_law_power" (.ex (.X 0) (.ex (.X 2) .nil))) (.cons (.G .mul (.X 2) (.X 1)) .nil)))) .nil))))⟩
noncomputable def bJ6:Df:=⟨"_law_due",3,6,(.cons (.A (.Y 3) (.J .nil)) (.cons (.fo (.Y 4) (.seq (.X 1)) (.cons (.ite (.Z .eq (.ix (.X 4) (.K (.int 0))) (.K (.str [108,101,116,116,101,114]))) (.cons (.ex (.me .append (.X 3) (.cons (.tp (.cons (.call "_law_letter_signs" (.ex (.X 0) (.ex (.ix (.X 4) (.K (.int 1))) .nil))) (.cons (.K (.int 3)) .nil))) .nil))) .nil) (.cons (.ite (.Z .eq (.ix (.X 4) (.K (.int 0))) (.K (.str [112,97,105,114]))) (.cons (.A (.Y 5) (.ix (.X 3) (.ix (.X 4) (.K (.int 1))))) (.cons (.A (.Y 6) (.ix (.X 3) (.ix (.X 4) (.K (.int 2))))) (.cons (.ex (.me .append (.X 3) (.cons (.tp (.cons (.call "_law_product" (.ex (.ix (.X 5) (.K (.int 0))) (.ex (.ix (.X 6) (.K (.int 0))) .nil))) (.cons (.G .add (.ix (.X 5) (.K (.int 1))) (.ix (.X 6) (.K (.int 1)))) .nil))) .nil))) .nil))) (.cons (.A (.tp [7,8]) (.ix (.X 3) (.ix (.X 4) (.K (.int 1))))) (.cons (.ex (.me .append (.X 3) (.cons (.call "_law_many_times" (.ex (.X 7) (.ex (.X 8) (.ex (.ix (.X 4) (.K (.int 2))) (.ex (.G .mul (.G .add (.X 2) (.K (.int 1))) (.ix (.X 0) (.K (.int 1)))) .nil))))) .nil))) .nil))) .nil)) .nil)) (.cons (.ret (.ix (.X 3) (.neg (.K (.int 1))))) .nil)))⟩
noncomputable def bk2:Df:=⟨"law",1,9,(.cons (.fo (.Y 1) (.rg (.G .add (.bi .min2 (.cons (.K (.int 1)) (.cons (.bi .len (.cons (.X 0) .nil)) .nil))) (.K (.int 1)))) (.cons (.A (.Y 2) (.call "_law_box" (.ex (.X 0) (.ex (.X 1) .nil)))) (.cons (.A (.Y 3) (.call "_law_machine" (.ex (.X 2) .nil))) (.cons (.A (.Y 4) (.call "_law_recipe" (.ex (.X 2) (.ex (.ix (.X 3) (.K (.int 0))) (.ex (.K (.int 10)) (.ex (.K (.int 5)) .nil)))))) (.cons (.ite (.Z .eq (.call "_law_draw" (.ex (.X 2) (.ex (.K (.int 8)) .nil))) (.K (.int 3))) (.cons (.A (.Y 4) (.call "_law_tall" (.ex (.X 2) (.ex (.ix (.X 3) (.K (.int 0))) (.ex (.K (.int 60)) .nil))))) .nil) .nil) (.cons (.A (.Y 4) (.call "_law_tamed" (.ex (.X 4) (.ex (.G .mul (.K (.int 2)) (.bi .int (.cons (.and (.Z .eq (.X 1) (.K (.int 0))) (.Z .lt (.ix (.X 3) (.K (.int 1))) (.K (.int 4)))) .nil))) .nil)))) (.cons (.A (.Y 5) (.call "long_table" (.ex (.X 3) (.ex (.X 4) .nil)))) (.cons (.A (.Y 6) (.call "_law_draw" (.ex (.X 2) (.ex (.G .add (.G .pow (.K (.int 10)) (.K (.int 30))) (.K (.int 1))) .nil)))) (.cons (.ite (.Z .gt (.ix (.X 3) (.K (.int 1))) (.K (.int 3))) (.cons (.A (.Y 6) (.G .mod (.X 6) (.K (.int 100)))) .nil) .nil) (.cons (.fo (.Y 7) (.seq (.J (.cons (.K (.int 0)) (.cons (.G .add (.K (.int 1)) (.call "_law_draw" (.ex (.X 2) (.ex (.K (.int 4)) .nil)))) (.cons (.X 6) .nil))))) (.cons (.A (.tp [8,9]) (.call "long_signs" (.ex (.X 3) (.ex (.X 4) (.ex (.X 7) .nil))))) (.cons (.ite (.not (.call "_law_goes" (.ex (.X 5) (.ex (.X 8) (.ex (.X 7) (.ex (.X 9) .nil)))))) (.cons (.ret (.K (.T false))) .nil) .nil) .nil))) .nil)))))))))) (.cons (.ret (.K (.T true))) .nil))⟩
noncomputable def cy2:Df:=⟨"_law_on",3,5,(.cons (.A (.Y 3) (.mk .list (.comp (.Y 0) (.seq (.X 2)) (.K .N) [none]))) (.cons (.fo (.tp [4,5,6,7]) (.seq (.ix (.X 0) (.K (.int 4)))) (.cons (.ite (.and (.Z .eq (.X 5) (.X 1)) (.notN (.ix (.X 2) (.X 4)))) (.cons (.ite (.or (.isN (.ix (.X 3) (.X 6))) (.Z .lt (.G .add (.ix (.X 2) (.X 4)) (.X 7)) (.ix (.X 3) (.X 6)))) (.cons (.setIx (.X 3) (.X 6) (.G .add (.ix (.X 2) (.X 4)) (.X 7))) .nil) .nil) .nil) .nil) .nil)) (.cons (.ret (.X 3)) .nil)))⟩
class Has (P:Pr)(d:Df):Prop where
 eq:P.df d.name=some d
class HasL (P:Pr)(d:Lm):Prop where
 eq:P.lm d.id=some d
class HasC (P:Pr)(x:String)(v:D):Prop where
 eq:P.con x=some v
def fin (s:Sto)(c:Ct)(s':Sto):R D:=match c with
 | .ret v=>zJ s v s'
 | .next _=>zJ s .N s'
 | _=>.B
@[simp] theorem zU s v s' :fin s (.ret v) s'=zJ s v s':=rfl
@[simp] theorem fin_next s U s' :fin s (.next U) s'=zJ s .N s':=rfl
theorem zd d [h:Has P d](hl:l.length=d.ps) :
  (aa1 P (n+1)).call d.name l s=(exs (aa1 P n) d.body (l.map some++aq d.vs none) s).bind (fin s):=by
 simp only[aa1,h.eq,hl]
 rfl
theorem jg d [h:HasL P d](hl:l.length=d.ps)(hc:cs.length=d.cs)(hn:(D.nclL l&&D.nclL cs&&s.all O.ncl)=true) :
  (aa1 P (n+1)).lam d.id cs l s=(ev (aa1 P n) d.body (l.map some++cs.map some) s).bind (zJ s):=by
 simp only[aa1,h.eq,hl,hc,hn,and_self,if_true]
theorem ay0 [h:HasC P x v]:(aa1 P n).con x=some v:=by
 cases n<;>exact h.eq
theorem aH8 s t :au4 s (s++t)=true:=by
 unfold au4
 rw[aX]
 intro i h
 rw[bq]at h
 rw[ax h]
 simp
theorem aq3 s t r o (h:o.bnd s.length=true):au4 s (s.set r o++t)=true:=by
 unfold au4
 rw[aX]
 intro i y
 rw[bq]at y
 rw[ax (by rw[bN];exact y)]
 by_cases e:r=i
 .subst e;rw[aZ y];simp[h]
 .rw[br e];simp
theorem zW (h:∀ n,d.bnd n=true)(y:∀ r,d≠.ref r):zJ s d (s++t)=.ok d s:=by
 unfold zJ
 rw[aH8,if_pos rfl]
 cases d with
 | ref r=>exact absurd rfl (y r)
 | _=>simp[h]
theorem zt (h:∀ n,d.bnd n=true)(y:∀ r,d≠.ref r):zJ s d s=.ok d s:=by
 have:=zW (s:=s) (t:=[]) h y
 rwa [bf]at this
theorem aC6 (h:∀ n,d.bnd n=true)(y:∀ r,d≠.ref r)(ho:o.bnd s.length=true):zJ s d (s.set r o++t)=.ok d (s.set r o):=by
 unfold zJ
 rw[aq3 s t r o ho,if_pos rfl]
 have e:(s.set r o++t).take s.length=s.set r o:=by rw[eV (by simp),gQ (by simp)]
 cases d with
 | ref r=>exact absurd rfl (y r)
 | _=>simp only[h,if_true,e]
theorem aV9 (h:∀ n,d.bnd n=true)(y:∀ r,d≠.ref r)(ho:o.bnd s.length=true):zJ s d (s.set r o)=.ok d (s.set r o):=by
 have:=aC6 (t:=[]) (r:=r) h y ho
 rwa [bf]at this
theorem as9 { u:Sto}(ho:o.bnd s.length=true):zJ s (.ref (s.length+t.length)) (s++(t++o::u))=.ok (.ref s.length) (s++[o]):=by
 unfold zJ
 rw[aH8,if_pos rfl]
 simp[ho]
@[simp] theorem zL :zJ s (.int i) s=.ok (.int i) s:=zt (λ _=>rfl) (by nofun)
@[simp] theorem qa :zJ s (.T i) s=.ok (.T i) s:=zt (λ _=>rfl) (by nofun)
@[simp] theorem ar5 :zJ s .N s=.ok .N s:=zt (λ _=>rfl) (by nofun)
@[simp] theorem ch3 :zJ s (.str x) s=.ok (.str x) s:=zt (λ _=>rfl) (by nofun)
theorem jy :∀ {n} {U} {s},jV c g n U s≠.B->jV c g (n+1) U s=jV c g n U s
 | 0,_,_,h=>absurd rfl h
 | n+1,U,s,h=>by
  rw[show jV c g (n+1+1) U s=tru (c U s) (λ b s=>if b then(g U s).bind λ y s=>match y with
   | .next U=>jV c g (n+1) U s|.cont U=>jV c g (n+1) U s|.brk U=>.ok (.next U) s|.ret d=>.ok (.ret d) s else .ok (.next U) s)from rfl]
  have e:jV c g (n+1) U s=tru (c U s) (λ b s=>if b then(g U s).bind λ y s=>match y with
   | .next U=>jV c g n U s|.cont U=>jV c g n U s|.brk U=>.ok (.next U) s|.ret d=>.ok (.ret d) s else .ok (.next U) s):=rfl
  rw[e]at h ⊢
  unfold tru at h ⊢
  cases hc:c U s with
  | exc _ _=>rfl
  | B=>rfl
  | ok d s1 =>
   rw[hc]at h
   cases d with
   | T b =>
    cases b with
    | false=>rfl
    | true =>
     simp only[R.bind_ok]at h ⊢
     cases hg:g U s1 with
     | exc _ _=>rfl
     | B=>rfl
     | ok y s2 =>
      rw[hg]at h
      simp only[R.bind_ok]at h ⊢
      cases y with
      | next U'=>exact jy h
      | cont U'=>exact jy h
      | _=>rfl
   | _=>rfl
theorem qU (h:jV c g n U s≠.B):∀ k,jV c g (n+k) U s=jV c g n U s
 | 0=>rfl
 | k+1=>by
  have e:=qU h k
  rw[<-Nat.add_assoc,jy (by rw[e];exact h),e]
theorem bZ3 (h:jV c g n U s=.ok r t):whl c g U s=.ok r t:=by
 have hb:jV c g n U s≠.B:=by rw[h];nofun
 have hx:∃ n,jV c g n U s≠.B:=⟨n,hb⟩
 unfold whl
 rw[dif_pos hx]
 have y:=qU hx.choose_spec n
 have G:=qU hb hx.choose
 rw[<-y,gO,G,h]
theorem bz2 (hc:c U s=.ok (.T true) s1)(h:g U s1=.ok (.next U') s'):whl c g U s=whl c g U' s':=by
 have key:∀ n,jV c g (n+1) U s=jV c g n U' s':=λ n=>by
  show tru (c U s) _=_
  rw[hc,zH,if_pos rfl,h];rfl
 unfold whl
 by_cases hx:∃ n,jV c g n U' s'≠.B
 .have hy:∃ n,jV c g n U s≠.B:=⟨hx.choose+1,by rw[key];exact hx.choose_spec⟩
  rw[dif_pos hx,dif_pos hy]
  have y:=qU hy.choose_spec (hx.choose+1)
  have G:=qU (by rw[key];exact hx.choose_spec) hy.choose
  rw[<-y,gO,G,key]
 .have hy:¬ ∃ n,jV c g n U s≠.B:=λ⟨n,hn⟩=>by
   cases n with
   | zero=>exact hn rfl
   | succ n=>exact hx ⟨n,by rw[<-key];exact hn⟩
  rw[dif_neg hx,dif_neg hy]
theorem bF4 (hc:c U s=.ok (.T false) s1):whl c g U s=.ok (.next U) s1 :=
 bZ3 (n:=1) (by show tru (c U s) _=_;rw[hc,zH];rfl)
theorem bp5 s0 s :chk s0 s []=true:=rfl
theorem jP (P:Nat->Env->Sto->Prop):∀ l k U s ,
  P k U s->(∀ j U s ,j<=l.length->P (k+j) U s->ok s=true)->(∀ j d U s ,l[j]?=some d->P (k+j) U s->∃ U' s',(g d U s=.ok (.next U') s'\/g d U s=.ok (.cont U') s')/\P (k+j+1) U' s') ->
  ∃ U' s',aX1 ok g l U s=.ok (.next U') s'/\P (k+l.length) U' s'
 | [],k,U,s,h,o,_=>⟨U,s,by show(if ok s then _ else _)=_;rw[if_pos (o 0 U s (ak _) h)],h⟩
 | d::l,k,U,s,h,o,t=>by
  have ho:=o 0 U s (c8 _) h
  obtain⟨U1,s1,y,J⟩:=t 0 d U s rfl h
  obtain⟨U2,s2,e,Y⟩:=jP P l (k+1) U1 s1 J (λ j U' s' hj G=>o (j+1) U' s' (by simpa using hj) (by rwa [show k+(j+1)=k+1+j by lia])) λ j d' U' s' hj G=>by
   have:=t (j+1) d' U' s' (by simpa using hj) (by rwa [show k+(j+1)=k+1+j by lia])
   rwa [show k+(j+1)+1=k+1+j+1 by lia]at this
  refine⟨U2,s2,?_,by rwa [aR,show k+(l.length+1)=k+1+l.length by lia]⟩
  show(if ok s then _ else _)=_
  rw[if_pos ho]
  rcases y with y|y<;>(rw[y];exact e)
noncomputable def Nx (Q:Env->Sto->Prop):R Ct->Prop
 | .ok (.next U) s=>Q U s
 | .ok (.cont U) s=>Q U s
 | _=>False
@[simp] theorem bf5 Q U s :Nx Q (.ok (.next U) s)=Q U s:=rfl
@[simp] theorem cr0 Q U s :Nx Q (.ok (.cont U) s)=Q U s:=rfl
theorem aD6 (e:r=.ok (.next U) s)(h:Q U s):Nx Q r:=by rw[e];exact h
theorem Nx.out :∀ {r},Nx Q r->∃ U s,(r=.ok (.next U) s\/r=.ok (.cont U) s)/\Q U s
 | .ok (.next U) s,h=>⟨U,s,.inl rfl,h⟩
 | .ok (.cont U) s,h=>⟨U,s,.inr rfl,h⟩
 | .ok (.ret _) _,h=>h.elim
 | .ok (.brk _) _,h=>h.elim
 | .exc _ _,h=>h.elim
 | .B,h=>h.elim
noncomputable def Tst (A B:Sto->Prop):R D->Prop
 | .ok (.T false) s=>A s
 | .ok (.T true) s=>B s
 | _=>False
@[simp] theorem bU9 A B b s :Tst A B (.ok (.T b) s)=if b then B s else A s:=by cases b<;>rfl
theorem Tst.out :∀ {r},Tst A B r->(∃ s,r=.ok (.T false) s/\A s)\/∃ s,r=.ok (.T true) s/\B s
 | .ok (.T false) s,h=>.inl ⟨s,rfl,h⟩
 | .ok (.T true) s,h=>.inr ⟨s,rfl,h⟩
 | .ok .N _,h=>h.elim
 | .ok (.int _) _,h=>h.elim
 | .ok (.str _) _,h=>h.elim
 | .ok (.tp _) _,h=>h.elim
 | .ok (.ref _) _,h=>h.elim
 | .ok (.fn _) _,h=>h.elim
 | .ok (.clo _ _) _,h=>h.elim
 | .exc _ _,h=>h.elim
 | .B,h=>h.elim
theorem bt9 (hc:c U s=.ok (.T true) s1)(h:g U s1=.ok (.cont U') s'):whl c g U s=whl c g U' s':=by
 have key:∀ n,jV c g (n+1) U s=jV c g n U' s':=λ n=>by
  show tru (c U s) _=_
  rw[hc,zH,if_pos rfl,h];rfl
 unfold whl
 by_cases hx:∃ n,jV c g n U' s'≠.B
 .have hy:∃ n,jV c g n U s≠.B:=⟨hx.choose+1,by rw[key];exact hx.choose_spec⟩
  rw[dif_pos hx,dif_pos hy]
  have y:=qU hy.choose_spec (hx.choose+1)
  have G:=qU (by rw[key];exact hx.choose_spec) hy.choose
  rw[<-y,gO,G,key]
 .have hy:¬ ∃ n,jV c g n U s≠.B:=λ⟨n,hn⟩=>by
   cases n with
   | zero=>exact hn rfl
   | succ n=>exact hx ⟨n,by rw[<-key];exact hn⟩
  rw[dif_neg hx,dif_neg hy]
theorem cb5 (P:Nat->Env->Sto->Prop)(Q:Env->Sto->Prop)
  (step:∀ k U s,P k U s->Tst (λ s1=>Q U s1) (λ s1=>Nx (λ U' s'=>∃ G,G<k/\P G U' s') (g U s1)) (c U s)) :
  ∀ k U s ,P k U s->∃ U' s',whl c g U s=.ok (.next U') s'/\Q U' s':=by
 intro k
 induction k using kH with
 | _ k ih =>
  intro U s h
  rcases(step k U s h).out with⟨s1,hc,hq⟩|⟨s1,hc,hn⟩
  .exact⟨U,s1,bF4 hc,hq⟩
  .obtain⟨U',s',y,G,hk,J⟩:=hn.out
   rcases y with y|y
   .rw[bz2 hc y];exact ih G hk U' s' J
   .rw[bt9 hc y];exact ih G hk U' s' J
theorem by7 {Ww:R α->Prop}(P:Nat->Env->Sto->Prop)(Q:Env->Sto->Prop) k (h:P k U s)
  (step:∀ k U s,P k U s->Tst (λ s1=>Q U s1) (λ s1=>Nx (λ U' s'=>∃ y,y<k/\P y U' s') (g U s1)) (c U s))
  (G:∀ U' s',Q U' s'->Ww (f (.next U') s')):Ww ((whl c g U s).bind f):=by
 obtain⟨U',s',e,q⟩:=cb5 P Q step k U s h
 rw[e]
 exact G U' s' q
theorem bz7 {x:R α}(P:Nat->Env->Sto->Prop)(Q:Env->Sto->Prop) k (h:P k U s)
  (step:∀ k U s,P k U s->Tst (λ s1=>Q U s1) (λ s1=>Nx (λ U' s'=>∃ y,y<k/\P y U' s') (g U s1)) (c U s))
  (G:∀ U' s',Q U' s'->f (.next U') s'=x):(whl c g U s).bind f=x:=by7 (Ww:=(·=x)) P Q k h step G
theorem jd {Ww:R α->Prop}(P:Nat->Env->Sto->Prop)(h:P 0 U s)
  (o:∀(j:Nat) (U:Env) (s:Sto),j<=l.length->P j U s->ok s=true) (step:∀(j:Nat) (d:D) (U:Env) (s:Sto),l[j]?=some d->P j U s->Nx (P (j+1)) (g d U s))
  (G:∀ U' s',P l.length U' s'->Ww (f (.next U') s')):Ww ((aX1 ok g l U s).bind f):=by
 obtain⟨U',s',e,q⟩:=jP P l 0 U s h (λ j U s hj y=>o j U s hj (by rwa [cD]at y)) (λ j d U s hj y=>by
  rw[cD]at y ⊢
  exact(step j d U s hj y).out)
 rw[e]
 rw[cD]at q
 exact G U' s' q
theorem jF {x:R α}(P:Nat->Env->Sto->Prop)(h:P 0 U s)
  (o:∀(j:Nat) (U:Env) (s:Sto),j<=l.length->P j U s->ok s=true) (step:∀(j:Nat) (d:D) (U:Env) (s:Sto),l[j]?=some d->P j U s->Nx (P (j+1)) (g d U s))
  (y:∀ U' s',P l.length U' s'->f (.next U') s'=x):(aX1 ok g l U s).bind f=x:=jd (Ww:=(·=x)) P h o step y
section
variable {F:Fns} {U:Env} {s:Sto}
@[simp] theorem ze i :ev F (.X i) U s=bq6 U i s:=rfl
@[simp] theorem zB c :ev F (.K c) U s=.ok c.d s:=rfl
@[simp] theorem qI op a b :ev F (.G op a b) U s=(ev F a U s).bind λ x s=>(ev F b U s).bind λ y s=>jv op x y s:=rfl
@[simp] theorem ev_not a :ev F (.not a) U s=tru (ev F a U s) λ b s=>.ok (.T (!b)) s:=rfl
@[simp] theorem zO op a b :ev F (.Z op a b) U s=(ev F a U s).bind λ x s=>(ev F b U s).bind λ y s=>qj op x y s:=rfl
@[simp] theorem ax4 o p a b c :ev F (.chain o p a b c) U s=(ev F a U s).bind λ x s=>(ev F b U s).bind λ y s=>tru (qj o x y s) λ k s=>if k then(ev F c U s).bind λ z s=>qj p y z s else .ok (.T false) s:=rfl
@[simp] theorem ev_isN a :ev F (.isN a) U s=(ev F a U s).bind λ x s=>.ok (.T (decide (x=.N))) s:=rfl
@[simp] theorem ev_notN a :ev F (.notN a) U s=(ev F a U s).bind λ x s=>.ok (.T (!decide (x=.N))) s:=rfl
@[simp] theorem ev_and a b :ev F (.and a b) U s=tru (ev F a U s) λ c s=>if c then tru (ev F b U s) λ c s=>.ok (.T c) s else .ok (.T false) s:=rfl
@[simp] theorem ev_or a b :ev F (.or a b) U s=tru (ev F a U s) λ c s=>if c then .ok (.T true) s else tru (ev F b U s) λ c s=>.ok (.T c) s:=rfl
@[simp] theorem ev_ite c a b :ev F (.ite c a b) U s=tru (ev F c U s) λ k s=>if k then ev F a U s else ev F b U s:=rfl
@[simp] theorem ev_tup es :ev F (.tp es) U s=(evs F es U s).bind λ l s=>.ok (.tp l) s:=rfl
@[simp] theorem ev_lst es :ev F (.J es) U s=(evs F es U s).bind λ l s=>ag6 (.J l) s:=rfl
@[simp] theorem qz a b :ev F (.ix a b) U s=(ev F a U s).bind λ x s=>(ev F b U s).bind λ y s=>ixM x y s:=rfl
@[simp] theorem qb f h :ev F (.call f h) U s=(an4 F h U s).bind λ l s=>F.call f l s:=rfl
@[simp] theorem jb f h :ev F (.callC f h) U s=(an4 F h U s).bind λ l s=>(F.call f l s).bind λ d s'=>if(d.ncl&&s'.all O.ncl)=true then .ok d s' else .B:=rfl
@[simp] theorem ev_bi b es :ev F (.bi b es) U s=(evs F es U s).bind λ l s=>bi b l s:=rfl
@[simp] theorem ev_mk k it :ev F (.mk k it) U s=(evL F it U s).bind λ q s=>mk k q s:=rfl
@[simp] theorem ev_mkD k it d :ev F (.mkD k it d) U s=(evL F it U s).bind λ q s=>(ev F d U s).bind λ d s=>mkD k q d s:=rfl
@[simp] theorem qg m o es :ev F (.me m o es) U s=(ev F o U s).bind λ x s=>(evs F es U s).bind λ l s=>meth m x l s:=rfl
@[simp] theorem zu:evs F .nil U s=.ok [] s:=rfl
@[simp] theorem zr e es :evs F (.cons e es) U s=(ev F e U s).bind λ d s=>(evs F es U s).bind λ l s=>.ok (d::l) s:=rfl
@[simp] theorem zE:an4 F .nil U s=.ok [] s:=rfl
@[simp] theorem zN e h :an4 F (.ex e h) U s=(ev F e U s).bind λ d s=>(an4 F h U s).bind λ l s=>.ok (d::l) s:=rfl
@[simp] theorem cn1 f h :an4 F (.fn f h) U s=(an4 F h U s).bind λ l s=>.ok (.fn f::l) s:=rfl
@[simp] theorem evI_seq e :evI F (.seq e) U s=(ev F e U s).bind λ d s=>av4 d s:=rfl
@[simp] theorem cl8 es :evL F (.disp es) U s=evs F es U s:=rfl
@[simp] theorem evL_seq e :evL F (.seq e) U s=(ev F e U s).bind λ d s=>aZ4 d s:=rfl
def bN2 (x:D):M Sq:=λ s=>match x with|.int i=>if -Ww62<=i/\i<Ww62 then .ok ⟨jU 0 i,[]⟩ s else .B|_=>.B
@[simp] theorem qv a :evI F (.rg a) U s=(ev F a U s).bind λ x s=>bN2 x s:=rfl
theorem zQ (h0:-Ww62<=i)(h:i<Ww62):bN2 (.int i) s=.ok ⟨jU 0 i,[]⟩ s:=by unfold bN2;simp only[h0,h,and_self,if_true]
def nxt (F:Fns)(ss:Ss)(c:Ct)(s:Sto):R Ct:=match c with|.next U=>exs F ss U s|c=>.ok c s
@[simp] theorem zn h U s :nxt F h (.next U) s=exs F h U s:=rfl
@[simp] theorem zV h d s :nxt F h (.ret d) s=.ok (.ret d) s:=rfl
@[simp] theorem nxt_cont h U s :nxt F h (.cont U) s=.ok (.cont U) s:=rfl
@[simp] theorem zl:exs F .nil U s=.ok (.next U) s:=rfl
@[simp] theorem za st h :exs F (.cons st h) U s=(ex F st U s).bind (nxt F h):=rfl
noncomputable def cs4 (U:Option Env)(s:Sto):R Ct:=match U with|some U=>.ok (.next U) s|none=>.B
@[simp] theorem zv U s :cs4 (some U) s=.ok (.next U) s:=rfl
@[simp] theorem qd tg e :ex F (.A tg e) U s=(ev F e U s).bind λ d s=>cs4 (jO U tg d) s:=rfl
@[simp] theorem ex_setIx o i e :ex F (.setIx o i e) U s=(ev F e U s).bind λ d s=>(ev F o U s).bind λ x s=>(ev F i U s).bind λ y s=>(setIx x y d s).bind λ _ s=>.ok (.next U) s:=rfl
@[simp] theorem ex_ex e :ex F (.ex e) U s=(ev F e U s).bind λ _ s=>.ok (.next U) s:=rfl
@[simp] theorem qD e :ex F (.ret e) U s=(ev F e U s).bind λ d s=>.ok (.ret d) s:=rfl
@[simp] theorem qe c a b :ex F (.ite c a b) U s=tru (ev F c U s) λ k s=>if k then exs F a U s else exs F b U s:=rfl
@[simp] theorem ex_whl c b :ex F (.whl c b) U s=whl (ev F c) (exs F b) U s:=rfl
def turn (F:Fns)(tg:Tg)(b:Ss)(d:D)(U:Env)(s:Sto):R Ct:=match jO U tg d with
 | some U=>exs F b U s
 | none=>.B
@[simp] theorem ex_for tg it b :ex F (.fo tg it b) U s=(evI F it U s).bind λ q s0=>aX1 (λ s=>chk s0 s q.src) (turn F tg b) q.its U s0:=rfl
@[simp] theorem ex_und i :ex F (.und i) U s=cs4 (ai7 U i) s:=rfl
@[simp] theorem zb i d :jO U (.Y i) d=aT6 U i d:=rfl
@[simp] theorem bindT_tup is l :jO U (.tp is) (.tp l)=ar0 U is l:=rfl
@[simp] theorem setVs_nil:ar0 U [] []=some U:=rfl
@[simp] theorem setVs_cons i is d l :ar0 U (i::is) (d::l)=(aT6 U i d).bind λ U=>ar0 U is l:=rfl
@[simp] theorem zg d (U:Env):bq6 (some d::U) 0 s=.ok d s:=rfl
@[simp] theorem zh x (U:Env) i :bq6 (x::U) (i+1) s=bq6 U i s:=by unfold bq6;rw[List.getElem?_cons_succ]
@[simp] theorem zy d x (U:Env):aT6 (x::U) 0 d=some (some d::U):=rfl
@[simp] theorem zG d x (U:Env) i :aT6 (x::U) (i+1) d=(aT6 U i d).map (x::·):=by
 unfold aT6
 by_cases h:i < U.length
 .rw[if_pos (by simpa using h),if_pos h];rfl
 .rw[if_neg (by simpa using h),if_neg h];rfl
@[simp] theorem unsetV_0 x (U:Env):ai7 (x::U) 0=some (none::U):=rfl
@[simp] theorem unsetV_s x (U:Env) i :ai7 (x::U) (i+1)=(ai7 U i).map (x::·):=by
 unfold ai7
 by_cases h:i < U.length
 .rw[if_pos (by simpa using h),if_pos h];rfl
 .rw[if_neg (by simpa using h),if_neg h];rfl
@[simp] theorem zC i :(Cn.int i).d=.int i:=rfl
@[simp] theorem Cn_bl i :(Cn.T i).d=.T i:=rfl
@[simp] theorem jk i :(Cn.str i).d=.str i:=rfl
@[simp] theorem Cn_non:Cn.N.d=.N:=rfl
@[simp] theorem add_int a b :jv .add (.int a) (.int b) s=.ok (.int (a+b)) s:=rfl
@[simp] theorem sub_int a b :jv .sub (.int a) (.int b) s=.ok (.int (a - b)) s:=rfl
theorem ag4 (h:mulOk a b=true):jv .mul (.int a) (.int b) s=.ok (.int (a*b)) s:=by show(if mulOk a b then _ else _:M D) s=_;rw[if_pos h];rfl
theorem ao9 (h:a.natAbs<2^64):mulOk a b=true:=by unfold mulOk;simp[h]
theorem aL7 (h:b.natAbs<2^64):mulOk a b=true:=by unfold mulOk;simp[h]
theorem jQ (h:0<b):jv .mod (.int a) (.int b) s=.ok (.int (a % b)) s:=by show(if 0<b then _ else _:M D) s=_;rw[if_pos h];rfl
theorem bP4:(10)^200<=(DIVL:Int):=by unfold DIVL;decide +kernel
theorem ay4 (h:0<b)(y:b<10^200):jv .fdiv (.int a) (.int b) s=.ok (.int (a / b)) s:=by show(if 0<b/\b<(DIVL)then _ else _:M D) s=_;rw[if_pos ⟨h,Int.lt_of_lt_of_le y bP4⟩];rfl
theorem aA3 (h:0<=b/\b<=1000000/\a.natAbs<2^64):jv .pow (.int a) (.int b) s=.ok (.int (a^b.toNat)) s:=by show(if _ then _ else _:M D) s=_;rw[if_pos h];rfl
@[simp] theorem lt_int a b :qj .lt (.int a) (.int b) s=.ok (.T (decide (a<b))) s:=rfl
@[simp] theorem le_int a b :qj .le (.int a) (.int b) s=.ok (.T (decide (a<=b))) s:=rfl
@[simp] theorem gt_int a b :qj .gt (.int a) (.int b) s=.ok (.T (decide (b<a))) s:=rfl
@[simp] theorem ge_int a b :qj .ge (.int a) (.int b) s=.ok (.T (decide (b<=a))) s:=rfl
@[simp] theorem eq_int a b :qj .eq (.int a) (.int b) s=.ok (.T (decide (a=b))) s:=rfl
@[simp] theorem ne_int a b :qj .ne (.int a) (.int b) s=.ok (.T (!decide (a=b))) s:=rfl
@[simp] theorem js o :ag6 o s=.ok (.ref s.length) (s++[o]):=rfl
@[simp] theorem ay8 l :bi .len [.tp l] s=.ok (.int l.length) s:=rfl
@[simp] theorem bF6 l :bi .len [.str l] s=.ok (.int l.length) s:=rfl
theorem bo9 (h:s[r]?=some (.J l)):bi .len [.ref r] s=.ok (.int l.length) s:=by simp only[bi,bi1,bG7,h]
theorem bC2 (h:s[r]?=some (.ro l)):bi .len [.ref r] s=.ok (.int l.length) s:=by simp only[bi,bi1,bG7,h]
@[simp] theorem cm5 i :bi .abs [.int i] s=.ok (.int (if i<0 then -i else i)) s:=rfl
@[simp] theorem ao3 a b :bi .min2 [.int a,.int b] s=.ok (.int (if b<a then b else a)) s:=rfl
@[simp] theorem bz1 a b :bi .max2 [.int a,.int b] s=.ok (.int (if b > a then b else a)) s:=rfl
@[simp] theorem bg2 a :bi .isInt [.int a] s=.ok (.T true) s:=rfl
@[simp] theorem aX9 a :bi .isBool [.int a] s=.ok (.T false) s:=rfl
@[simp] theorem aD1 l :bi .isTup [.tp l] s=.ok (.T true) s:=rfl
theorem cn6 {j:Nat}(h:s[r]?=some (.ro l))(hj:l[j]?=some d):ixM (.ref r) (.int (j)) s=.ok d s:=by
 have hl:=(ac.mp hj).1
 have e:=(ac.mp hj).2
 simp[ixM,h,ixn,hl,e]
theorem qk {j:Nat}(h:s[r]?=some (.J l))(hj:l[j]?=some d):ixM (.ref r) (.int (j)) s=.ok d s:=by
 have hl:=(ac.mp hj).1
 have e:=(ac.mp hj).2
 simp[ixM,h,ixn,hl,e]
theorem ix_tup {j:Nat}(hj:l[j]?=some d):ixM (.tp l) (.int (j)) s=.ok d s:=by
 have hl:=(ac.mp hj).1
 have e:=(ac.mp hj).2
 simp[ixM,ixn,hl,e]
theorem bL3 {j:Nat}(h:s[r]?=some (.J l))(hl:j<l.length):setIx (.ref r) (.int (j)) v s=.ok () (s.set r (.J (l.set j v))):=by
 simp[setIx,h,ixn,hl]
theorem qM (h:s[r]?=some (.J l))(hl:l.length<LIM):meth .append (.ref r) [v] s=.ok .N (s.set r (.J (l++[v]))):=by
 show(match s[r]? with|some (.J l)=>(if l.length<LIM then R.ok D.N (s.set r (.J (l++[v])))else .B)|_=>.B)=_
 rw[h]
 exact if_pos hl
end
theorem aK8 s t b :∃ s',zJ s (.T b) t=.ok (.T b) s':=by
 unfold zJ
 by_cases h:au4 s t=true
 .rw[if_pos h];exact⟨_,rfl⟩
 .rw[if_neg h];exact⟨_,rfl⟩
def Yes (r:R D):Prop:=∃ s',r=.ok (.T true) s'
theorem bp8 s t :Yes (zJ s (.T true) t):=aK8 s t true
theorem aj2 {j:Nat}(h:(jU a b)[j]?=some d):(j)<b - a/\d=.int (a+j):=by
 have hj:=(ac.mp h).1
 simp only[jU,aD,cX]at hj
 unfold jU at h
 rw[av,be hj]at h
 exact⟨by omega,(aw h).symm⟩
def cm7 (P:Pr)(k:Nat):Prop:=∀ ns:List Int,ns.length<=63->Yes ((aa1 P k).call "law" [.ref 0] [.ro (ns.map D.int)])
noncomputable def qE:Option Int->D
 | none=>.N
 | some i=>.int i
@[simp] theorem aj1:qE none=.N:=rfl
@[simp] theorem jE i :qE (some i)=.int i:=rfl
@[simp] theorem jq p n :(qE p).bnd n=true:=by cases p<;>rfl
theorem ay2 p r :qE p≠.ref r:=by cases p<;>nofun
@[simp] theorem aY1 :zJ s (qE p) s=.ok (qE p) s:=zt (jq p) (ay2 p)
noncomputable def cy9 (b:Nat×Nat):O:=.J [.int b.1,.int b.2]
@[simp] theorem cl5 b n :(cy9 b).bnd n=true:=rfl
noncomputable def tkW (many:Nat):Nat->Nat->Nat->Nat->Nat×Nat
 | 0,mix,num,_=>(num,mix)
 | n+1,mix,num,room=>if room<many then tkW many n ((mix*48271+7919) % 2147483647) (num*1073741789+(mix*48271+7919) % 2147483647 / 8*69621 % 1073741789) (room*1073741789)else(num,mix)
def tk (b:Nat×Nat)(many:Nat):Nat×(Nat×Nat) :=
 if 0<b.1 then(b.1 % many,(b.1 / many,b.2))else let r:=tkW many 12 b.2 0 1;(r.1 % many,(b.1,r.2))
theorem bR0 { t:Sto}(h:r<s.length):(s++t).set r o=s.set r o++t:=by rw[List.set_append,if_pos h]
theorem jx { t:Sto}{r:Nat}(h:s[r]?=some o):(s++t)[r]?=some o:=by
 rw[ax (ac.mp h).1];exact h
theorem bl1 {s:Sto}(h:r<s.length):(s.set r o)[r]?=some o:=aZ h
def bd (b:Nat×Nat):Nat×(Nat×Nat) :=
 let x0:=tk b 3
 let x1:=tk x0.2 13
 let x2:=tk x1.2 1000000000
 let x3:=tk x2.2 1000000000000000000000000000000
 let i:=tk x3.2 4
 ([x0.1,x1.1,x2.1,x3.1].getD i.1 0,i.2)
section
variable {F:Fns} {U:Env} {s:Sto}
def qC (F:Fns)(tg:Tg)(e:E)(d:D)(U:Env)(s:Sto):R (Option D×Env):=match jO U tg d with
 | some U=>(ev F e U s).bind λ v s=>.ok (some v,U) s
 | none=>.B
def aG3 (F:Fns)(tg:Tg)(c e:E)(d:D)(U:Env)(s:Sto):R (Option D×Env):=match jO U tg d with
 | some U=>tru (ev F c U s) λ k s=>if k then(ev F e U s).bind λ v s=>.ok (some v,U) s else .ok (none,U) s
 | none=>.B
@[simp] theorem jG tg it e h :evL F (.comp tg it e h) U s=(evI F it U s).bind λ q s0=>if q.its.length<=LIM then qX (λ s=>chk s0 s q.src) (qC F tg e) q.its (zX U h) s0 else .B:=rfl
@[simp] theorem jI tg it c e h :evL F (.compIf tg it c e h) U s=(evI F it U s).bind λ q s0=>if q.its.length<=LIM then qX (λ s=>chk s0 s q.src) (aG3 F tg c e) q.its (zX U h) s0 else .B:=rfl
@[simp] theorem ch8 a h :ev F (.slU a h) U s=(ev F a U s).bind λ x s=>(ev F h U s).bind λ y s=>match y with|.int i=>slM x none (some i) s|_=>.B:=rfl
end
theorem ak4 (P:Env->Sto->Prop) f :∀ l U s ,P U s ->
  (∀ U s,P U s->ok s=true)->(∀ d∈l,∀ U s,P U s->∃ U' s',g d U s=.ok (f d,U') s'/\P U' s')->∃ U' s',qX ok g l U s=.ok (l.filterMap f) s'/\P U' s'
 | [],U,s,h,o,_=>⟨U,s,by unfold qX;rw[if_pos (o U s h)];rfl,h⟩
 | d::l,U,s,h,o,st=>by
  obtain⟨U1,s1,e1,y⟩:=st d (aG ..) U s h
  obtain⟨U2,s2,e2,G⟩:=ak4 P f l U1 s1 y o λ x hx=>st x (aE _ hx)
  refine⟨U2,s2,?_,G⟩
  unfold qX
  rw[if_pos (o U s h),e1]
  simp only[R.bind_ok]
  rw[e2,bC]
  cases f d<;>rfl
theorem je {k:Int}(h:k<=1000):k<=10^90:=cw h (by decide)
theorem bq0 (h:0<=k/\k<=1000000):jv .shl (.int 1) (.int k) s=.ok (.int (1*2^k.toNat)) s:=by
 show(if 0<=k/\k<=1000000/\(1:Int).natAbs<2^64 then _ else _:M D) s=_
 rw[if_pos ⟨h.1,h.2,by decide⟩];rfl
theorem zR (h:∀ d∈l,∀ n,d.bnd n=true) n :D.bndL n l=true:=by
 induction l with
 | nil=>rfl
 | cons d l ih=>unfold D.bndL;rw[h d (aG ..),ih λ x hx=>h x (aE _ hx)];rfl
noncomputable def bl7 (bits:Nat):D->Option D
 | .int i=>if(bits:Int) / (1*2^i.toNat) % 2=1 then some (.int i)else none
 | _=>none
theorem bC0 {k:Nat}(h:k<3) s :ixM (.str [97,98,99]) (.int (k)) s=.ok (.str [97+k]) s:=by
 match k,h with
 | 0,_=>rfl
 | 1,_=>rfl
 | 2,_=>rfl
theorem bR3 (h:a.length+b.length<=LIM):jv .add (.str a) (.str b) s=.ok (.str (a++b)) s:=by
 show(if a.length+b.length<=LIM then _ else _:M D) s=_;rw[if_pos h];rfl
def Lts (L:Nat)(w:List Nat):Prop:=∀ c∈w,97<=c/\c<97+L
theorem rep_len l :∀ n,(rep n l).length=l.length*n
 | 0=>by simp[rep]
 | n+1=>by simp[rep,rep_len l n,ip];omega
noncomputable def cj8 (L:Nat)(d:D):Bool:=match d with
 | .str w=>decide (w.length<=200)&&w.all λ c=>decide (97<=c/\c<97+L)
 | _=>false
noncomputable def bI4 (s:Sto):D->Prop
 | .fn _=>False
 | .clo _ _=>False
 | .ref k=>∃ l,s[k]?=some (.J l)
 | _=>True
theorem al6 [HasC P x v]{n}{U}{s}:ev (aa1 P n) (.gl x) U s=.ok v s:=by
 show(match(aa1 P n).con x with|some d=>R.ok d s|none=>.B)=_
 rw[ay0 (v:=v)]
noncomputable abbrev aT5:List D:=[.str [97],.str [98],.str [99]]
theorem be0 {L:Nat}(h:L<=3) s :slM (.tp aT5) none (some (L)) s=.ok (.tp (aT5.take L)) s:=by
 match L,h with
 | 0,_=>rfl
 | 1,_=>rfl
 | 2,_=>rfl
 | 3,_=>rfl
theorem ba0 [Has P ad6][HasC P "LETTERS" (.tp aT5)] n {L:Nat}(h:L<=3) l  s :(aa1 P (n+1)).call "letters_of" [.tp (.int L::l)] s=.ok (.tp (aT5.take L)) s:=by
 refine(zd ad6 rfl).trans ?_
 have y:ixM (.tp (.int L::l)) (.int ((0:Nat))) s=.ok (.int L) s:=ix_tup rfl
 simp [ad6,al6 (v:=.tp aT5)]
 rw[show(0)=((0:Nat):Int)from rfl,y]
 simp only[R.bind_ok]
 rw[be0 h]
 simp
 match L,h with
 | 0,_=>exact zt (λ _=>rfl) (by nofun)
 | 1,_=>exact zt (λ _=>rfl) (by nofun)
 | 2,_=>exact zt (λ _=>rfl) (by nofun)
 | 3,_=>exact zt (λ _=>rfl) (by nofun)
theorem bL9 :qj .isin a b s=(inM a b s).bind λ r s=>.ok (.T r) s:=rfl
@[simp] theorem cv6 a :ev F (.neg a) U s=(ev F a U s).bind λ x s=>match x with|.int i=>.ok (.int (-i)) s|_=>.B:=rfl
structure Dr where
 a:Nat
 l:Nat
 b:Nat
 t:Nat
noncomputable def Dr.d (x:Dr):D:=.tp [.int x.a,.str [x.l],.int x.b,.int x.t]
structure Mc where
 L:Nat
 R:Nat
 bg:List Nat
 en:List Nat
 ds:List Dr
noncomputable def qN (l:List Nat):List D:=l.map λ(k:Nat)=>D.int (k)
noncomputable def br0 (l:List Int):List D:=l.map D.int
noncomputable def sg (w:List Nat):List D:=w.map λ c=>.str [c]
def Mc.ps (m:Mc):List D:=[.int m.L,.int m.R,.tp (qN m.bg),.tp (qN m.en),.tp (m.ds.map Dr.d)]
noncomputable def Mc.d (m:Mc):D:=.tp m.ps
structure Dr.Ok (m:Mc)(x:Dr):Prop where
 a:x.a<m.R
 l:97<=x.l/\x.l<97+m.L
 b:x.b<m.R
 t:x.t<4
structure Mc.Ok (m:Mc):Prop where
 L1:1<=m.L
 L3:m.L<=3
 R1:1<=m.R
 R5:m.R<=5
 bg:(∀ k∈m.bg,k<m.R)/\m.bg.Pairwise (· < ·)
 en:(∀ k∈m.en,k<m.R)/\m.en.Pairwise (· < ·)
 ds:(∀ x∈m.ds,x.Ok m)/\m.ds.length<=75
theorem aS2 :∀ d∈qN l,∀ n,d.bnd n=true:=λ d hd n=>by
 obtain⟨c,_,rfl⟩:=az.mp hd;rfl
theorem aR1 :∀ d∈br0 l,∀ n,d.bnd n=true:=λ d hd n=>by
 obtain⟨c,_,rfl⟩:=az.mp hd;rfl
theorem bm3 {l:List Dr}:∀ d∈l.map Dr.d,∀ n,d.bnd n=true:=λ d hd n=>by
 obtain⟨c,_,rfl⟩:=az.mp hd;rfl
theorem bP6 {m:Mc}:∀ d∈m.ps,∀ n,d.bnd n=true:=λ d hd n=>by
 simp only[Mc.ps,aB,aW,or_false]at hd
 rcases hd with rfl|rfl|rfl|rfl|rfl
 .rfl
 .rfl
 .unfold D.bnd;exact zR aS2 n
 .unfold D.bnd;exact zR aS2 n
 .unfold D.bnd;exact zR bm3 n
theorem bW0 (m:Mc) n :m.d.bnd n=true:=by unfold Mc.d D.bnd;exact zR bP6 n
noncomputable def aj3 (bits k:Nat):List Nat:=(ai k).filter λ i=>decide (bits / 2^i % 2=1)
theorem aI6 h k :(∀ i∈aj3 h k,i<k)/\(aj3 h k).Pairwise (· < ·) :=
 ⟨λ i y=>bq.mp (eZ.mp y).1,lI _ List.pairwise_lt_range⟩
theorem bu0 y (k:Nat):(jU 0 (k)).filterMap (bl7 y)=qN (aj3 y k):=by
 unfold jU aj3 qN
 simp only[lz,dz]
 rw[dW]
 induction (ai k)with
 | nil=>rfl
 | cons i l ih =>
  rw[bC,List.filter_cons]
  have e:((y:Int) / (1*2^((0)+(i:Int)).toNat) % 2=1)↔(y / 2^i % 2=1):=by
   rw[fZ,show((0)+(i:Int)).toNat=i by lia]
   have:((y) / 2^i % 2)=((y / 2^i % 2:Nat):Int):=by simp
   rw[this];omega
  simp only[iU,bl7]
  by_cases h:y / 2^i % 2=1
  .rw[if_pos (e.mpr h)]
   simp only[h,decide_true,if_true,aM]
   rw[<-ih,gT]
  .rw[if_neg λ z=>h (e.mp z)]
   simp only[h]
   exact ih
section
variable {P:Pr}
theorem bO5 (j:Nat)(h:l[j]?=some d):ixM (.tp l) (.int (j)) s=.ok d s:=ix_tup h
theorem ixL (m:Mc) s :ixM m.d (.int 0) s=.ok (.int m.L) s:=bO5 0 rfl
theorem ixR (m:Mc) s :ixM m.d (.int 1) s=.ok (.int m.R) s:=bO5 1 rfl
theorem ixD (m:Mc) s :ixM m.d (.int 4) s=.ok (.tp (m.ds.map Dr.d)) s:=bO5 4 rfl
theorem jR [Has P aa8] n (m:Mc) s :(aa1 P (n+1)).call "rooms_of" [m.d] s=.ok (.int m.R) s:=by
 refine(zd aa8 rfl).trans ?_
 simp [aa8,ixR]
theorem bj4 (h:∀ d∈l,∀ n,d.bnd n=true):zJ s (.tp l) s=.ok (.tp l) s:=zt (λ n=>by unfold D.bnd;exact zR h n) (by nofun)
theorem aN2 [Has P ab3] n (m:Mc) s :(aa1 P (n+1)).call "doors_of" [m.d] s=.ok (.tp (m.ds.map Dr.d)) s:=by
 refine(zd ab3 rfl).trans ?_
 simp [ab3,ixD,bj4 bm3]
theorem bc8 (h:a<b):jU a b=.int a::jU (a+1) b:=by
 unfold jU
 obtain⟨n,hn⟩:∃ n,(b - a).toNat=n+1:=⟨(b - a).toNat - 1,by lia⟩
 rw[hn,show(b - (a+1)).toNat=n by omega,eF,aM,dh]
 congr 1
 .simp
 .apply bZ
  intro k _
  simp only[iU]
  congr 1;lia
@[simp] theorem cs0 a b s :qj .ne (.str [a]) (.str [b]) s=.ok (.T (!decide (a=b))) s:=by
 show(match eqv s DEEP (.str [a]) (.str [b])with|some r=>R.ok (D.T (!r)) s|none=>.B)=_
 have:eqv s DEEP (.str [a]) (.str [b])=some ([a]==[b]):=rfl
 rw[this]
 have e:([a]==[b])=decide (a=b):=by rw[fi];simp
 rw[e]
@[simp] theorem bi4 a b s :qj .eq (.str [a]) (.str [b]) s=.ok (.T (decide (a=b))) s:=by
 show(match eqv s DEEP (.str [a]) (.str [b])with|some r=>R.ok (D.T r) s|none=>.B)=_
 have:eqv s DEEP (.str [a]) (.str [b])=some ([a]==[b]):=rfl
 rw[this]
 have e:([a]==[b])=decide (a=b):=by rw[fi];simp
 rw[e]
end
theorem good_of {L}(h:w.length<=200)(hw:Lts L w):cj8 L (.str w)=true:=by
 unfold cj8
 simp only[h,decide_true,dR,aX,decide_eq_true_eq]
 exact hw
noncomputable def jc (N:Int):O:=.J [.int N]
theorem bi3 {s:Sto}(h:∃ N,s[r]?=some (jc N)):r<s.length:=by obtain⟨b,hb⟩:=h;exact(ac.mp hb).1
theorem as6 {s:Sto}(h:r<s.length):∃ y,(s.set r (jc b))[r]?=some (jc y):=⟨b,bl1 h⟩
theorem jz [Has P af5] n {s}{r}(hs:∃ N,s[r]?=some (jc N)) y (h0:0<y)(h:y<=10^90) :
  ∃(k:Nat) (N:Int),(k:Int)<y/\(aa1 P (n+1)).call "_law_draw" [.ref r,.int y] s=.ok (.int k) (s.set r (jc N)):=by
 obtain⟨N,hN⟩:=hs
 have Y:(aa1 P (n+1)).call "_law_draw" [.ref r,.int y] s=_:=zd af5 rfl
 have G:y<10^200:=by
  have:(10)^90<10^200:=by decide +kernel
  lia
 have Z:=kI N (show y≠0 by lia)
 have h2:=jY N h0
 refine⟨(N % y).toNat,N / y,by lia,?_⟩
 rw[Y]
 have J:s[r]?=some (.J [.int N]):=hN
 simp [af5,ixM,J,ixn,jQ h0,ay4 h0 G,setIx]
 rw[show max (N % y) 0=N % y by lia]
 exact aV9 (λ _=>rfl) (by nofun) rfl
def cw7 (s:Sto)(x:R D):Prop:=∃ N,x=.ok (.ref s.length) (s++[jc N])
theorem bX3 [Has P ai8] n (ns:List Int)(k:Nat){s:Sto}{r:Nat}(hs:s[r]?=some (.ro (ns.map D.int))) :
  ∃ N:Int,(aa1 P (n+1)).call "_law_box" [.ref r,.int k] s=.ok (.ref s.length) (s++[jc N]):=by
 have e0:(aa1 P (n+1)).call "_law_box" [.ref r,.int k] s=_:=zd ai8 (n:=n) rfl
 have hlen:bi .len [.ref r] s=.ok (.int ns.length) s:=by rw[bC2 hs,aD]
 have m1:∀ a:Int,mulOk 7919 a=true:=λ a=>ao9 (by decide)
 have m2:∀ a:Int,mulOk a 48271=true:=λ a=>aL7 (by decide)
 have Z:∀ a:Int,mulOk 104729 a=true:=λ a=>ao9 (by decide)
 have m4:∀ a:Int,mulOk a 2147483647=true:=λ a=>aL7 (by decide)
 have m5:∀ a:Int,mulOk 31 a=true:=λ a=>ao9 (by decide)
 have Y:∀ a:Int,mulOk (a % 2147483647) (a % 2147483647)=true:=λ a=>ao9 (by
  have h1:=kI a (show(2147483647:Int)≠0 by decide)
  have h2:=jY a (show(0:Int)<2147483647 by decide)
  lia)
 have J:∀ N:Int,zJ s (.ref s.length) (s++[.J [.int N]])=.ok (.ref s.length) (s++[jc N]):=λ N=>by
  have:=as9 (s:=s) (t:=[]) (u:=[]) (o:=jc N) rfl
  simp only[cV,lC,dT]at this
  exact this
 have h:∀ c:Int,cw7 s ((exs (aa1 P n) (.cons (.ite (.Z .ge (.X 2) (.G .pow (.K (.int 10)) (.K (.int 18)))) (.cons (.ret (.J (.cons (.X 2) .nil))) .nil) .nil) (.cons (.A (.Y 3) (.K (.int 0))) (.cons (.fo (.Y 4) (.rg (.K (.int 128))) (.cons (.A (.Y 5) (.G .mod (.G .mul (.G .add (.G .add (.G .add (.G .mod (.X 2) (.K (.int 2147483647))) (.G .mul (.K (.int 7919)) (.X 1))) (.G .mul (.K (.int 104729)) (.X 4))) (.K (.int 97))) (.K (.int 48271))) (.K (.int 2147483647)))) (.cons (.A (.Y 3) (.G .add (.G .mul (.X 3) (.K (.int 2147483647))) (.G .mod (.G .add (.G .add (.G .mul (.X 5) (.X 5)) (.G .mul (.K (.int 31)) (.X 4))) (.G .fdiv (.X 2) (.K (.int 2147483647)))) (.K (.int 2147483647))))) .nil))) (.cons (.ret (.J (.cons (.X 3) .nil))) .nil))))
   [some (.ref r),some (.int k),some (.int c),none,none,none] s).bind (fin s)):=by
  intro c
  by_cases hc:(10:Int)^18<=c
  .have G:(1000000000000000000:Int)<=c:=hc
   exact⟨c,by simp -implicitDefEqProofs [aA3,G,J]⟩
  .have G:¬(1000000000000000000:Int)<=c:=hc
   simp [aA3,G]
   rw[zQ (by decide) (by decide)]
   simp only[R.bind_ok]
   refine jd (Ww:=cw7 s) (λ j U t=>t=s/\∃(N:Int) (x y:Option D),U=[some (.ref r),some (.int k),some (.int c),some (.int N),x,y]) ⟨rfl,0,_,_,rfl⟩ (λ _ _ _ _ _=>rfl) ?_ ?_
   .rintro j d U t hj ⟨rfl,N,x,y,rfl⟩
    obtain⟨_,rfl⟩:=aj2 hj
    conv=>arg 2;simp [turn,ag4 (m1 _),ag4 (m2 _),ag4 (Z _),ag4 (m4 _),ag4 (m5 _),ag4 (Y _),jQ,ay4]
    exact⟨rfl,_,_,_,rfl⟩
   .rintro U t ⟨rfl,N,x,y,rfl⟩
    exact⟨N,by simp [J]⟩
 rw[e0]
 by_cases hk:k<ns.length
 .have hx:ixM (.ref r) (.int k) s=.ok (.int (ns.getD k 0)) s:=cn6 hs (by simp[hk])
  obtain⟨N,e⟩:=h (if ns.getD k 0<0 then -ns.getD k 0 else ns.getD k 0)
  refine⟨N,?_⟩
  rw[<-e]
  simp [ai8,hlen,hk,hx]
 .obtain⟨N,e⟩:=h 0
  refine⟨N,?_⟩
  rw[<-e]
  simp [ai8,hlen,hk]
theorem bg6 (h:bI4 s d) w :∃ b,qj .eq d (.str w) s=.ok (.T b) s/\(b=true↔d=.str w):=by
 cases d with
 | str v=>exact⟨v==w,rfl,by
   rw[beq_iff_eq]
   constructor
   .intro h;rw[h]
   .intro h;cases h;rfl⟩
 | ref k =>
  obtain⟨l,e⟩:=h
  refine⟨false,?_,by constructor<;>intro h<;>cases h⟩
  have:eqv s DEEP (.ref k) (.str w)=some false:=by
   have y:kd s (.ref k)=4:=by
    show(match s[k]? with|some (.J _)=>4|_=>9)=4
    rw[e]
   show(if aD8 (kd s (.ref k)) (kd s (.str w))then none else some false)=_
   rw[y];rfl
  show(match eqv s DEEP (.ref k) (.str w)with|some r=>R.ok (D.T r) s|none=>R.B)=_
  rw[this]
 | fn _=>exact h.elim
 | clo _ _=>exact h.elim
 | _=>exact⟨false,rfl,by constructor<;>intro h<;>cases h⟩
theorem two {l:List D}(h:l.length=2):∃ a b,l=[a,b]:=by
 match l,h with
 | [a,b],_=>exact⟨a,b,rfl⟩
theorem jp v w s :qj .eq (.str v) (.str w) s=.ok (.T (decide (v=w))) s:=by
 obtain⟨b,e,q⟩:=bg6 (d:=.str v) trivial w
 rw[e]
 congr 2
 rw[fi,q,decide_eq_true_iff]
 constructor
 .intro h;cases h;rfl
 .intro h;rw[h]
theorem jD [Has P af5] n {s t:Sto}{r}(J:r<s.length) b y (h0:0<y)(h:y<=10^90) :
  ∃(k:Nat) (G:Int),(k:Int)<y/\(aa1 P (n+1)).call "_law_draw" [.ref r,.int y] (s.set r (jc b)++t)=.ok (.int k) (s.set r (jc G)++t):=by
 obtain⟨k,G,Y,Z⟩:=jz (P:=P) n ⟨b,jx (bl1 J)⟩ y h0 h
 refine⟨k,G,Y,?_⟩
 rw[Z,bR0 (by rw[bN];exact J),fw]
noncomputable def row (m:Nat)(f:Nat->Int):List D:=(ai m).map λ j=>.int (f j)
def gd (m:Nat)(f:Nat->Nat->Int):D:=.tp ((ai m).map λ i=>.tp (row m (f i)))
theorem al4 (h:j<m):(row m f)[j]?=some (.int (f j)):=by
 unfold row;rw[av,be h];rfl
@[simp] theorem bi8 :(row m f).length=m:=by unfold row;simp
theorem bN7 n :D.bndL n (row m f)=true:=zR (λ d hd n=>by
 obtain⟨j,_,rfl⟩:=az.mp hd;rfl) n
theorem bk0 (h:∀ j,j<m->f j=g j):row m f=row m g:=by
 unfold row;exact bZ λ j hj=>by rw[h j (bq.mp hj)]
theorem jC n :(gd m f).bnd n=true:=by
 unfold gd D.bnd
 exact zR (λ d hd n=>by
  obtain⟨j,_,rfl⟩:=az.mp hd
  unfold D.bnd;exact bN7 n) n
theorem at7 (h:i<m) s :ixM (gd m f) (.int (i)) s=.ok (.tp (row m (f i))) s :=
 ix_tup (by rw[av,be h];rfl)
theorem jj (h:j<m) s :ixM (.tp (row m f)) (.int (j)) s=.ok (.int (f j)) s:=ix_tup (al4 h)
theorem cd7 s :av4 (gd m f) s=.ok ⟨(ai m).map λ i=>.tp (row m (f i)),[]⟩ s:=rfl
theorem ar8 s :av4 (.tp l) s=.ok ⟨l,[]⟩ s:=rfl
theorem bw9 (h:∀ i j,i<m->j<m->f i j=g i j):gd m f=gd m g:=by
 unfold gd
 congr 1
 exact bZ λ i y=>by rw[bk0 λ j hj=>h i j (bq.mp y) hj]
theorem aB9 (P:Env->Sto->Prop) f l U s (h:P U s)
  (o:∀ U s,P U s->ok s=true) (st:∀ d∈l,∀ U s,P U s->∃ U' s',g d U s=.ok (some (f d),U') s'/\P U' s'):∃ U' s',qX ok g l U s=.ok (l.map f) s'/\P U' s':=by
 obtain⟨U',s',e,p⟩:=ak4 P (λ d=>some (f d)) l U s h o st
 refine⟨U',s',?_,p⟩
 rw[e];congr 1;induction l<;>simp_all
theorem jo (P:Env->Sto->Prop) f (n:Nat) U s (h:P U s)
  (o:∀ U s,P U s->ok s=true) (st:∀ j,j<n->∀ U s,P U s->∃ U' s',g (.int (j:Int)) U s=.ok (some (f j),U') s'/\P U' s'):∃ U' s',qX ok g (jU 0 (n)) U s=.ok ((ai n).map f) s'/\P U' s':=by
 obtain⟨U',s',e,p⟩:=aB9 (g:=g) P (λ d=>match d with|.int i=>f i.toNat|d=>d) (jU 0 (n)) U s h o λ d hd U s y=>by
  obtain⟨j,hj⟩:=eU hd
  obtain⟨G,rfl⟩:=aj2 hj
  obtain⟨U',s',e,p⟩:=st j (by lia) U s y
  refine⟨U',s',?_,p⟩
  rw[gT,e];rfl
 refine⟨U',s',?_,p⟩
 rw[e]
 congr 1
 unfold jU
 rw[dh,show((n:Int) - 0).toNat=n by lia]
 exact bZ λ j _=>by
  show f ((0)+(j:Int)).toNat=f j
  congr 1;omega
theorem zP (n:Nat):(jU 0 (n)).length=n:=by simp[jU]
theorem qP {n :Nat}(h:(jU 0 (n:Int))[j]?=some d):j<n/\d=.int (j):=by
 obtain⟨y,rfl⟩:=aj2 h
 exact⟨by omega,by rw[gT]⟩
theorem bq4 :(row m f).map (λ _=>D.int i)=row m λ _=>i:=by
 unfold row;rw[dh];rfl
theorem aN8 { t:Sto}(h:l.length<LIM):meth .append (.ref s.length) [v] (s++.J l::t)=.ok .N (s++.J (l++[v])::t):=by
 rw[qM (by rw[am (ak _)];simp) h,bH _ _ (ak _)]
 simp
theorem aA4 {s t:Sto}{o:O}:(s++x::(t++[o]))[s.length+(t.length+1)]?=some o:=by
 rw[show(s++x::(t++[o]))=(s++x::t)++[o]by simp,am (by simp)]
 simp
noncomputable def prN (f g:Nat->Nat->Int)(i j:Nat):Nat->Int
 | 0=>3
 | k+1=>if f i k<3 then(let b:=(if g k j > f i k then g k j else f i k);if b<prN f g i j k then b else prN f g i j k)else prN f g i j k
def pr (m:Nat)(f g:Nat->Nat->Int)(i j:Nat):Int:=prN f g i j m
theorem av2 [Has P ab2] n {m}(hR:m<=5) f g s :
  (aa1 P (n+1)).call "_law_product" [gd m f,gd m g] s=.ok (gd m (pr m f g)) s:=by
 have Z:(aa1 P (n+1)).call "_law_product" [gd m f,gd m g] s=_:=zd ab2 rfl
 rw[Z]
 conv=>lhs;simp only[ab2]
 simp []
 refine jF (λ i U t=>∃ T x y z ,U=[some (gd m f),some (gd m g),some (.ref s.length),x,y,z]/\t=s++.J ((ai i).map λ i=>.tp (row m (pr m f g i)))::T) ⟨[],none,none,none,rfl,rfl⟩ (λ _ _ _ _ _=>rfl) ?_ ?_
 .rintro i d U t hi ⟨T,x,y,z,rfl,rfl⟩
  have J:=by have:=(ac.mp hi).1;simpa using this
  have hd:=by rw[av,be J]at hi;exact(aw hi).symm
  subst hd
  conv=>arg 2;simp -implicitDefEqProofs [turn,ar8]
  rw[if_pos (by unfold LIM;lia)]
  obtain⟨U1,s1,e1,Y⟩:=aB9 (ok:=λ s1=>chk (s++.J ((ai i).map λ i=>.tp (row m (pr m f g i)))::T) s1 []) (g:=qC (aa1 P n) (.Y 0) (.K (.int 3))) (λ U u=>u=s++.J ((ai i).map λ i=>.tp (row m (pr m f g i)))::T/\∃ x,U=[x]) (λ _=>.int 3) (row m (f i)) (zX [some (gd m f),some (gd m g),some (.ref s.length),some (.tp (row m (f i))),y,z] [none]) _ ⟨rfl,none,rfl⟩ (λ _ _ _=>rfl) (by
   rintro d _ U u ⟨rfl,x,rfl⟩
   exact⟨_,_,rfl,rfl,_,rfl⟩)
  obtain⟨rfl,_⟩:=Y
  rw[bq4]at e1
  rw[e1]
  simp -implicitDefEqProofs [mk]
  rw[zQ (by unfold Ww62;lia) (by unfold Ww62;lia)]
  simp only[R.bind_ok]
  refine jd (λ k U t=>∃(T:Sto) (p:Nat) (z:Option D),U=[some (gd m f),some (gd m g),some (.ref s.length),some (.tp (row m (f i))),some (.ref p),z]/\t=s++.J ((ai i).map λ i=>.tp (row m (pr m f g i)))::T/\t[p]?=some (.J (row m λ j=>prN f g i j k))) ⟨T++[.J (row m λ _=>3)],s.length+(T.length+1),z,rfl,rfl,aA4⟩ (λ _ _ _ _ _=>rfl) ?_ ?_
  .rintro k d U t hk ⟨T,p,z,rfl,rfl,G⟩
   obtain⟨h,rfl⟩:=qP hk
   by_cases h3:f i k<3
   .conv=>arg 2;simp -implicitDefEqProofs [turn,jj h,h3]
    rw[zQ (by unfold Ww62;lia) (by unfold Ww62;lia)]
    simp only[R.bind_ok]
    rw[if_pos (by rw[zP];unfold LIM;lia)]
    obtain⟨U1,s1,e1,Y⟩:=jo (ok:=λ s1=>chk (s++.J ((ai i).map λ i=>.tp (row m (pr m f g i)))::T) s1 []) (g:=qC (aa1 P n) (.Y 0) (.bi .min2 (.cons (.ix (.X 1) (.X 0)) (.cons (.bi .max2 (.cons (.ix (.X 2) (.X 3)) (.cons (.ix (.ix (.X 4) (.X 3)) (.X 0)) .nil))) .nil)))) (λ U u=>u=s++.J ((ai i).map λ i=>.tp (row m (pr m f g i)))::T/\∃ x,U=[x,some (.ref p),some (.tp (row m (f i))),some (.int k),some (gd m g)]) (λ j=>.int (prN f g i j (k+1))) m (zX [some (gd m f),some (gd m g),some (.ref s.length),some (.tp (row m (f i))),some (.ref p),some (.int (k:Int))] [none,some 4,some 3,some 5,some 1]) _ ⟨rfl,none,rfl⟩ (λ _ _ _=>rfl) (by
     rintro j hj U u ⟨rfl,x,rfl⟩
     refine⟨[some (.int j),some (.ref p),some (.tp (row m (f i))),some (.int k),some (gd m g)],_,?_,rfl,_,rfl⟩
     simp -implicitDefEqProofs [qC,jj h,at7 h,jj hj,qk G (al4 hj),prN,h3])
    obtain⟨rfl,_⟩:=Y
    rw[e1]
    simp -implicitDefEqProofs [mk]
    rfl
   .refine aD6 (U:=[some (gd m f),some (gd m g),some (.ref s.length),some (.tp (row m (f i))),some (.ref p),some (.int k)]) ?_ ⟨T,p,_,rfl,rfl,?_⟩
    .simp -implicitDefEqProofs [turn,jj h,h3]
    .rw[G];simp[prN,h3]
  .rintro U t ⟨T,p,z,rfl,rfl,G⟩
   rw[zP]at G
   simp -implicitDefEqProofs [aZ4,G,mk]
   rw[aN8 (by unfold LIM;simp;lia)]
   simp -implicitDefEqProofs
   rw[cJ,cg];rfl
 .rintro U t ⟨T,x,y,z,rfl,rfl⟩
  have h0:(s++.J ((ai m).map λ i=>D.tp (row m (pr m f g i)))::T:Sto)[s.length]?=some (.J ((ai m).map λ i=>D.tp (row m (pr m f g i)))):=by rw[am (ak _)];simp
  simp -implicitDefEqProofs [aZ4,h0,mk]
  exact zW (d:=gd m (pr m f g)) jC (by nofun)
theorem bF9 (h:0<=b):jv .shr (.int a) (.int b) s=.ok (.int (a / 2^b.toNat)) s:=by
 show(if 0<=b then _ else _:M D) s=_
 rw[if_pos h];rfl
theorem bl3 { c h:Nat}(J:c<=5)(G:zX U [none,some 10]=[none,some (.int h)]) :
  qX (λ y=>chk s y []) (aG3 (aa1 P n) (.Y 0) (.Z .eq (.G .mod (.G .shr (.X 1) (.X 0)) (.K (.int 2))) (.K (.int 1))) (.X 0)) (jU 0 (c)) (zX U [none,some 10]) s=.ok (qN (aj3 h c)) s:=by
 have key:∃ U' s' ,qX (λ y=>chk s y []) (aG3 (aa1 P n) (.Y 0) (.Z .eq (.G .mod (.G .shr (.X 1) (.X 0)) (.K (.int 2))) (.K (.int 1))) (.X 0)) (jU 0 (c)) (zX U [none,some 10]) s=.ok ((jU 0 (c)).filterMap (bl7 h)) s'/\(s'=s/\∃ x,U'=[x,some (D.int h)]):=by
  refine ak4 (λ U u=>u=s/\∃ x,U=[x,some (.int h)]) (bl7 h) (jU 0 (c)) _ _ ⟨rfl,none,G⟩ (λ _ _ _=>rfl) ?_
  rintro d hd U u ⟨rfl,x,rfl⟩
  obtain⟨j,hj⟩:=eU hd
  obtain⟨Y,rfl⟩:=aj2 hj
  refine⟨[some (.int (0+j)),some (.int h)],_,?_,rfl,_,rfl⟩
  unfold aG3
  simp only[zb,zy,zO,qI,ze,zB,zC,zg,zh,R.bind_ok]
  rw[bF9 (by lia)]
  simp only[R.bind_ok]
  rw[jQ (by decide)]
  simp only[R.bind_ok,zH]
  simp[bl7]
  split<;>rfl
 obtain⟨_,_,e,rfl,_⟩:=key
 rw[e,bu0]
theorem bH6 {s:Sto}{o:O}(h:l.length<LIM):meth .append (.ref (s.length+1)) [v] (s.set r (jc b)++[o,.J l])=.ok .N (s.set r (jc b)++[o,.J (l++[v])]):=by
 rw[qM (l:=l) (by rw[am (by simp)];simp) h,bH _ _ (by simp)]
 simp
theorem cy7 {k:Nat}(h:k<=5):(0:Int)<1*2^((k:Int)).toNat/\(1:Int)*2^((k:Int)).toNat<=32:=by
 have J:(2)^k<=2^5:=eW (by decide) h
 have h3:((2^k):Int)<=32:=by exact_mod_cast J
 have G:0<(2)^k:=Nat.pow_pos (by decide)
 have y:(0)<((2^k):Int):=by exact_mod_cast G
 rw[dz,fZ]
 push_cast at h3 y
 exact⟨y,h3⟩
def McB (s:Sto)(r:Nat)(x:R D):Prop:=∃(m:Mc) (b:Int),m.Ok/\x=.ok m.d (s.set r (jc b))
theorem aO0 [Has P af5][Has P ad4] n {s}{r}(hs:∃ b,s[r]?=some (jc b)):McB s r ((aa1 P (n+2)).call "_law_machine" [.ref r] s):=by
 have e0:(aa1 P (n+2)).call "_law_machine" [.ref r] s=_:=zd ad4 rfl
 have J:=bi3 hs
 obtain⟨a,b1,ha,e1⟩:=jz (P:=P) n hs 3 (by decide) (by decide)
 obtain⟨c,b2,hc,e2⟩:=jz (P:=P) n (as6 (b:=b1) J) 5 (by decide) (by decide)
 rw[fw]at e2
 obtain⟨m1,b3,b0,e3⟩:=jz (P:=P) n (as6 (b:=b2) J) (3*(1+(c))+2) (by lia) (je (by lia))
 rw[fw]at e3
 obtain⟨m2,b4,a6,e4⟩:=jz (P:=P) n (as6 (b:=b3) J) 8 (by decide) (by decide)
 rw[fw]at e4
 obtain⟨m3,b5,a7,e5⟩:=jz (P:=P) n (as6 J) 76 (by decide) (by decide)
 rw[fw]at e5
 rw[e0]
 have mo:∀ x:Int,mulOk 3 x=true:=λ x=>ao9 (by decide)
 simp [ad4,e1,e2,ag4 (mo _),e3,e4]
 obtain⟨G,bb,hmany,hif⟩:∃(G:Nat) (bb:Int),G<=75/\(if(m2:Int)=5 then
   ((aa1 P (n+1)).call "_law_draw" [D.ref r,D.int 76] (List.set s r (jc b4))).bind λ d s =>
    R.ok
     (Ct.next [some (D.ref r),some (D.int (1+↑a)),some (D.int (1+↑c)),some d,none,none,none,none,none,none,none,none,none]) s
   else
    R.ok
     (Ct.next
      [some (D.ref r),some (D.int (1+↑a)),some (D.int (1+↑c)),some (D.int ↑m1),none,none,none,none,none,none,none,none,none])
     (List.set s r (jc b4)))=.ok (.next [some (.ref r),some (.int (1+a)),some (.int (1+c)),some (.int G),none,none,none,none,none,none,none,none,none]) (s.set r (jc bb)):=by
  by_cases h7:(m2:Int)=5
  .exact⟨m3,b5,by lia,by rw[if_pos h7,e5];rfl⟩
  .exact⟨m1,b4,by lia,by rw[if_neg h7]⟩
 rw[hif]
 simp -implicitDefEqProofs
 obtain⟨h4,b6,a5,e6⟩:=jD (P:=P) n J bb 4 (by decide) (by decide)
 rw[e6]
 have hx:∃ Y:Nat,1<=Y/\Y<=4/\ixM (.ref s.length) (.int h4) (s.set r (jc b6)++[.J [.int 2,.int 2,.int 4,.int 1]])=.ok (.int Y) (s.set r (jc b6)++[.J [.int 2,.int 2,.int 4,.int 1]]):=by
  have hg:(s.set r (jc b6)++[O.J [.int 2,.int 2,.int 4,.int 1]])[s.length]?=some (.J [.int 2,.int 2,.int 4,.int 1]):=by rw[am (by simp)];simp
  match h4,a5 with
  | 0,_=>exact⟨2,by decide,by decide,qk hg rfl⟩
  | 1,_=>exact⟨2,by decide,by decide,qk hg rfl⟩
  | 2,_=>exact⟨4,by decide,by decide,qk hg rfl⟩
  | 3,_=>exact⟨1,by decide,by decide,qk hg rfl⟩
  | k+4,h=>omega
 obtain⟨Y,c0,a9,hx⟩:=hx
 simp -implicitDefEqProofs [hx]
 rw[zQ (by unfold Ww62;lia) (by unfold Ww62;lia)]
 simp -implicitDefEqProofs only[R.bind_ok]
 have a4:((1:Int)+(c:Int))=((c+1:Nat):Int):=by lia
 have a3:((1:Int)+(a:Int))=((a+1:Nat):Int):=by lia
 rw[a4,a3]
 generalize hH:O.J [D.int 2,D.int 2,D.int 4,D.int 1]=H
 have d1:=λ b=>aq3 s [H] r (jc b) rfl
 refine jd (λ j U u=>∃ b l x y z v ,(∀ d∈l,d.Ok ⟨a+1,c+1,[],[],[]⟩)/\l.length=j/\U=[some (.ref r),some (.int (a+1:Nat)),some (.int (c+1:Nat)),some (.int G),some (.int Y),some (.ref (s.length+1)),x,y,z,v,none,none,none]/\u=s.set r (jc b)++[H,.J (l.map Dr.d)]) ⟨b6,[],none,none,none,none,by simp,rfl,rfl,rfl⟩ (λ _ _ _ _ _=>rfl) ?_ ?_
 .rintro j d U u hj ⟨b,l,x,y,z,v,hl,hlen,rfl,rfl⟩
  obtain⟨a8,rfl⟩:=aj2 hj
  obtain⟨k1,c1,a0,f1⟩:=jD (P:=P) n (t:=[H,.J (l.map Dr.d)]) J b (c+1:Nat) (by lia) (je (by lia))
  obtain⟨k3,c2,d2,f2⟩:=jD (P:=P) n (t:=[H,.J (l.map Dr.d)]) J c1 (c+1:Nat) (by lia) (je (by lia))
  obtain⟨k2,c3,hk2,f3⟩:=jD (P:=P) n (t:=[H,.J (l.map Dr.d)]) J c2 (a+1:Nat) (by lia) (je (by lia))
  obtain⟨k4,c4,d0,f4⟩:=jD (P:=P) n (t:=[H,.J (l.map Dr.d)]) J c3 Y (by lia) (je (by lia))
  refine aD6 (U:=[some (.ref r),some (.int (a+1:Nat)),some (.int (c+1:Nat)),some (.int G),some (.int Y),some (.ref (s.length+1)),some (.int j),some (.int k1),some (.int k3),some (.str [97+k2]),none,none,none]) (s:=s.set r (jc c4)++[H,.J ((l++[(⟨k1,97+k2,k3,k4⟩:Dr)]).map Dr.d)]) ?_ ⟨c4,l++[(⟨k1,97+k2,k3,k4⟩:Dr)],_,_,_,_,?_,?_,rfl,rfl⟩
  .simp -implicitDefEqProofs only[turn,gT,zb,zG,zy,aJ,za,zl,qd,ex_ex,qb,ze,qz,zB,qg,ev_tup,zr,zu,zN,zE,zg,zh,R.bind_ok,jk,f1,f2,f3,f4,bC0 (show k2<3 by lia),zv,zn]
   rw[bH6 (by unfold LIM;simp;lia)]
   simp -implicitDefEqProofs
   rfl
  .intro d hd
   rcases bM.mp hd with h|h
   .exact hl d h
   .rw[bv.mp h];constructor<;>simp only<;>lia
  .simp[hlen]
 .rintro U u ⟨b,l,x,y,z,v,hl,hlen,rfl,rfl⟩
  have p5:=cy7 (k:=c+1) (by lia)
  obtain⟨k1,c1,a0,f1⟩:=jD (P:=P) n (t:=[H,.J (l.map Dr.d)]) J b _ p5.1 (je (by lia))
  obtain⟨k2,c2,hk2,f2⟩:=jD (P:=P) n (t:=[H,.J (l.map Dr.d)]) J c1 _ p5.1 (je (by lia))
  have a1:(s.set r (jc c2)++[H,O.J (l.map Dr.d)])[s.length+1]?=some (.J (l.map Dr.d)):=by rw[am (by simp)];simp
  have a2:l.length<=75:=by
   rw[hlen];simp[jU];omega
  have Z:(jU 0 ((c+1:Nat):Int)).length<=LIM:=by rw[zP];unfold LIM;lia
  simp -implicitDefEqProofs only[zn,za,zl,qd,qb,zN,zE,ze,qI,zB,zC,zg,zh,R.bind_ok,bq0 ⟨show(0:Int)<=((c+1:Nat):Int)by lia,by lia⟩,f1,zb,zG,zy,aJ,zv,ev_mk,jI,qv]
  rw[zQ (by unfold Ww62;lia) (by unfold Ww62;lia)]
  simp -implicitDefEqProofs only[R.bind_ok,if_pos Z]
  rw[bl3 (by lia) rfl]
  simp -implicitDefEqProofs only[R.bind_ok,mk,f2,zv,zn,zb,zG,zy,aJ,za,qb,zN,zE,ze,qI,zB,zC,zg,zh,qd,bq0 ⟨show(0:Int)<=((c+1:Nat):Int)by omega,by omega⟩,ev_mk,jI,qv]
  rw[zQ (by unfold Ww62;omega) (by unfold Ww62;omega)]
  simp -implicitDefEqProofs only[R.bind_ok,if_pos Z]
  rw[bl3 (by omega) rfl]
  simp -implicitDefEqProofs only[R.bind_ok,mk,zv,zn,zV,zb,zG,zy,aJ,za,zl,qD,ev_tup,zr,zu,ze,zg,zh,ev_mk,evL_seq,aZ4,a1,zU]
  refine⟨⟨a+1,c+1,aj3 k1 (c+1),aj3 k2 (c+1),l⟩,c2,⟨by simp,by simp;lia,by simp,by simp;lia,aI6 _ _,aI6 _ _,λ x hx=>?_,a2⟩,?_⟩
  .have:=hl x hx
   exact⟨this.a,this.l,this.b,this.t⟩
  .exact aC6 (bW0 ⟨a+1,c+1,aj3 k1 (c+1),aj3 k2 (c+1),l⟩) (by nofun) rfl
def aj6 (m:Nat)(f:Nat->Nat->Int):Sto:=(ai m).map λ i=>.J (row m (f i))
@[simp] theorem bq2 :(aj6 m f).length=m:=by unfold aj6;simp
theorem aj7 (h:i<m):(aj6 m f)[i]?=some (.J (row m (f i))):=by
 unfold aj6;rw[av,be h];rfl
theorem bI6 :(row m f).set b (.int v)=row m λ j=>if j=b then v else f j:=by
 apply f6
 intro j
 by_cases hj:j<m
 .rw[al4 hj]
  by_cases e:j=b
  .subst e;rw[aZ (by rw[bi8];exact hj),if_pos rfl]
  .rw[br (λ z=>e z.symm),al4 hj,if_neg e]
 .rw[bG (by simp;lia),bG (by simp;omega)]
theorem bf7 :(aj6 m f).set a (.J ((row m (f a)).set b (.int v)))=aj6 m λ i j=>if i=a/\j=b then v else f i j:=by
 apply f6
 intro i
 by_cases hi:i<m
 .rw[aj7 hi]
  by_cases e:i=a
  .subst e;rw[aZ (by rw[bq2];exact hi),bI6]
   simp
  .rw[br (λ z=>e z.symm),aj7 hi]
   simp[e]
 .rw[bG (by simp;omega),bG (by simp;omega)]
noncomputable def aM5 (p m:Nat):List D:=(ai m).map λ i=>.ref (p+i)
theorem bv7 (h:i<m):(aM5 p m)[i]?=some (.ref (p+i)):=by
 unfold aM5;rw[av,be h];rfl
theorem bm6 (P:Nat->Env->Sto->Prop) f n 
  (o:∀ k U s,P k U s->ok s=true) (st:∀ j,j<n->∀ U s,P j U s->∃ U' s',g (.int (j:Int)) U s=.ok (some (f j),U') s'/\P (j+1) U' s') :
  ∀ k U s ,k<=n->P k U s->∃ U' s',qX ok g (jU (k) (n)) U s=.ok ((List.range' k (n - k)).map f) s'/\P n U' s':=by
 intro k
 induction h:n - k generalizing k with
 | zero =>
  intro U s hk y
  have e:k=n:=by lia
  subst e
  refine⟨U,s,?_,y⟩
  rw[show jU (k) (k)=[]by simp[jU]]
  unfold qX
  rw[if_pos (o _ _ _ y)];rfl
 | succ d ih =>
  intro U s hk y
  obtain⟨U1,s1,e1,G⟩:=st k (by omega) U s y
  obtain⟨U2,s2,e2,J⟩:=ih (k+1) (by omega) U1 s1 (by lia) G
  refine⟨U2,s2,?_,J⟩
  rw[bc8 (by omega),List.range'_succ,aM]
  unfold qX
  rw[if_pos (o _ _ _ y),e1]
  simp only[R.bind_ok]
  rw[show((k)+1)=((k+1:Nat):Int)by lia,e2]
  rfl
noncomputable def sgF (ds:List Dr)(c i j:Nat):Nat->Int
 | 0=>3
 | k+1=>match ds[k]? with
  | some x=>if x.l=c/\i=x.a/\j=x.b then(if(if 0<x.t then(1)else 0)<sgF ds c i j k then(if 0<x.t then(1)else 0)else sgF ds c i j k)else sgF ds c i j k
  | none=>sgF ds c i j k
theorem bE7 h c i j :∀ k,0<=sgF h c i j k/\sgF h c i j k<=3
 | 0=>by unfold sgF;decide
 | k+1=>by
  have:=bE7 h c i j k
  unfold sgF
  split
  .repeat' split
   all_goals omega
  .exact this
def sgM (m:Mc)(c i j:Nat):Int:=sgF m.ds c i j m.ds.length
theorem ci5 :bi .int [.T b] s=.ok (.int (if b then 1 else 0)) s:=rfl
theorem ap0 [Has P aa9] n {m}(hm:m.Ok) c s :
  (aa1 P (n+1)).call "_law_letter_signs" [m.d,.str [c]] s=.ok (gd m.R (sgM m c)) s:=by
 have e0:(aa1 P (n+1)).call "_law_letter_signs" [m.d,.str [c]] s=_:=zd aa9 rfl
 have hR:=hm.R5
 rw[e0]
 simp -implicitDefEqProofs [aa9,ixR]
 rw[zQ (by unfold Ww62;lia) (by unfold Ww62;lia)]
 simp only[R.bind_ok]
 rw[if_pos (by rw[zP];unfold LIM;lia)]
 obtain⟨U1,s1,e1,Y⟩:=bm6 (ok:=λ s1=>chk s s1 []) (g:=qC (aa1 P n) (.Y 0) (.mk .list (.comp (.Y 0) (.rg (.X 1)) (.K (.int 3)) [none]))) (λ k U u=>u=s++(ai k).map (λ _=>O.J (row m.R λ _=>3))/\∃ x,U=[x,some (.int m.R)]) (λ i=>.ref (s.length+i)) m.R (λ _ _ _ _=>rfl) (by
  rintro j hj U u ⟨rfl,x,rfl⟩
  refine⟨[some (.int j),some (.int m.R)],_,?_,rfl,_,rfl⟩
  simp -implicitDefEqProofs [qC]
  rw[zQ (by unfold Ww62;lia) (by unfold Ww62;lia)]
  simp only[R.bind_ok]
  rw[if_pos (by rw[zP];unfold LIM;lia)]
  obtain⟨U1,s1,e1,Y⟩:=jo (ok:=λ s1=>chk (s++(ai j).map (λ _=>O.J (row m.R λ _=>3))) s1 []) (g:=qC (aa1 P n) (.Y 0) (.K (.int 3))) (λ U u=>u=s++(ai j).map (λ _=>O.J (row m.R λ _=>3))/\∃ x,U=[x]) (λ _=>.int 3) m.R (zX [some (.int (j)),some (.int m.R)] [none]) _ ⟨rfl,none,rfl⟩ (λ _ _ _=>rfl) (by
   rintro i _ U u ⟨rfl,x,rfl⟩
   exact⟨_,_,rfl,rfl,_,rfl⟩)
  obtain⟨rfl,_⟩:=Y
  rw[e1]
  simp -implicitDefEqProofs [mk,cJ]
  rfl) 0 (zX [some m.d,some (.str [c]),some (.int m.R),none,none,none,none,none] [none,some 2]) s (c8 _) ⟨by simp,none,rfl⟩
 obtain⟨rfl,_⟩:=Y
 rw[show((0:Nat):Int)=0 from rfl]at e1
 rw[e1]
 have el:(ai m.R).map (λ _=>O.J (row m.R λ _=>3))=aj6 m.R (λ i j=>sgF m.ds c i j 0):=rfl
 rw[el,Nat.sub_zero,<-List.range_eq_range']
 simp -implicitDefEqProofs [mk,ar8]
 refine jF (λ k U t=>∃ x y z w ,U=[some m.d,some (.str [c]),some (.int m.R),some (.ref (s.length+m.R)),x,y,z,w]/\t=s++(aj6 m.R (λ i j=>sgF m.ds c i j k)++[.J (aM5 s.length m.R)])) ⟨none,none,none,none,rfl,rfl⟩ (λ _ _ _ _ _=>rfl) ?_ ?_
 .rintro k d U t hk ⟨x,y,z,w,rfl,rfl⟩
  rw[av]at hk
  obtain⟨v,hv,rfl⟩:∃ v,m.ds[k]?=some v/\Dr.d v=d:=by
   cases e:m.ds[k]? with
   | none=>rw[e]at hk;cases hk
   | some v=>rw[e]at hk;exact⟨v,rfl,aw hk⟩
  have G:=hm.ds.1 v (aL hv)
  have ha:=G.a
  have hb:=G.b
  refine aD6 (U:=[some m.d,some (.str [c]),some (.int m.R),some (.ref (s.length+m.R)),some (.int v.a),some (.str [v.l]),some (.int v.b),some (.int v.t)]) (s:=s++(aj6 m.R (λ i j=>sgF m.ds c i j (k+1))++[.J (aM5 s.length m.R)])) ?_ ⟨_,_,_,_,rfl,rfl⟩
  have e3:(s++(aj6 m.R (λ i j=>sgF m.ds c i j k)++[.J (aM5 s.length m.R)]))[s.length+m.R]?=some (.J (aM5 s.length m.R)):=by
   rw[am (by lia),cr,am (by simp)];simp
  have Z:(s++(aj6 m.R (λ i j=>sgF m.ds c i j k)++[.J (aM5 s.length m.R)]))[s.length+v.a]?=some (.J (row m.R λ j=>sgF m.ds c v.a j k)):=by
   rw[am (by lia),cr,ax (by simpa using ha),aj7 ha]
  have e5:=qk e3 (bv7 ha)
  have e6:=qk Z (al4 hb)
  by_cases hl:v.l=c
  .simp -implicitDefEqProofs only[turn,Dr.d,bindT_tup,setVs_cons,setVs_nil,zG,zy,aJ,gC,za,zl,qe,zO,ze,zg,zh,R.bind_ok,bi4,hl,decide_true,zH,if_true,ex_setIx,ev_bi,zr,zu,qz,e5,e6,zB,zC,gt_int,ci5,ao3]
   rw[bL3 Z (by rw[bi8];exact hb)]
   simp -implicitDefEqProofs only[R.bind_ok,zn,zl]
   congr 1
   rw[bH _ _ (by lia),cr,List.set_append_left _ _ (by simpa using ha)]
   congr 2
   rw[bf7 (f:=λ i j=>sgF m.ds c i j k)]
   congr 1
   funext i j
   rw[sgF,hv]
   by_cases h2:i=v.a/\j=v.b
   .obtain⟨rfl,rfl⟩:=h2
    simp[hl]
   .simp[hl,h2]
  .simp -implicitDefEqProofs only[turn,Dr.d,bindT_tup,setVs_cons,setVs_nil,zG,zy,aJ,gC,za,zl,qe,zO,ze,zg,zh,R.bind_ok,bi4,hl,decide_false,zH,if_false,aO,zn]
   congr 3
   congr 1
   funext i j
   rw[sgF,hv]
   simp[hl]
 .rintro U t ⟨x,y,z,w,rfl,rfl⟩
  rw[aD]
  have e3:(s++(aj6 m.R (sgM m c)++[.J (aM5 s.length m.R)]))[s.length+m.R]?=some (.J (aM5 s.length m.R)):=by
   rw[am (by lia),cr,am (by simp)];simp
  show(nxt _ _ _ (s++(aj6 m.R (sgM m c)++[.J (aM5 s.length m.R)]))).bind _=_
  simp -implicitDefEqProofs [av4,e3]
  rw[if_pos (by unfold aM5 LIM;simp;omega)]
  generalize hS:s++(aj6 m.R (sgM m c)++[.J (aM5 s.length m.R)])=S
  obtain⟨U1,s1,e1,Y⟩:=aB9 (ok:=λ s1=>chk S s1 [s.length+m.R]) (g:=qC (aa1 P n) (.Y 0) (.mk .tuple (.seq (.X 0)))) (λ U u=>u=S/\∃ x,U=[x]) (λ d=>match d with|.ref p=>.tp (row m.R (sgM m c (p - s.length)))|d=>d) (aM5 s.length m.R) (zX [some m.d,some (.str [c]),some (.int m.R),some (.ref (s.length+m.R)),x,y,z,w] [none]) S ⟨rfl,none,rfl⟩ (λ _ u h=>by obtain⟨rfl,_⟩:=h;simp[chk]) (by
   rintro d hd U u ⟨rfl,x,rfl⟩
   obtain⟨i,hi,rfl⟩:=az.mp hd
   have J:=bq.mp hi
   have Z:u[s.length+i]?=some (.J (row m.R (sgM m c i))):=by
    rw[<-hS,am (by lia),cr,ax (by simpa using J),aj7 J]
   refine⟨[some (.ref (s.length+i))],u,?_,rfl,_,rfl⟩
   simp -implicitDefEqProofs [qC,aZ4,Z,mk])
  obtain⟨rfl,_⟩:=Y
  rw[e1]
  simp -implicitDefEqProofs [mk]
  rw[<-hS]
  have:(aM5 s.length m.R).map (λ d=>match d with|.ref p=>D.tp (row m.R (sgM m c (p - s.length)))|d=>d)=(ai m.R).map λ i=>.tp (row m.R (sgM m c i)):=by
   unfold aM5
   rw[dh]
   exact bZ λ i _=>by simp
  rw[this]
  exact zW (d:=gd m.R (sgM m c)) jC (by nofun)
@[simp] theorem bo4 a b :evI F (.zip (.seq a) (.seq b)) U s=(ev F a U s).bind λ x s=>(ev F b U s).bind λ y s=>(aj0 x s).bind λ p s=>(aj0 y s).bind λ q s=>.ok ⟨aC5 p.its q.its,p.src++q.src⟩ s:=rfl
theorem ix_str {j :Nat}(hj:l[j]?=some c):ixM (.str l) (.int (j)) s=.ok (.str [c]) s:=by
 have hl:=(ac.mp hj).1
 have e:=(ac.mp hj).2
 simp[ixM,ixn,hl,e]
theorem bH7 s n a b :eqv s n (.int a) (.int b)=some (a==b):=by cases n<;>rfl
noncomputable def shN (f:Nat->Nat->Int)(i j:Nat):Nat->Int
 | 0=>3
 | k+1=>let b:=max (max (f i k) (if f k k=1 then 2 else f k k)) (f k j);if b<shN f i j k then b else shN f i j k
def sh (m:Nat)(f:Nat->Nat->Int)(i j:Nat):Int:=shN f i j m
theorem az8 :bi .max3 [.int a,.int b,.int c] s=.ok (.int (max (max a b) c)) s:=rfl
theorem aS9 :bi .len [gd m f] s=.ok (.int m) s:=by
 show R.ok (D.int ((ai m).map λ i=>D.tp (row m (f i))).length) s=_
 simp
theorem ja {s:Sto}(h:l.length<LIM):meth .append (.ref s.length) [v] (s++[.J l])=.ok .N (s++[.J (l++[v])]):=aN8 h
theorem bx4 [Has P ae6] n {m}(hR:m<=5) f s :
  (aa1 P (n+1)).call "_law_sharp" [gd m f] s=.ok (gd m (sh m f)) s:=by
 have e0:(aa1 P (n+1)).call "_law_sharp" [gd m f] s=_:=zd ae6 rfl
 rw[e0]
 simp -implicitDefEqProofs [ae6,aS9]
 rw[zQ (by unfold Ww62;lia) (by unfold Ww62;lia)]
 simp only[R.bind_ok]
 refine jF (λ i U t=>∃(T:Sto) (x y z u v w:Option D),U=[some (gd m f),some (.int m),some (.ref s.length),x,y,z,u,v,w]/\t=s++.J ((ai i).map λ i=>.tp (row m (sh m f i)))::T) ⟨[],none,none,none,none,none,none,rfl,rfl⟩ (λ _ _ _ _ _=>rfl) ?_ ?_
 .rintro i d U t hi ⟨T,x,y,z,u,v,w,rfl,rfl⟩
  have qq:=qP hi
  have J:=qq.1
  have hd:=qq.2
  rw[hd]
  simp -implicitDefEqProofs only[turn,zb,zG,zy,aJ,za,qd,ev_lst,zu,R.bind_ok,js,zv,zn,ex_for,qv,ze,zg,zh,cG,aU]
  rw[zQ (by unfold Ww62;omega) (by unfold Ww62;omega)]
  simp only[R.bind_ok]
  generalize Z:(ai i).map (λ i=>D.tp (row m (sh m f i)))=X
  have a0:X.length=i:=by rw[<-Z];simp
  refine jd (λ j U t=>∃ z u v w ,U=[some (gd m f),some (.int m),some (.ref s.length),some (.int i),some (.ref (s.length+(T.length+1))),z,u,v,w]/\t=s++.J X::(T++[.J ((ai j).map λ j=>.int (sh m f i j))])) ⟨z,u,v,w,rfl,rfl⟩ (λ _ _ _ _ _=>rfl) ?_ ?_
  .rintro j d U t hj ⟨z,u,v,w,rfl,rfl⟩
   have G:=(qP hj).1
   rw[(qP hj).2]
   simp -implicitDefEqProofs only[turn,zb,zG,zy,aJ,za,qd,zB,zC,R.bind_ok,zv,zn,ex_for,qv,ze,zg,zh]
   rw[zQ (by unfold Ww62;lia) (by unfold Ww62;lia)]
   simp only[R.bind_ok]
   refine jd (Ww:=Nx _) (λ k U t=>∃(v w:Option D),U=[some (gd m f),some (.int m),some (.ref s.length),some (.int i),some (.ref (s.length+(T.length+1))),some (.int j),some (.int (shN f i j k)),v,w]/\t=s++.J X::(T++[.J ((ai j).map λ j=>.int (sh m f i j))])) ⟨v,w,rfl,rfl⟩ (λ _ _ _ _ _=>rfl) ?_ ?_
   .rintro k d U t hk ⟨v,w,rfl,rfl⟩
    have h:=(qP hk).1
    rw[(qP hk).2]
    refine aD6 (U:=[some (gd m f),some (.int m),some (.ref s.length),some (.int i),some (.ref (s.length+(T.length+1))),some (.int j),some (.int (shN f i j (k+1))),some (.int k),some (.int (if f k k=1 then 2 else f k k))]) (s:=s++.J X::(T++[.J ((ai j).map λ j=>.int (sh m f i j))])) ?_ ⟨_,_,rfl,rfl⟩
    by_cases h1:f k k=1
    .simp -implicitDefEqProofs [turn,at7 h,at7 J,jj h,jj G,h1,az8,shN]
    .simp -implicitDefEqProofs [turn,at7 h,at7 J,jj h,jj G,h1,az8,shN]
   .rintro U t ⟨v,w,rfl,rfl⟩
    rw[zP]
    have Y:(s++.J X::(T++[O.J ((ai j).map λ j=>D.int (sh m f i j))]))[s.length+(T.length+1)]?=some (.J ((ai j).map λ j=>.int (sh m f i j))):=aA4
    simp -implicitDefEqProofs only[zn,za,zl,ex_ex,qg,zr,zu,ze,zg,zh,R.bind_ok]
    rw[qM Y (by unfold LIM;simp;lia)]
    simp -implicitDefEqProofs only[R.bind_ok,zn,zl,bf5]
    refine⟨_,_,_,_,rfl,?_⟩
    rw[bH _ _ (by lia),cr,List.set_cons_succ,bH _ _ (ak _),eG,List.set_cons_zero,cJ,cg]
    rfl
  .rintro U t ⟨z,u,v,w,rfl,rfl⟩
   rw[zP]
   have Y:(s++.J X::(T++[O.J ((ai m).map λ j=>D.int (sh m f i j))]))[s.length+(T.length+1)]?=some (.J ((ai m).map λ j=>.int (sh m f i j))):=aA4
   simp -implicitDefEqProofs only[zn,za,zl,ex_ex,qg,zr,zu,ze,zg,zh,R.bind_ok,ev_mk,evL_seq,aZ4,Y,mk]
   rw[aN8 (by unfold LIM;lia)]
   simp -implicitDefEqProofs only[R.bind_ok,zn,zl,bf5]
   refine⟨T++[O.J (bn (λ j=>D.int (sh m f i j)) (ai m))],_,_,_,_,_,_,rfl,?_⟩
   rw[cJ,cg,Z]
   rfl
 .rintro U t ⟨T,x,y,z,u,v,w,rfl,rfl⟩
  rw[zP]
  have h0:(s++.J ((ai m).map λ i=>D.tp (row m (sh m f i)))::T:Sto)[s.length]?=some (.J ((ai m).map λ i=>D.tp (row m (sh m f i)))):=by rw[am (ak _)];simp
  simp -implicitDefEqProofs [aZ4,h0,mk]
  exact zW (d:=gd m (sh m f)) jC (by nofun)
theorem bo8 { m:Nat}{f g:Nat->Int}:∀ l:List Nat,eqL (eqv s n) (l.map λ j=>.int (f j)) (l.map λ j=>.int (g j))=some (l.all λ j=>f j==g j)
 | []=>rfl
 | a::l=>by
  rw[aM,aM]
  unfold eqL
  rw[bH7,bo8 (m:=m) l]
  simp
theorem bC8 {f g:Nat->Nat->Int}:∀ l:List Nat,eqL (eqv s (n+1)) (l.map λ i=>.tp (row m (f i))) (l.map λ i=>.tp (row m (g i)))=some (l.all λ i=>(ai m).all λ j=>f i j==g i j)
 | []=>rfl
 | a::l=>by
  rw[aM,aM]
  unfold eqL
  rw[show eqv s (n+1) (.tp (row m (f a))) (.tp (row m (g a)))=eqL (eqv s n) (row m (f a)) (row m (g a))from rfl,row,row,bo8 (m:=m),bC8 l]
  simp
def EqG (m:Nat)(f g:Nat->Nat->Int):Prop:=∀ i j,i<m->j<m->f i j=g i j
theorem cc0 :∃ b,eqv s DEEP (gd m f) (gd m g)=some b/\(b=true↔EqG m f g):=by
 refine⟨_,bC8 (ai m),?_⟩
 simp[aX]
 exact⟨λ h i j y hj=>h i y j hj,λ h i y j hj=>h i j y hj⟩
theorem bZ5 :∃ b,qj .eq (gd m f) (gd m g) s=.ok (.T b) s/\(b=true↔EqG m f g):=by
 obtain⟨b,e,h⟩:=cc0 
 exact⟨b,by show(match eqv s DEEP (gd m f) (gd m g)with|some r=>R.ok (D.T r) s|none=>.B)=_;rw[e],h⟩
inductive Stp where
 | let_ (c:Nat)|pair (i j:Nat)|sharp (i:Nat)
noncomputable def bU5:List Nat:=[108,101,116,116,101,114]
noncomputable def aF9:List Nat:=[112,97,105,114]
noncomputable def bE9:List Nat:=[115,104,97,114,112]
noncomputable def av6:List Nat:=[116,105,109,101,115]
noncomputable def Stp.d:Stp->D
 | .let_ c=>.tp [.str [108,101,116,116,101,114],.str [c]]
 | .pair i j=>.tp [.str [112,97,105,114],.int i,.int j]
 | .sharp i=>.tp [.str [115,104,97,114,112],.int i]
theorem zF (h:∀ d∈l,d.ncl=true):D.nclL l=true:=by
 induction l with
 | nil=>rfl
 | cons d l ih=>unfold D.nclL;rw[h d (aG ..),ih λ x hx=>h x (aE _ hx)];rfl
theorem Stp.ncl (x:Stp):x.d.ncl=true:=by cases x<;>rfl
theorem bt1 {l:List Stp}:D.nclL (l.map Stp.d)=true:=zF λ d hd=>by obtain⟨x,_,rfl⟩:=az.mp hd;exact x.ncl
theorem aP7 :D.nclL (qN l)=true:=zF λ d hd=>by obtain⟨x,_,rfl⟩:=az.mp hd;rfl
theorem aO3 {l:List Int}:D.nclL (l.map D.int)=true:=zF λ d hd=>by obtain⟨x,_,rfl⟩:=az.mp hd;rfl
theorem bl2 :D.nclL (row m f)=true:=zF λ d hd=>by obtain⟨x,_,rfl⟩:=az.mp hd;rfl
theorem aw2 :(gd m f).ncl=true:=by
 unfold gd D.ncl
 exact zF λ d hd=>by obtain⟨x,_,rfl⟩:=az.mp hd;unfold D.ncl;exact bl2
theorem bK1 {s:Sto}(h:s.all O.ncl=true)(ho:o.ncl=true):(s.set r o).all O.ncl=true:=by
 rw[aX]at h ⊢
 intro x hx
 rcases fN hx with h1|h1
 .exact h x h1
 .rw[h1];exact ho
inductive Mks (m:Mc):List Stp->List (Nat->Nat->Int)->Prop where
 | nil:Mks m [] []
 | let_ {l fs} (c:Nat):Mks m l fs->97<=c->c<97+m.L->Mks m (l++[.let_ c]) (fs++[sgM m c])
 | pair {l fs} (i j:Nat) (f g:Nat->Nat->Int):Mks m l fs->fs[i]?=some f->fs[j]?=some g->Mks m (l++[.pair i j]) (fs++[pr m.R f g])
 | sharp {l fs} (i:Nat) (f:Nat->Nat->Int):Mks m l fs->fs[i]?=some f->EqG m.R (pr m.R f f) f->Mks m (l++[.sharp i]) (fs++[sh m.R f])
theorem Mks.len (h:Mks m l fs):l.length=fs.length:=by
 induction h<;>simp_all
def stM (s:Sto)(r:Nat)(b:Int)(A B Cc:List D)(T:Sto):Sto:=s.set r (jc b)++(.J A::.J B::.J Cc::T)
section
variable {s:Sto} {r:Nat} {b:Int} {A B Cc:List D} {T:Sto}
theorem bW9:(stM s r b A B Cc T)[s.length]?=some (.J A):=by unfold stM;rw[am (by simp)];simp
theorem aZ6:(stM s r b A B Cc T)[s.length+1]?=some (.J B):=by unfold stM;rw[am (by simp)];simp
theorem by1:(stM s r b A B Cc T)[s.length+2]?=some (.J Cc):=by unfold stM;rw[am (by simp)];simp
theorem bf8 (h:A.length<LIM):meth .append (.ref s.length) [v] (stM s r b A B Cc T)=.ok .N (stM s r b (A++[v]) B Cc T):=by
 rw[qM bW9 h];unfold stM;rw[bH _ _ (by simp)];simp
theorem bj7 (h:B.length<LIM):meth .append (.ref (s.length+1)) [v] (stM s r b A B Cc T)=.ok .N (stM s r b A (B++[v]) Cc T):=by
 rw[qM aZ6 h];unfold stM;rw[bH _ _ (by simp)];simp
theorem bW6 (h:Cc.length<LIM):meth .append (.ref (s.length+2)) [v] (stM s r b A B Cc T)=.ok .N (stM s r b A B (Cc++[v]) T):=by
 rw[qM by1 h];unfold stM;rw[bH _ _ (by simp)];simp
theorem ay7 :stM s r b A B Cc T++[o]=stM s r b A B Cc (T++[o]):=by unfold stM;simp
theorem aA5:(stM s r b A B Cc T).length=s.length+(T.length+3):=by unfold stM;simp
theorem br6 :(stM s r b A B Cc (T++[o]))[s.length+(T.length+3)]?=some o:=by
 rw[<-ay7,am (by rw[aA5];lia),aA5];simp
theorem ao4 [Has P af5] n (J:r<s.length) y (h0:0<y)(h:y<=10^90) :
  ∃(k:Nat) (G:Int),(k:Int)<y/\(aa1 P (n+1)).call "_law_draw" [.ref r,.int y] (stM s r b A B Cc T)=.ok (.int k) (stM s r G A B Cc T):=jD n J b y h0 h
end
theorem aS8 :qj .ne (.ref (s.length+2)) (.ref (s.length+(T.length+3))) (stM s r b A B Cc (T++[O.J []]))=.ok (.T (!decide (Cc=[]))) (stM s r b A B Cc (T++[O.J []])):=by
 show(match eqv (stM s r b A B Cc (T++[O.J []])) DEEP (.ref (s.length+2)) (.ref (s.length+(T.length+3)))with|some r=>R.ok (D.T (!r)) _|none=>.B)=_
 have:eqv (stM s r b A B Cc (T++[O.J []])) DEEP (.ref (s.length+2)) (.ref (s.length+(T.length+3)))=some (decide (Cc=[])):=by
  show(match(stM s r b A B Cc (T++[O.J []]))[s.length+2]?,(stM s r b A B Cc (T++[O.J []]))[s.length+(T.length+3)]? with
   | some (O.J l),some (O.J m)=>if l.length=m.length then eqL (eqv (stM s r b A B Cc (T++[O.J []])) 29) l m else some false
   | _,_=>none)=_
  rw[by1,br6]
  cases Cc<;>rfl
 rw[this]
def zz (m:Nat)(fs:List (Nat->Nat->Int)):List D:=fs.map (gd m)
theorem aA2 :D.nclL (zz m fs)=true:=zF λ d hd=>by obtain⟨x,_,rfl⟩:=az.mp hd;exact aw2
theorem qZ { i:Nat}(h:fs[i]?=some f):(zz m fs)[i]?=some (gd m f):=by
 unfold zz;rw[av,h];rfl
noncomputable def mkC:E:=.and (.Z .lt (.X 8) (.K (.int 4))) (.and (.Z .gt (.X 3) (.K (.int 0))) (.and (.Z .ne (.X 6) (.J .nil)) (.Z .gt (.X 8) (.K (.int 0)))))
noncomputable def mkA:Ss:=(.cons (.A (.Y 9) (.ix (.X 6) (.G .mod (.X 10) (.bi .len (.cons (.X 6) .nil))))) (.cons (.ex (.me .append (.X 4) (.cons (.tp (.cons (.K (.str [115,104,97,114,112])) (.cons (.X 9) .nil))) .nil))) (.cons (.ex (.me .append (.X 5) (.cons (.call "_law_sharp" (.ex (.ix (.X 5) (.X 9)) .nil)) .nil))) (.cons (.A (.Y 3) (.G .sub (.X 3) (.K (.int 1)))) .nil))))
noncomputable def mkB:Ss:=(.cons (.A (.Y 9) (.bi .min2 (.cons (.X 9) (.cons (.G .sub (.X 7) (.K (.int 1))) .nil)))) (.cons (.A (.Y 10) (.ite (.Z .gt (.X 8) (.K (.int 1))) (.bi .min2 (.cons (.X 10) (.cons (.G .sub (.X 7) (.K (.int 1))) .nil))) (.X 9))) (.cons (.ex (.me .append (.X 4) (.cons (.tp (.cons (.K (.str [112,97,105,114])) (.cons (.X 9) (.cons (.X 10) .nil)))) .nil))) (.cons (.ex (.me .append (.X 5) (.cons (.call "_law_product" (.ex (.ix (.X 5) (.X 9)) (.ex (.ix (.X 5) (.X 10)) .nil))) .nil))) .nil))))
noncomputable def mkL:Ss:=(.cons (.A (.Y 11) (.ix (.K (.str [97,98,99])) (.G .mod (.X 9) (.ix (.X 1) (.K (.int 0)))))) (.cons (.ex (.me .append (.X 4) (.cons (.tp (.cons (.K (.str [108,101,116,116,101,114])) (.cons (.X 11) .nil))) .nil))) (.cons (.ex (.me .append (.X 5) (.cons (.call "_law_letter_signs" (.ex (.X 1) (.ex (.X 11) .nil))) .nil))) .nil)))
def mkI:S:=.ite mkC mkA (.cons (.ite (.and (.Z .gt (.X 7) (.K (.int 0))) (.Z .lt (.X 8) (.K (.int 5)))) mkB mkL) .nil)
noncomputable def mkE:S:=.ite (.Z .eq (.call "_law_product" (.ex (.ix (.X 5) (.X 7)) (.ex (.ix (.X 5) (.X 7)) .nil))) (.ix (.X 5) (.X 7))) (.cons (.ex (.me .append (.X 6) (.cons (.X 7) .nil))) .nil) .nil
def aq5 (m:Nat)(fs:List (Nat->Nat->Int))(Cc:List Nat):Prop:=∀ i∈Cc,∃ f,fs[i]?=some f/\EqG m (pr m f f) f
theorem aq5.app (h:aq5 m fs Cc):aq5 m (fs++[g]) Cc:=λ i y=>by
 obtain⟨f,e,q⟩:=h i y
 exact⟨f,by rw[ax (ac.mp e).1];exact e,q⟩
noncomputable def at4 (s:Sto)(r:Nat)(m:Mc)(most z:Int)(k:Option D)(x8 x9 x10 x11:Option D):Env:=[some (.ref r),some m.d,some (.int most),some (.int z),some (.ref s.length),some (.ref (s.length+1)),some (.ref (s.length+2)),k,x8,x9,x10,x11]
theorem bW2 {k way one other:Nat} :
  ∃(c:Bool) (y:Sto),ev F mkC (at4 s r m most z (some (.int k)) (some (.int way)) (some (.int one)) (some (.int other)) x11) (stM s r b A B Cc T)=.ok (.T c) (stM s r b A B Cc y)/\(c=true->Cc≠[])/\(T.all O.ncl=true->y.all O.ncl=true):=by
 unfold mkC at4
 by_cases h1:(way:Int)<4
 .by_cases h2:0<z
  .by_cases h3:Cc=[]
   .refine⟨false,T++[.J []],?_,nofun,λ h=>by rw[dm,h];rfl⟩
    simp -implicitDefEqProofs [h1,h2,ay7,aA5]
    rw[aS8]
    simp [h3]
   .refine⟨decide (0<(way)),T++[.J []],?_,λ _=>h3,λ h=>by rw[dm,h];rfl⟩
    simp -implicitDefEqProofs [h1,h2,ay7,aA5]
    rw[aS8]
    simp [h3]
  .exact⟨false,T,by simp [h2],nofun,id⟩
 .exact⟨false,T,by simp [h1],nofun,id⟩
theorem ixm {j:Nat}(h:s[r]?=some (.J l))(e:i=(j:Int))(hj:l[j]?=some d):ixM (.ref r) (.int i) s=.ok d s:=by rw[e];exact qk h hj
theorem ci1 [Has P ab2][Has P aa9][Has P ae6]{n:Nat}{s:Sto}{r:Nat}{m:Mc}(hm:m.Ok){most z:Int}{k way one other:Nat}{x11:Option D}{b:Int}{l:List Stp}{fs:List (Nat->Nat->Int)}{Cc:List Nat}{T:Sto}
  (hM:Mks m l fs) (hk:l.length=k) (hk2:k<1000) (a8:one<k+1) (a7:other<k+1) (hC:aq5 m.R fs Cc) :
  ∃(x:Stp) (f:Nat->Nat->Int) (z':Int) (x9 x10 a1:Option D) (y:Sto),Mks m (l++[x]) (fs++[f])/\(T.all O.ncl=true->y.all O.ncl=true) /\
   ex (aa1 P (n+1)) mkI (at4 s r m most z (some (.int k)) (some (.int way)) (some (.int one)) (some (.int other)) x11) (stM s r b (l.map Stp.d) (zz m.R fs) (qN Cc) T)
    = .ok (.next (at4 s r m most z' (some (.int k)) (some (.int way)) x9 x10 a1)) (stM s r b ((l++[x]).map Stp.d) (zz m.R (fs++[f])) (qN Cc) y):=by
 have hlen:=hM.len
 have J:(l.map Stp.d).length<LIM:=by unfold LIM;simp;lia
 have Z:(zz m.R fs).length<LIM:=by unfold LIM zz;simp;lia
 obtain⟨c,y,ec,hc,hT⟩:=bW2 (F:=aa1 P (n+1)) (s:=s) (r:=r) (m:=m) (most:=most) (z:=z) (k:=k) (way:=way) (one:=one) (other:=other) (x11:=x11) (b:=b) (A:=l.map Stp.d) (B:=zz m.R fs) (Cc:=qN Cc) (T:=T)
 unfold mkI
 rw[qe,ec,zH]
 cases c with
 | true =>
  have a6:=hc rfl
  have a4:0<Cc.length:=by
   cases Cc with
   | nil=>exact absurd rfl a6
   | cons _ _=>simp
  rw[if_pos rfl]
  have hq:other % Cc.length<Cc.length:=Nat.mod_lt _ a4
  obtain⟨i,hi⟩:∃ i,Cc[other % Cc.length]?=some i:=⟨_,aj hq⟩
  obtain⟨f,hf,a3⟩:=hC i (aL hi)
  refine⟨.sharp i,sh m.R f,z - 1,some (.int i),some (.int other),x11,y,.sharp i f hM hf a3,hT,?_⟩
  have i1:∀ T,ixM (.ref (s.length+2)) (.int ((other:Int) % (Cc.length:Int))) (stM s r b (l.map Stp.d) (zz m.R fs) (qN Cc) T)=.ok (.int i) (stM s r b (l.map Stp.d) (zz m.R fs) (qN Cc) T):=λ T=>ixm by1 (j:=other % Cc.length) (by simp) (by unfold qN;rw[av,hi];rfl)
  have i2:∀ A T,ixM (.ref (s.length+1)) (.int (i:Int)) (stM s r b A (zz m.R fs) (qN Cc) T)=.ok (gd m.R f) (stM s r b A (zz m.R fs) (qN Cc) T):=λ A T=>qk aZ6 (qZ hf)
  have l2:bi .len [.ref (s.length+2)] (stM s r b (l.map Stp.d) (zz m.R fs) (qN Cc) y)=.ok (.int Cc.length) (stM s r b (l.map Stp.d) (zz m.R fs) (qN Cc) y):=by rw[bo9 by1];simp[qN]
  unfold mkA at4
  simp only[za,zl,qd,ex_ex,qz,ze,qI,ev_bi,zr,zu,zg,zh,R.bind_ok,l2,jQ (show(0:Int)<(Cc.length:Int)by lia),i1,zb,zG,zy,aJ,zv,zn,qg,ev_tup,zB,jk,zC,bf8 J,qb,zN,zE,i2,bx4 n hm.R5,bj7 Z,sub_int]
  unfold zz;simp[Stp.d]
 | false =>
  rw[if_neg aS]
  by_cases hk0:0<k/\way<5
  .obtain⟨h1,h2⟩:=hk0
   have G:∀ a:Nat,(if(k:Int) - 1<(a:Int)then(k:Int) - 1 else(a:Int))=((min a (k - 1):Nat):Int):=λ a=>by lia
   obtain⟨j,hj,hoj⟩:∃ j:Nat,j<k/\(if(1:Int)<(way:Int)then((min other (k - 1):Nat):Int)else((min one (k - 1):Nat):Int))=(j:Int):=by
    by_cases h:(1:Int)<(way:Int)
    .exact⟨min other (k - 1),by lia,if_pos h⟩
    .exact⟨min one (k - 1),by lia,if_neg h⟩
   have hi:min one (k - 1)<fs.length:=by lia
   have a0:j<fs.length:=by lia
   refine⟨.pair (min one (k - 1)) j,pr m.R fs[min one (k - 1)] fs[j],z,some (.int (min one (k - 1):Nat)),some (.int j),x11,y,.pair _ _ _ _ hM (aj hi) (aj a0),hT,?_⟩
   have i1:∀ A T,ixM (.ref (s.length+1)) (.int ((min one (k - 1):Nat):Int)) (stM s r b A (zz m.R fs) (qN Cc) T)=.ok (gd m.R fs[min one (k - 1)]) (stM s r b A (zz m.R fs) (qN Cc) T):=λ A T=>qk aZ6 (qZ (aj hi))
   have i2:∀ A T,ixM (.ref (s.length+1)) (.int (j:Int)) (stM s r b A (zz m.R fs) (qN Cc) T)=.ok (gd m.R fs[j]) (stM s r b A (zz m.R fs) (qN Cc) T):=λ A T=>qk aZ6 (qZ (aj a0))
   have a2:(0:Int)<(k:Int):=by lia
   have a5:(way:Int)<5:=by lia
   have eo:ev (aa1 P (n+1)) (.ite (.Z .gt (.X 8) (.K (.int 1))) (.bi .min2 (.cons (.X 10) (.cons (.G .sub (.X 7) (.K (.int 1))) .nil))) (.X 9)) (at4 s r m most z (some (.int k)) (some (.int way)) (some (.int (min one (k - 1):Nat))) (some (.int other)) x11) (stM s r b (l.map Stp.d) (zz m.R fs) (qN Cc) y)=.ok (.int j) (stM s r b (l.map Stp.d) (zz m.R fs) (qN Cc) y):=by
    rw[<-hoj]
    unfold at4
    by_cases h:(1:Int)<(way:Int)
    .simp only[ev_ite,zO,ze,zB,zC,zg,zh,R.bind_ok,gt_int,zH,h,decide_true,if_true,ev_bi,zr,zu,qI,sub_int,ao3,G]
    .simp only[ev_ite,zO,ze,zB,zC,zg,zh,R.bind_ok,gt_int,zH,h,decide_false,if_false,aO]
   unfold mkB
   unfold at4 at eo ⊢
   simp only[za,zl,qe,ev_and,zO,ze,zB,zC,jk,zg,zh,R.bind_ok,gt_int,lt_int,a2,a5,decide_true,zH,if_true,qd,ev_bi,zr,zu,qI,sub_int,ao3,G,zb,zG,zy,aJ,zv,zn,eo,ex_ex,qg,ev_tup,bf8 J,qb,zN,zE,qz,i1,i2,av2 n hm.R5,bj7 Z]
   unfold zz;simp[Stp.d]
  .have Y:ev (aa1 P (n+1)) (.and (.Z .gt (.X 7) (.K (.int 0))) (.Z .lt (.X 8) (.K (.int 5)))) (at4 s r m most z (some (.int k)) (some (.int way)) (some (.int one)) (some (.int other)) x11) (stM s r b (l.map Stp.d) (zz m.R fs) (qN Cc) y)=.ok (.T false) (stM s r b (l.map Stp.d) (zz m.R fs) (qN Cc) y):=by
    unfold at4
    by_cases h1:(0:Int)<(k:Int)
    .have h2:¬(way:Int)<5:=λ h=>hk0 ⟨by lia,by lia⟩
     simp only[ev_and,zO,ze,zB,zC,zg,zh,R.bind_ok,gt_int,lt_int,h1,h2,decide_true,decide_false,zH,if_true]
    .simp only[ev_and,zO,ze,zB,zC,zg,zh,R.bind_ok,gt_int,lt_int,h1,decide_false,zH,if_false,aO]
   have hL:=hm.L1
   have a9:=hm.L3
   have hq:one % m.L<m.L:=Nat.mod_lt _ hL
   refine⟨.let_ (97+one % m.L),sgM m (97+one % m.L),z,some (.int one),some (.int other),some (.str [97+one % m.L]),y,.let_ _ hM (by lia) (by lia),hT,?_⟩
   have em:((one:Int) % (m.L:Int))=((one % m.L:Nat):Int):=by simp
   rw[za,qe,Y]
   unfold mkL at4
   simp only[zH,if_false,aO,za,zl,qd,qz,zB,jk,zC,qI,ze,zg,zh,R.bind_ok,ixL,jQ (show(0:Int)<(m.L:Int)by lia),em,bC0 (show one % m.L<3 by lia),zb,zG,zy,aJ,zv,zn,ex_ex,qg,ev_tup,zr,zu,bf8 J,qb,zN,zE,ap0 n hm,bj7 Z]
   unfold zz;simp[Stp.d]
theorem cd9 [Has P ab2]{n}{s}{r}{m}(Z:m.Ok){most z}{k}{x8 x9 x10 x11}{b}{A}{fs:List (Nat->Nat->Int)}{Cc}{T}
  (hk:fs.length=k+1) (hk2:Cc.length<1000) (Y:aq5 m.R fs Cc) :
  ∃ G ,G.length<=Cc.length+1/\aq5 m.R fs G /\
   ex (aa1 P (n+1)) mkE (at4 s r m most z (some (.int k)) x8 x9 x10 x11) (stM s r b A (zz m.R fs) (qN Cc) T)
    = .ok (.next (at4 s r m most z (some (.int k)) x8 x9 x10 x11)) (stM s r b A (zz m.R fs) (qN G) T):=by
 obtain⟨f,J⟩:∃ f,fs[k]?=some f:=⟨_,aj (by lia)⟩
 have i1:ixM (.ref (s.length+1)) (.int (k:Int)) (stM s r b A (zz m.R fs) (qN Cc) T)=.ok (gd m.R f) (stM s r b A (zz m.R fs) (qN Cc) T):=qk aZ6 (qZ J)
 obtain⟨c,ec,hc⟩:=bZ5 (s:=stM s r b A (zz m.R fs) (qN Cc) T) (m:=m.R) (f:=pr m.R f f) (g:=f)
 have y:ev (aa1 P (n+1)) (.Z .eq (.call "_law_product" (.ex (.ix (.X 5) (.X 7)) (.ex (.ix (.X 5) (.X 7)) .nil))) (.ix (.X 5) (.X 7))) (at4 s r m most z (some (.int k)) x8 x9 x10 x11) (stM s r b A (zz m.R fs) (qN Cc) T)=.ok (.T c) (stM s r b A (zz m.R fs) (qN Cc) T):=by
  unfold at4
  simp only[zO,qb,zN,zE,qz,ze,zg,zh,R.bind_ok,i1,av2 n Z.R5,ec]
 unfold mkE
 rw[qe,y,zH]
 cases c with
 | false=>exact⟨Cc,by lia,Y,rfl⟩
 | true =>
  refine⟨Cc++[k],by simp,λ i hi=>?_,?_⟩
  .rcases bM.mp hi with h|h
   .exact Y i h
   .rw[bv.mp h];exact⟨f,J,hc.mp rfl⟩
  .rw[if_pos rfl]
   unfold at4
   simp only[za,zl,ex_ex,qg,ze,zr,zu,zg,zh,R.bind_ok,bW6 (show(qN Cc).length<LIM by unfold qN LIM;simp;lia),zn]
   unfold qN;simp
def MkR (s:Sto)(r:Nat)(m:Mc)(most:Nat)(x:R D):Prop:=∃(l:List Stp) (fs:List (Nat->Nat->Int)) (b:Int) (T:Sto) (p:Nat),Mks m l fs/\1<=l.length/\l.length<=most/\(s.set r (jc b)++T)[p]?=some (.J (zz m.R fs))/\T.all O.ncl=true/\x=.ok (.tp [.tp (l.map Stp.d),.ref p]) (s.set r (jc b)++T)
theorem aV1 [Has P af5][Has P ab2][Has P aa9][Has P ae6][Has P af3] n {s}{r}(hs:∃ b,s[r]?=some (jc b)){m}(hm:m.Ok) most (h0:1<=most)(h1:most<=500) z :
  MkR s r m most ((aa1 P (n+2)).call "_law_makings" [.ref r,m.d,.int most,.int z] s):=by
 have e0:(aa1 P (n+2)).call "_law_makings" [.ref r,m.d,.int most,.int z] s=_:=zd af3 rfl
 have Z:=bi3 hs
 obtain⟨Y,a0⟩:=hs
 have es:s=s.set r (jc Y):=by
  rw[((ac.mp a0).2).symm,List.set_getElem_self]
 have eS:s++[O.J [],O.J [],O.J []]=stM s r Y [] [] [] []:=by unfold stM;rw[<-es]
 obtain⟨d,b1,hd,ed⟩:=ao4 (P:=P) n (b:=Y) (A:=[]) (B:=[]) (Cc:=[]) (T:=[]) Z most (by lia) (je (by lia))
 rw[e0]
 have body:af3.body=.cons (.A (.Y 4) (.J .nil)) (.cons (.A (.Y 5) (.J .nil)) (.cons (.A (.Y 6) (.J .nil)) (.cons (.fo (.Y 7) (.rg (.G .add (.K (.int 1)) (.call "_law_draw" (.ex (.X 0) (.ex (.X 2) .nil))))) (.cons (.A (.Y 8) (.call "_law_draw" (.ex (.X 0) (.ex (.K (.int 6)) .nil)))) (.cons (.A (.Y 9) (.call "_law_draw" (.ex (.X 0) (.ex (.G .add (.X 7) (.K (.int 1))) .nil)))) (.cons (.A (.Y 10) (.call "_law_draw" (.ex (.X 0) (.ex (.G .add (.X 7) (.K (.int 1))) .nil)))) (.cons mkI (.cons mkE .nil)))))) (.cons (.ret (.tp (.cons (.mk .tuple (.seq (.X 4))) (.cons (.X 5) .nil)))) .nil)))):=rfl
 rw[body,show(bn some [D.ref r,m.d,.int most,.int z]++aq af3.vs none)=[some (D.ref r),some m.d,some (.int most),some (.int z),none,none,none,none,none,none,none,none]from rfl]
 simp -implicitDefEqProofs only[za,qd,ev_lst,zu,R.bind_ok,js,zb,zG,zy,aJ,zv,zn,cG,c6,dT,aU,aR,cV,ex_for,qv,qI,zB,zC,qb,zN,zE,ze,zg,zh,eS,ed,add_int,cD]
 rw[zQ (by unfold Ww62;lia) (by unfold Ww62;lia),show((1:Int)+(d:Int))=((d+1:Nat):Int)by lia]
 simp only[R.bind_ok,R.bind_assoc]
 refine jd (Ww:=MkR s r m most) (λ k U t=>∃(l:List Stp) (fs:List (Nat->Nat->Int)) (Cc:List Nat) (b:Int) (T:Sto) (z:Int) (x7 x8 x9 x10 x11:Option D),Mks m l fs/\l.length=k/\Cc.length<=k/\aq5 m.R fs Cc/\T.all O.ncl=true/\U=at4 s r m most z x7 x8 x9 x10 x11/\t=stM s r b (l.map Stp.d) (zz m.R fs) (qN Cc) T) ⟨[],[],[],b1,[],z,none,none,none,none,none,.nil,rfl,ak _,λ _ h=>(by cases h),rfl,rfl,rfl⟩ (λ _ _ _ _ _=>rfl) ?_ ?_
 .rintro k dd U t hk ⟨l,fs,Cc,b,T,z,x7,x8,x9,x10,x11,hM,hl,a3,hC,hT,rfl,rfl⟩
  have a6:=(qP hk).1
  rw[(qP hk).2]
  obtain⟨way,c1,_,f1⟩:=ao4 (P:=P) n (s:=s) (b:=b) (A:=l.map Stp.d) (B:=zz m.R fs) (Cc:=qN Cc) (T:=T) Z 6 (by decide) (by decide)
  obtain⟨one,c2,ho,f2⟩:=ao4 (P:=P) n (s:=s) (b:=c1) (A:=l.map Stp.d) (B:=zz m.R fs) (Cc:=qN Cc) (T:=T) Z ((k:Int)+1) (by lia) (je (by lia))
  obtain⟨other,y,a5,f3⟩:=ao4 (P:=P) n (s:=s) (b:=c2) (A:=l.map Stp.d) (B:=zz m.R fs) (Cc:=qN Cc) (T:=T) Z ((k:Int)+1) (by lia) (je (by lia))
  obtain⟨x,f,z',y9,J,G,T',a4,a1,eI⟩:=ci1 (P:=P) (n:=n) (s:=s) (r:=r) hm (most:=most) (z:=z) (k:=k) (way:=way) (one:=one) (other:=other) (x11:=x11) (b:=y) (T:=T) hM hl (by lia) (by lia) (by lia) hC
  obtain⟨Cc',a7,a2,eE⟩:=cd9 (P:=P) (n:=n) (s:=s) (r:=r) hm (most:=most) (z:=z') (k:=k) (x8:=some (.int way)) (x9:=y9) (x10:=J) (x11:=G) (b:=y) (A:=(l++[x]).map Stp.d) (T:=T') (Cc:=Cc) (fs:=fs++[f]) (by have:=hM.len;simp;lia) (by lia) hC.app
  refine aD6 (U:=at4 s r m most z' (some (.int k)) (some (.int way)) y9 J G) (s:=stM s r y ((l++[x]).map Stp.d) (zz m.R (fs++[f])) (qN Cc') T') ?_ ⟨l++[x],fs++[f],Cc',y,T',z',_,_,_,_,_,a4,by simp;omega,by lia,a2,a1 hT,rfl,rfl⟩
  have st:turn (aa1 P (n+1)) (.Y 7) (.cons (.A (.Y 8) (.call "_law_draw" (.ex (.X 0) (.ex (.K (.int 6)) .nil)))) (.cons (.A (.Y 9) (.call "_law_draw" (.ex (.X 0) (.ex (.G .add (.X 7) (.K (.int 1))) .nil)))) (.cons (.A (.Y 10) (.call "_law_draw" (.ex (.X 0) (.ex (.G .add (.X 7) (.K (.int 1))) .nil)))) (.cons mkI (.cons mkE .nil))))) (.int k) (at4 s r m most z x7 x8 x9 x10 x11) (stM s r b (l.map Stp.d) (zz m.R fs) (qN Cc) T)
    = exs (aa1 P (n+1)) (.cons mkI (.cons mkE .nil)) (at4 s r m most z (some (.int k)) (some (.int way)) (some (.int one)) (some (.int other)) x11) (stM s r y (l.map Stp.d) (zz m.R fs) (qN Cc) T):=by
   unfold turn at4
   simp -implicitDefEqProofs only[zb,zG,zy,aJ,za (.A _ _),qd,qb,zN,zE,ze,qI,zB,zC,add_int,zg,zh,R.bind_ok,f1,f2,f3,zv,zn]
  rw[st,za,eI,R.bind_ok,zn,za,eE,R.bind_ok,zn,zl]
 .rintro U t ⟨l,fs,Cc,b,T,z,x7,x8,x9,x10,x11,hM,hl,a3,hC,hT,rfl,rfl⟩
  rw[zP]at hl
  unfold at4
  simp -implicitDefEqProofs only[zn,za,zl,qD,ev_tup,zr,zu,ev_mk,evL_seq,ze,zg,zh,R.bind_ok,aZ4,bW9,mk,zV,zU]
  refine⟨l,fs,b,.J (l.map Stp.d)::.J (zz m.R fs)::.J (qN Cc)::T,s.length+1,hM,by lia,by lia,aZ6,by simp only[dP,O.ncl,bt1,aA2,aP7,hT,Bool.and_self],?_⟩
  unfold zJ
  rw[show stM s r b (l.map Stp.d) (zz m.R fs) (qN Cc) T=s.set r (jc b)++(.J (l.map Stp.d)::.J (zz m.R fs)::.J (qN Cc)::T)from rfl,if_pos (aq3 s _ r (jc b) rfl)]
  have:(D.tp [.tp (l.map Stp.d),.ref (s.length+1)]).bnd s.length=false:=by
   unfold D.bnd D.bndL D.bndL D.bndL
   simp[D.bnd]
  simp only[this,if_false,aO]
theorem be1 :∀ k,prN f g i j k<=x↔3<=x\/∃ l,l<k/\f i l<3/\f i l<=x/\g l j<=x
 | 0=>by unfold prN;exact⟨.inl,λ h=>h.elim id λ⟨l,hl,_⟩=>absurd hl (fe _)⟩
 | k+1=>by
  have y:=be1 (f:=f) (g:=g) (i:=i) (j:=j) (x:=x) k
  have key:prN f g i j (k+1)<=x↔prN f g i j k<=x\/(f i k<3/\f i k<=x/\g k j<=x):=by
   conv=>lhs;unfold prN
   simp only
   repeat' split
   all_goals omega
  rw[key,y]
  constructor
  .rintro((h|⟨l,h1,h2⟩)|h)
   .exact .inl h
   .exact .inr ⟨l,by lia,h2⟩
   .exact .inr ⟨k,by lia,h⟩
  .rintro(h|⟨l,h1,h2⟩)
   .exact .inl (.inl h)
   .by_cases e:l=k
    .subst e;exact .inr h2
    .exact .inl (.inr ⟨l,by lia,h2⟩)
theorem cn2 (hx:x<3):pr m f g i j<=x↔∃ l,l<m/\f i l<=x/\g l j<=x:=by
 unfold pr
 rw[be1]
 constructor
 .rintro(h|⟨l,y,_,G,h3⟩)
  .omega
  .exact⟨l,y,G,h3⟩
 .rintro⟨l,y,G,h3⟩
  exact .inr ⟨l,y,by lia,G,h3⟩
theorem cz3 :pr m f g i j<=3:=by
 unfold pr;exact(be1 _).mpr (.inl (cy _))
def pw (m:Nat)(f:Nat->Nat->Int):Nat->Nat->Nat->Int
 | 0=>f
 | n+1=>pr m (pw m f n) f
section
variable {m:Nat} {f:Nat->Nat->Int} {x:Int}
end
noncomputable def ct9 (k:Nat):Stp->Prop
 | .let_ _=>True
 | .pair i j=>i<k/\j<k/\(k<100\/(i=k - 1/\j=0))
 | .sharp i=>i<k/\k<100
def al8 (l:List Stp):Prop:=∀ k x,l[k]?=some x->ct9 k x
theorem al8.nil:al8 []:=λ k x h=>by cases h
theorem al8.snoc (h:al8 l)(hx:ct9 l.length x):al8 (l++[x]):=λ k y e=>by
 by_cases hk:k<l.length
 .rw[ax hk]at e;exact h k y e
 .have hk2:=(ac.mp e).1
  simp at hk2
  have:k=l.length:=by lia
  subst this
  rw[am (ak _),eG]at e
  cases e;exact hx
theorem Mks.ok (h:Mks m l fs):l.length<=100->al8 l:=by
 induction h with
 | nil=>intro _;exact .nil
 | let_ c h _ _ ih=>intro hl;simp at hl;exact(ih (by lia)).snoc trivial
 | pair i j f g h e1 e2 ih =>
  intro hl;simp at hl
  have:=h.len
  have:=(ac.mp e1).1
  have:=(ac.mp e2).1
  exact(ih (by lia)).snoc ⟨by lia,by lia,.inl (by lia)⟩
 | sharp i f h e1 _ ih =>
  intro hl;simp at hl
  have:=h.len
  have:=(ac.mp e1).1
  exact(ih (by lia)).snoc ⟨by lia,by lia⟩
noncomputable def at9 (a c:Int)(vs:List Int):Stp->Int
 | .let_ _=>a
 | .pair i j=>vs.getD i 0+vs.getD j 0
 | .sharp i=>vs.getD i 0*c
def vl (a c:Int)(l:List Stp):List Int:=l.foldl (λ vs x=>vs++[at9 a c vs x]) []
theorem bM7 :vl a c (l++[x])=vl a c l++[at9 a c (vl a c l) x]:=by unfold vl;rw[eJ];rfl
theorem jt {α:Type}{l:List α}{x}(h:l[k]?=some x):l.take (k+1)=l.take k++[x]:=by
 rw[List.take_succ,h];rfl
theorem aK5 {l:List Stp}(h:l[k]?=some x):vl a c (l.take (k+1))=vl a c (l.take k)++[at9 a c (vl a c (l.take k)) x]:=by
 rw[jt h,bM7]
theorem ar2 {l:List Stp}:∀ k,k<=l.length->(vl a c (l.take k)).length=k
 | 0,_=>by simp[vl]
 | k+1,h=>by
  rw[aK5 (aj (show k<l.length by lia)),aU,ar2 k (by lia)];rfl
noncomputable def TB:Int:=2^(2+104*99)
theorem aP8 k :(2:Int)^(2+104*(k+1))=2^(2+104*k)*2^104:=by rw[show 2+104*(k+1)=2+104*k+104 by lia,Int.pow_add]
theorem jn (h:a<=b):(2:Int)^a<=2^b:=by
 have y:(2)^a<=2^b:=eW (by decide) h
 have:((2^a))<=((2^b):Int):=by exact_mod_cast y
 simpa using this
theorem aP5 a :(0:Int)<2^a:=Int.pow_pos (by decide)
theorem ch9 (ha:0<=a)(J:a<=3)(hc:0<=c)(G:c<=2^103)(hl:al8 l):∀ k:Nat,k<=l.length->∀(i:Nat) v ,(vl a c (l.take k))[i]?=some v->0<=v/\(i<100->v<=2^(2+104*i))/\v<=TB+3*i/\(i=0->v=a)
 | 0,_,i,v,h=>by simp[vl]at h
 | k+1,hk,i,v,h=>by
  have ih:=ch9 ha J hc G hl k (by lia)
  have hx:=aj (show k<l.length by lia)
  have hlen:=ar2 (a:=a) (c:=c) (l:=l) k (by omega)
  rw[aK5 hx]at h
  by_cases hi:i<k
  .rw[ax (by lia)]at h
   exact ih i v h
  .have a0:=(ac.mp h).1
   simp[]at a0
   have:i=k:=by lia
   subst this
   rw[am (by lia),hlen,eG]at h
   have hw:=aw h
   clear h
   have hok:=hl i _ hx
   have g:∀ j,j<i->0<=(vl a c (l.take i)).getD j 0/\(j<100->(vl a c (l.take i)).getD j 0<=2^(2+104*j))/\(vl a c (l.take i)).getD j 0<=TB+3*j/\(j=0->(vl a c (l.take i)).getD j 0=a):=λ j hj=>by
    have e:(vl a c (l.take i))[j]?=some ((vl a c (l.take i)).getD j 0):=by
     rw[aN,aj (by lia)];rfl
    exact ih j _ e
   have hT:∀ j,j<100->(2:Int)^(2+104*j)<=TB:=λ j hj=>by unfold TB;exact jn (by lia)
   have hp:(3:Int)<=2^(2+104*i):=cw (show(3:Int)<=2^2 by decide) (jn (by lia))
   have a1:(4:Int)<=TB:=by unfold TB;exact cw (show(4:Int)<=2^2 by decide) (jn (by lia))
   generalize vl a c (l.take i)=vs at hw g
   generalize l[i]=x at hw hok
   cases x with
   | let_ ch =>
    have hz:a=v:=hw
    exact⟨by lia,λ _=>by omega,by lia,λ _=>hz.symm⟩
   | pair p q =>
    have hz:vs.getD p 0+vs.getD q 0=v:=hw
    obtain⟨h1,Z,h3⟩:=hok
    obtain⟨p1,Y,p3,_⟩:=g p h1
    obtain⟨q1,q2,q3,q4⟩:=g q Z
    obtain⟨y,rfl⟩:∃ y,i=y+1:=⟨i - 1,by lia⟩
    by_cases hi100:y+1<100
    .have p5:vs.getD p 0<=2^(2+104*y):=cw (Y (by lia)) (jn (by lia))
     have q5:vs.getD q 0<=2^(2+104*y):=cw (q2 (by lia)) (jn (by lia))
     have e:=aP8 y
     have b:v<=2^(2+104*(y+1)):=by
      rw[e,<-hz]
      have:(2:Int)^(2+104*y)*2<=2^(2+104*y)*2^104:=c9 (by decide) (lD (aP5 _))
      omega
     have:=hT (y+1) hi100
     exact⟨by lia,λ _=>b,by lia,λ e=>by lia⟩
    .rcases h3 with h3|⟨h3,h4⟩
     .omega
     .have:=q4 h4
      subst h4
      have e:p=y:=by lia
      subst e
      refine⟨by lia,λ e=>absurd e hi100,?_,λ e=>by lia⟩
      rw[<-hz,this]
      push_cast
      lia
   | sharp p =>
    have hz:vs.getD p 0*c=v:=hw
    obtain⟨h1,Z⟩:=hok
    obtain⟨p1,Y,p3,_⟩:=g p h1
    obtain⟨y,rfl⟩:∃ y,i=y+1:=⟨i - 1,by lia⟩
    have p5:vs.getD p 0<=2^(2+104*y):=cw (Y (by lia)) (jn (by lia))
    have b:v<=2^(2+104*(y+1)):=by
     rw[aP8 y,<-hz]
     exact Int.mul_le_mul p5 (cw G (by decide)) hc (lD (aP5 _))
    have:=hT (y+1) Z
    have:0<=v:=by rw[<-hz];exact Int.mul_nonneg p1 hc
    exact⟨this,λ _=>b,by lia,λ e=>by lia⟩
theorem bB9 (h0:0<=v)(h:v<=TB+100000):v.natAbs<BIG:=by
 have y:TB+100000<2^11000:=by unfold TB;decide +kernel
 have G:(2)^11000<=BIG:=by unfold BIG;exact eW (by decide) (by decide)
 have h3:((2^11000))=(2)^11000:=by push_cast;rfl
 lia
theorem cq5 {c:Int}(h0:0<=c)(h:c<=2^103):c.natAbs<BIG:=bB9 h0 (cw h (by
 have:(2)^103<=TB:=by unfold TB;exact jn (by lia)
 lia))
theorem bJ2 (h:a.natAbs<BIG)(y:b.natAbs<BIG):mulOk a b=true:=by
 unfold mulOk;simp[h,y]
theorem dl0 :ixM (Stp.let_ c).d (.int 0) s=.ok (.str bU5) s:=rfl
theorem dl1 :ixM (Stp.let_ c).d (.int 1) s=.ok (.str [c]) s:=rfl
theorem dp0 :ixM (Stp.pair i j).d (.int 0) s=.ok (.str aF9) s:=rfl
theorem dp1 :ixM (Stp.pair i j).d (.int 1) s=.ok (.int i) s:=rfl
theorem dp2 :ixM (Stp.pair i j).d (.int 2) s=.ok (.int j) s:=rfl
theorem ds0 :ixM (Stp.sharp i).d (.int 0) s=.ok (.str bE9) s:=rfl
theorem ds1 :ixM (Stp.sharp i).d (.int 1) s=.ok (.int i) s:=rfl
section
variable {F:Fns} {U:Env} {s:Sto}
noncomputable def apV (F:Fns)(d:D)(l:List D)(s:Sto):R D:=match d with
 | .fn f=>F.call f l s
 | .clo id cs=>F.lam id cs l s
 | _=>.B
theorem qL es (h:U[i]?=some (some d)):ev F (.callV i es) U s=(evs F es U s).bind λ l s=>apV F d l s:=by
 show(evs F es U s).bind (λ l s=>match U[i]? with
  | some (some (.fn f))=>F.call f l s
  | some (some (.clo id cs))=>F.lam id cs l s
  | _=>.B)=_
 rw[h]
 cases d<;>rfl
theorem qt {id} G (h:ai1 U y=some cs):an4 F (.lam id y G) U s=(an4 F G U s).bind λ l s=>.ok (.clo id cs::l) s:=by
 show(match ai1 U y with
  | some cs=>(an4 F G U s).bind λ l s=>R.ok (D.clo id cs::l) s
  | none=>.B)=_
 rw[h]
end
theorem qh {s:Sto}(h:s.all O.ncl=true)(ho:o.ncl=true):(s++[o]).all O.ncl=true:=by rw[dm,h];simp[ho]
noncomputable def Stp.t (c:Int):Stp->D
 | .sharp i=>.tp [.str [116,105,109,101,115],.int i,.int c]
 | x=>x.d
theorem Stp.t_bnd c (x:Stp) n :(x.t c).bnd n=true:=by cases x<;>rfl
theorem Stp.t_ncl c (x:Stp):(x.t c).ncl=true:=by cases x<;>rfl
theorem bD3 {l:List Stp}:(O.J (l.map (Stp.t c))).bnd n=true:=by
 unfold O.bnd
 exact zR (λ d hd n=>by obtain⟨x,_,rfl⟩:=az.mp hd;exact x.t_bnd c n) n
theorem bC3 {l:List Stp}:(O.J (l.map (Stp.t c))).ncl=true:=by
 unfold O.ncl
 exact zF λ d hd=>by obtain⟨x,_,rfl⟩:=az.mp hd;exact x.t_ncl c
theorem ji (ho:o.bnd s.length=true):zJ s (.ref s.length) (s++[o])=.ok (.ref s.length) (s++[o]):=by
 have:=as9 (t:=[]) (u:=[]) ho
 simpa using this
theorem bp7 (ho:o.bnd s.length=true):zJ s (.ref (s.length+1)) (s++[p,o])=.ok (.ref s.length) (s++[o]):=as9 (t:=[p]) ho
theorem at0 [Has P ad8] n {l:List Stp}(hl:l.length<=5100) c s :
  (aa1 P (n+1)).call "as_times" [.tp (l.map Stp.d),.int c] s=.ok (.ref s.length) (s++[.J (l.map (Stp.t c))]):=by
 have h:(aa1 P (n+1)).call "as_times" [.tp (l.map Stp.d),.int c] s=_:=zd ad8 rfl
 rw[h,show(bn some [D.tp (l.map Stp.d),.int c]++aq ad8.vs none)=[some (D.tp (l.map Stp.d)),some (.int c)]from rfl]
 simp only[ad8,za,qD,ev_mk,jG,evI_seq,ze,zg,R.bind_ok,ar8]
 rw[if_pos (by unfold LIM;rw[aD];lia)]
 obtain⟨U1,s1,e1,h1⟩:∃ U' s',qX (λ s1=>chk s s1 []) (qC (aa1 P n) (.Y 0) (.ite (.Z .eq (.ix (.X 0) (.K (.int 0))) (.K (.str [115,104,97,114,112]))) (.tp (.cons (.K (.str [116,105,109,101,115])) (.cons (.ix (.X 0) (.K (.int 1))) (.cons (.X 1) .nil)))) (.X 0))) (l.map Stp.d) (zX [some (D.tp (l.map Stp.d)),some (.int c)] [none,some 1]) s=R.ok (l.map (Stp.t c)) s'/\s'=s/\∃ x:Option D,U'=[x,some (D.int c)]:=by
  have key:∀(l:List Stp) (U:Env),(∃ x:Option D,U=[x,some (D.int c)])->∃ U' s',qX (λ s1=>chk s s1 []) (qC (aa1 P n) (.Y 0) (.ite (.Z .eq (.ix (.X 0) (.K (.int 0))) (.K (.str [115,104,97,114,112]))) (.tp (.cons (.K (.str [116,105,109,101,115])) (.cons (.ix (.X 0) (.K (.int 1))) (.cons (.X 1) .nil)))) (.X 0))) (l.map Stp.d) U s=.ok (l.map (Stp.t c)) s'/\s'=s/\∃ x:Option D,U'=[x,some (D.int c)]:=by
   intro l
   induction l with
   | nil=>rintro U ⟨x,rfl⟩;exact⟨[x,some (D.int c)],s,rfl,rfl,x,rfl⟩
   | cons y l ih =>
    rintro U ⟨x,rfl⟩
    obtain⟨U2,s2,e2,rfl,G⟩:=ih [some y.d,some (.int c)] ⟨_,rfl⟩
    refine⟨U2,_,?_,rfl,G⟩
    have st:qC (aa1 P n) (.Y 0) (.ite (.Z .eq (.ix (.X 0) (.K (.int 0))) (.K (.str [115,104,97,114,112]))) (.tp (.cons (.K (.str [116,105,109,101,115])) (.cons (.ix (.X 0) (.K (.int 1))) (.cons (.X 1) .nil)))) (.X 0)) y.d [x,some (.int c)] s2=.ok (some (y.t c),[some y.d,some (.int c)]) s2:=by
     unfold qC
     cases y with
     | let_ ch=>simp only[zb,zy,ev_ite,zO,qz,ze,zB,zC,jk,zg,zh,R.bind_ok,dl0,jp,show(bU5=[115,104,97,114,112])=False by decide,decide_false,zH,if_false,aO];rfl
     | pair i j=>simp only[zb,zy,ev_ite,zO,qz,ze,zB,zC,jk,zg,zh,R.bind_ok,dp0,jp,show(aF9=[115,104,97,114,112])=False by decide,decide_false,zH,if_false,aO];rfl
     | sharp i=>simp only[zb,zy,ev_ite,zO,qz,ze,zB,zC,jk,zg,zh,R.bind_ok,ds0,ds1,jp,show(bE9=[115,104,97,114,112])=True from eq_self _,decide_true,zH,if_true,ev_tup,zr,zu];rfl
    rw[aM,aM]
    unfold qX
    simp only[bp5,if_true]
    rw[st,R.bind_ok]
    simp only[bp5]at e2
    rw[e2];rfl
  exact key l _ ⟨none,rfl⟩
 obtain⟨rfl,_⟩:=h1
 rw[e1]
 simp only[R.bind_ok,mk,js,zV,zU]
 exact ji bD3
theorem tl0 :ixM ((Stp.let_ ch).t c) (.int 0) s=.ok (.str bU5) s:=rfl
theorem tl1 :ixM ((Stp.let_ ch).t c) (.int 1) s=.ok (.str [ch]) s:=rfl
theorem tp0 :ixM ((Stp.pair i j).t c) (.int 0) s=.ok (.str aF9) s:=rfl
theorem tp1 :ixM ((Stp.pair i j).t c) (.int 1) s=.ok (.int i) s:=rfl
theorem tp2 :ixM ((Stp.pair i j).t c) (.int 2) s=.ok (.int j) s:=rfl
theorem th0 :ixM ((Stp.sharp i).t c) (.int 0) s=.ok (.str av6) s:=rfl
theorem th1 :ixM ((Stp.sharp i).t c) (.int 1) s=.ok (.int i) s:=rfl
theorem th2 :ixM ((Stp.sharp i).t c) (.int 2) s=.ok (.int c) s:=rfl
theorem bp6 [Has P ac3] n {l:List Stp}{c:Int}(hl:l.length<=5100)(hk:al8 l){s:Sto}{p:Nat}(hp:s[p]?=some (.J (l.map (Stp.t c)))) d1 G J (Ww:Nat->D)(hW:∀ k n,(Ww k).bnd n=true)
  (h1:∀ k ch,l[k]?=some (.let_ ch)->apV (aa1 P n) d1 [.str [ch]] (s++[.J ((ai k).map Ww)])=.ok (Ww k) (s++[.J ((ai k).map Ww)]))
  (h2:∀ k i j,l[k]?=some (.pair i j)->apV (aa1 P n) G [Ww i,Ww j] (s++[.J ((ai k).map Ww)])=.ok (Ww k) (s++[.J ((ai k).map Ww)]))
  (h3:∀ k i,l[k]?=some (.sharp i)->apV (aa1 P n) J [Ww i,.int c] (s++[.J ((ai k).map Ww)])=.ok (Ww k) (s++[.J ((ai k).map Ww)])) :
  (aa1 P (n+1)).call "folded" [.ref p,d1,G,J] s=.ok (.ref s.length) (s++[.J ((ai l.length).map Ww)]):=by
 have e0:(aa1 P (n+1)).call "folded" [.ref p,d1,G,J] s=_:=zd ac3 (n:=n) rfl
 have Z:p<s.length:=(ac.mp hp).1
 rw[e0,show(bn some [D.ref p,d1,G,J]++aq ac3.vs none)=[some (D.ref p),some d1,some G,some J,none,none]from rfl]
 simp only[ac3]
 simp only[za,zl,qd,ev_lst,zu,R.bind_ok,js,zb,zG,zy,aJ,zv,zn,ex_for,evI_seq,ze,zg,zh]
 rw[show av4 (.ref p) (s++[O.J []])=.ok ⟨l.map (Stp.t c),[p]⟩ (s++[O.J []])by simp only[av4,jx hp]]
 simp only[R.bind_ok]
 rw[R.bind_assoc]
 refine jF (λ k U t=>∃(x:Option D),U=[some (D.ref p),some d1,some G,some J,some (.ref s.length),x]/\t=s++[.J ((ai k).map Ww)]) ⟨none,rfl,rfl⟩ (λ _ _ _ _ h=>?_) ?_ ?_
 .obtain⟨_,_,rfl⟩:=h
  simp[chk,ax Z]
 .rintro k d U t hkk ⟨x,rfl,rfl⟩
  rw[av]at hkk
  obtain⟨v,hv,hd⟩:∃ v,l[k]?=some v/\Stp.t c v=d:=by
   cases e:l[k]? with
   | none=>rw[e]at hkk;cases hkk
   | some v=>rw[e]at hkk;exact⟨v,rfl,aw hkk⟩
  subst hd
  have a0:=(ac.mp hv).1
  have hok:=hk k v hv
  have L1:((ai k).map Ww).length<LIM:=by unfold LIM;rw[aD,cX];lia
  have g0:(s++[O.J ((ai k).map Ww)])[s.length]?=some (.J ((ai k).map Ww)):=by rw[am (ak _)];simp
  have gW:∀ i,i<k->ixM (.ref s.length) (.int (i:Int)) (s++[O.J ((ai k).map Ww)])=.ok (Ww i) (s++[O.J ((ai k).map Ww)]):=λ i Y=>qk g0 (by rw[av,be Y];rfl)
  refine aD6 (U:=[some (D.ref p),some d1,some G,some J,some (.ref s.length),some (v.t c)]) (s:=s++[.J ((ai (k+1)).map Ww)]) ?_ ⟨_,rfl,rfl⟩
  rw[cJ,cg]
  unfold turn
  cases v with
  | let_ ch =>
   have y:=h1 k ch hv
   simp only[zb,zG,zy,aJ,za,zl,qe,zO,qz,ze,zB,zC,jk,zg,zh,R.bind_ok,tl0,jp,show(bU5=[108,101,116,116,101,114])=True from eq_self _,decide_true,zH,if_true,ex_ex,qg,zr,zu]
   rw[qL (d:=d1) _ rfl]
   simp only[zr,zu,qz,ze,zB,zC,zg,zh,R.bind_ok,tl1,y]
   rw[ja L1];rfl
  | pair i j =>
   obtain⟨Y,hj,_⟩:=hok
   have y:=h2 k i j hv
   simp only[zb,zG,zy,aJ,za,zl,qe,zO,qz,ze,zB,zC,jk,zg,zh,R.bind_ok,tp0,jp,show(aF9=[108,101,116,116,101,114])=False by decide,show(aF9=[112,97,105,114])=True from eq_self _,decide_true,decide_false,aO,zH,if_true,if_false,ex_ex,qg,zr,zu]
   rw[qL (d:=G) _ rfl]
   simp only[zr,zu,qz,ze,zB,zC,zg,zh,R.bind_ok,tp1,tp2,gW i Y,gW j hj,y]
   rw[ja L1];rfl
  | sharp i =>
   obtain⟨Y,_⟩:=hok
   have y:=h3 k i hv
   simp only[zb,zG,zy,aJ,za,zl,qe,zO,qz,ze,zB,zC,jk,zg,zh,R.bind_ok,th0,jp,show(av6=[108,101,116,116,101,114])=False by decide,show(av6=[112,97,105,114])=False by decide,decide_false,aO,zH,if_false,ex_ex,qg,zr,zu]
   rw[qL (d:=J) _ rfl]
   simp only[zr,zu,qz,ze,zB,zC,zg,zh,R.bind_ok,th1,th2,gW i Y,y]
   rw[ja L1];rfl
 .rintro U t ⟨x,rfl,rfl⟩
  rw[aD]
  simp only[zn,za,zl,qD,ze,zg,zh,R.bind_ok,zV,zU]
  exact ji (by unfold O.bnd;exact zR (λ d hd n=>by obtain⟨x,_,rfl⟩:=az.mp hd;exact hW x n) _)
noncomputable def gdD (m:Nat)(Ww:Nat->Nat->D):D:=.tp ((ai m).map λ i=>.tp ((ai m).map λ j=>Ww i j))
theorem bp4 (h:∀ i j n,(Ww i j).bnd n=true) n :(gdD m Ww).bnd n=true:=by
 unfold gdD D.bnd
 refine zR (λ d hd n=>?_) n
 obtain⟨i,_,rfl⟩:=az.mp hd
 unfold D.bnd
 refine zR (λ d hd n=>?_) n
 obtain⟨j,_,rfl⟩:=az.mp hd
 exact h i j n
theorem al0 [Has P ad7] n {m:Nat}(Z:m<=1000){d}{s}{Ww}(G:∀ i j n,(Ww i j).bnd n=true)
  (h:∀ i j,i<m->j<m->apV (aa1 P n) d [.int i,.int j] (s++[.J ((ai i).map λ i=>.tp ((ai m).map λ j=>Ww i j))])=.ok (Ww i j) (s++[.J ((ai i).map λ i=>.tp ((ai m).map λ j=>Ww i j))])) :
  (aa1 P (n+1)).call "grid" [.int m,d] s=.ok (gdD m Ww) s:=by
 have J:(aa1 P (n+1)).call "grid" [.int m,d] s=_:=zd ad7 rfl
 rw[J,show(bn some [D.int m,d]++aq ad7.vs none)=[some (D.int m),some d,none,none]from rfl]
 simp only[ad7]
 simp -implicitDefEqProofs only[za,zl,qd,ev_lst,zu,R.bind_ok,js,zb,zG,zy,aJ,zv,zn,ex_for,qv,ze,zg,zh]
 rw[zQ (by unfold Ww62;lia) (by unfold Ww62;lia)]
 simp only[R.bind_ok]
 rw[R.bind_assoc]
 refine jF (λ i U t=>∃(x:Option D),U=[some (D.int m),some d,some (.ref s.length),x]/\t=s++[.J ((ai i).map λ i=>.tp ((ai m).map λ j=>Ww i j))]) ⟨none,rfl,rfl⟩ (λ _ _ _ _ _=>rfl) ?_ ?_
 .rintro i dd U t hi ⟨x,rfl,rfl⟩
  have y:=(qP hi).1
  rw[(qP hi).2]
  generalize hS:s++[O.J ((ai i).map λ i=>D.tp ((ai m).map λ j=>Ww i j))]=S
  have e1:qX (λ s1=>chk S s1 []) (qC (aa1 P n) (.Y 0) (.callV 1 (.cons (.X 2) (.cons (.X 0) .nil)))) (jU 0 (m:Int)) (zX [some (D.int m),some d,some (.ref s.length),some (.int (i:Int))] [none,some 1,some 3]) S=.ok ((ai m).map λ j=>Ww i j) S:=by
   obtain⟨U1,s1,e1,Y⟩:=jo (ok:=λ s1=>chk S s1 []) (g:=qC (aa1 P n) (.Y 0) (.callV 1 (.cons (.X 2) (.cons (.X 0) .nil)))) (λ U u=>u=S/\∃ x,U=[x,some d,some (.int i)]) (λ j=>Ww i j) m (zX [some (D.int m),some d,some (.ref s.length),some (.int (i:Int))] [none,some 1,some 3]) S ⟨rfl,none,rfl⟩ (λ _ _ _=>rfl) (by
    rintro j hj U u ⟨rfl,x,rfl⟩
    refine⟨[some (.int j),some d,some (.int i)],u,?_,rfl,_,rfl⟩
    have hc:=h i j y hj
    rw[hS]at hc
    unfold qC
    simp -implicitDefEqProofs only[zb,zy]
    rw[qL (d:=d) _ rfl]
    simp -implicitDefEqProofs only[zr,zu,ze,zg,zh,R.bind_ok,hc])
   obtain⟨rfl,_⟩:=Y
   exact e1
  have e2:turn (aa1 P n) (.Y 3) (.cons (.ex (.me .append (.X 2) (.cons (.mk .tuple (.comp (.Y 0) (.rg (.X 0)) (.callV 1 (.cons (.X 2) (.cons (.X 0) .nil))) [none,some 1,some 3])) .nil))) .nil) (.int i) [some (D.int m),some d,some (.ref s.length),x] S=.ok (.next [some (D.int m),some d,some (.ref s.length),some (.int i)]) (s++[.J ((ai (i+1)).map λ i=>.tp ((ai m).map λ j=>Ww i j))]):=by
   unfold turn
   simp -implicitDefEqProofs only[zb,zG,zy,aJ,za,zl,ex_ex,qg,zr,zu,ev_mk,jG,qv,ze,zg,zh,R.bind_ok]
   rw[zQ (by unfold Ww62;lia) (by unfold Ww62;lia)]
   simp only[R.bind_ok]
   rw[if_pos (by rw[zP];unfold LIM;lia),e1,<-hS]
   simp -implicitDefEqProofs only[R.bind_ok,mk]
   rw[ja (by unfold LIM;simp;lia),cJ,cg]
   rfl
  rw[e2]
  show ∃ x,_
  exact⟨some (.int i),rfl,rfl⟩
 .rintro U t ⟨x,rfl,rfl⟩
  rw[zP]
  have h0:(s++[O.J ((ai m).map λ i=>D.tp ((ai m).map λ j=>Ww i j))])[s.length]?=some (.J ((ai m).map λ i=>D.tp ((ai m).map λ j=>Ww i j))):=by rw[am (ak _)];simp
  simp -implicitDefEqProofs only[zn,za,zl,qD,ev_mk,evL_seq,ze,zg,zh,R.bind_ok,aZ4,h0,mk,zV,zU]
  exact zW (d:=gdD m Ww) (bp4 G) (by nofun)
def InG (m:Nat)(f:Nat->Nat->Int):Prop:=∀ i j,i<m->j<m->0<=f i j/\f i j<=3
theorem aF1 (J:1<=m)(h:InG m f)(y:InG m g)(G:i<m)(hj:j<m):pr m f g i j<=x↔∃ l,l<m/\f i l<=x/\g l j<=x:=by
 by_cases hx:x<3
 .exact cn2 hx
 .refine⟨λ _=>⟨0,by lia,?_,?_⟩,λ _=>cw cz3 (by lia)⟩
  .have:=h i 0 G (by omega);lia
  .have:=y 0 j (by omega) hj;lia
theorem aU5 (h:1<=m)(y:InG m f)(G:InG m g):EqG m (pr m f g) (L2.aN9 m f g):=λ i j J hj=>L2.an7 λ x=>by
 rw[aF1 h y G J hj,L2.ao6 h]
theorem aQ2 :∀ k,shN f i j k<=x↔3<=x\/∃ l,l<k/\f i l<=x/\(if f l l=1 then 2 else f l l)<=x/\f l j<=x
 | 0=>by unfold shN;exact⟨.inl,λ h=>h.elim id λ⟨l,hl,_⟩=>absurd hl (fe _)⟩
 | k+1=>by
  have y:=aQ2 (f:=f) (i:=i) (j:=j) (x:=x) k
  have key:shN f i j (k+1)<=x↔shN f i j k<=x\/(f i k<=x/\(if f k k=1 then 2 else f k k)<=x/\f k j<=x):=by
   conv=>lhs;unfold shN
   simp only
   generalize (if f k k=1 then(2)else f k k)=z
   split<;>omega
  rw[key,y]
  constructor
  .rintro((h|⟨l,h1,h2⟩)|h)
   .exact .inl h
   .exact .inr ⟨l,by lia,h2⟩
   .exact .inr ⟨k,by lia,h⟩
  .rintro(h|⟨l,h1,h2⟩)
   .exact .inl (.inl h)
   .by_cases e:l=k
    .subst e;exact .inr h2
    .exact .inl (.inr ⟨l,by lia,h2⟩)
theorem bD8 (h:0<=y)(h3:y<=3):(if y=1 then 2 else y)=L2.rnd y:=by
 unfold L2.rnd
 repeat' split
 all_goals lia
theorem aA9 (Z:1<=m)(y:InG m f):EqG m (sh m f) (L2.sharp m f):=λ i j Y hj=>L2.an7 λ x=>by
 unfold sh
 rw[aQ2,L2.ag7 Z]
 constructor
 .rintro(h|⟨l,hl,G,J,h3⟩)
  .refine⟨0,by lia,?_,?_,?_⟩
   .have:=y i 0 Y (by omega);lia
   .have:=y 0 0 (by omega) (by omega)
    have:=(L2.bC4 this.1 this.2).2;lia
   .have:=y 0 j (by omega) hj;lia
  .exact⟨l,hl,G,by rw[<-bD8 (y l l hl hl).1 (y l l hl hl).2];exact J,h3⟩
 .rintro⟨l,hl,G,J,h3⟩
  exact .inr ⟨l,hl,G,by rw[bD8 (y l l hl hl).1 (y l l hl hl).2];exact J,h3⟩
theorem ci6 (J:1<=m)(h:InG m f)(y:InG m g):InG m (pr m f g):=λ i j G hj=>by
 rw[aU5 J h y i j G hj];exact L2.bv6 J h y G hj
theorem cg6 (G:1<=m)(h:InG m f):InG m (sh m f):=λ i j y hj=>by
 rw[aA9 G h i j y hj];exact L2.ax6 G h i j y hj
theorem am7 :∀ l (a:Int),l.foldl min a<=x↔∃ y∈a::l,y<=x
 | [],a=>by simp
 | b::l,a=>by
  rw[cx,am7 l]
  constructor
  .rintro⟨y,hy,hx⟩
   rcases aB.mp hy with rfl|hy
   .by_cases h:a<=b
    .exact⟨a,by simp,by lia⟩
    .exact⟨b,by simp,by lia⟩
   .exact⟨y,by simp[hy],hx⟩
  .rintro⟨y,hy,hx⟩
   simp only[aB]at hy
   rcases hy with rfl|rfl|hy
   .exact⟨min y b,by simp,by lia⟩
   .exact⟨min a y,by simp,by lia⟩
   .exact⟨y,by simp[hy],hx⟩
theorem bM9 (h:minI l=some m):m<=x↔∃ y∈l,y<=x:=by
 cases l with
 | nil=>cases h
 | cons a l=>rw[<-aw (h)];exact am7 l a
theorem aW8 {l:List Nat}:qJ (l.map λ k=>D.int (f k))=some (l.map f):=by
 induction l with
 | nil=>rfl
 | cons a l ih=>rw[aM];unfold qJ;rw[ih];rfl
theorem bC6 (h:1<=m){f:Nat->Int}(hv:∀ x,v<=x↔∃ k,k<m/\f k<=x) s :mk .min ((ai m).map λ k=>D.int (f k)) s=.ok (.int v) s:=by
 obtain⟨w,hw⟩:∃ w,minI ((ai m).map f)=some w:=by
  obtain⟨m',rfl⟩:∃ m',m=m'+1:=⟨m - 1,by lia⟩
  rw[eF]
  exact⟨_,rfl⟩
 show(match(qJ ((ai m).map λ k=>D.int (f k))).bind minI with|some m=>R.ok (D.int m) s|none=>.B)=_
 rw[aW8]
 show(match minI ((ai m).map f)with|some m=>R.ok (D.int m) s|none=>.B)=_
 rw[hw]
 have:w=v:=L2.an7 λ x=>by
  rw[bM9 hw,hv]
  constructor
  .rintro⟨y,hy,hx⟩
   obtain⟨k,hk,rfl⟩:=az.mp hy
   exact⟨k,bq.mp hk,hx⟩
  .rintro⟨k,hk,hx⟩
   exact⟨_,az.mpr ⟨k,bq.mpr hk,rfl⟩,hx⟩
 rw[this]
section
variable {P:Pr} [Has P ad7] [Has P aa5] [HasL P aa3]
theorem jw n (G:1<=m)(Y:m<=5)(hf:InG m f)(hg:InG m g)(hs:s.all O.ncl=true) :
  (aa1 P (n+3)).call "sign_product" [gd m f,gd m g] s=.ok (gd m (pr m f g)) s:=by
 have Z:(aa1 P (n+3)).call "sign_product" [gd m f,gd m g] s=_:=zd aa5 rfl
 have y:=al0 (P:=P) (n+1) (m:=m) (by lia) (d:=.clo "sign_product.0" [.int m,gd m f,gd m g]) (λ _ _ _=>rfl) (λ i j J hj=>by
  generalize hS:s++[O.J ((ai i).map λ i=>D.tp ((ai m).map λ j=>D.int (pr m f g i j)))]=S
  have nS:S.all O.ncl=true:=by
   rw[<-hS]
   refine qh hs (zF λ d hd=>?_)
   obtain⟨x,_,rfl⟩:=az.mp hd
   unfold D.ncl
   exact zF λ d hd=>by obtain⟨x,_,rfl⟩:=az.mp hd;rfl
  refine(jg aa3 rfl rfl (by rw[nS];simp[D.nclL,D.ncl,aw2])).trans ?_
  show(ev (aa1 P n) aa3.body [some (.int i),some (.int j),some (.int m),some (gd m f),some (gd m g)] S).bind (zJ S)=_
  simp -implicitDefEqProofs only[aa3,ev_mk,jG,qv,ze,zg,zh,R.bind_ok]
  rw[zQ (by unfold Ww62;lia) (by unfold Ww62;lia)]
  simp only[R.bind_ok]
  rw[if_pos (by rw[zP];unfold LIM;lia)]
  obtain⟨U1,s1,e1,h⟩:=jo (ok:=λ s1=>chk S s1 []) (g:=qC (aa1 P n) (.Y 0) (.bi .max2 (.cons (.ix (.ix (.X 1) (.X 2)) (.X 0)) (.cons (.ix (.ix (.X 3) (.X 0)) (.X 4)) .nil)))) (λ U u=>u=S/\∃ x,U=[x,some (gd m f),some (.int i),some (gd m g),some (.int j)]) (λ k=>.int (if g k j > f i k then g k j else f i k)) m (zX [some (.int i),some (.int j),some (.int m),some (gd m f),some (gd m g)] [none,some 3,some 0,some 4,some 1]) S ⟨rfl,none,rfl⟩ (λ _ _ _=>rfl) (by
   rintro k hk U u ⟨rfl,x,rfl⟩
   refine⟨[some (.int k),some (gd m f),some (.int i),some (gd m g),some (.int j)],u,?_,rfl,_,rfl⟩
   unfold qC
   simp -implicitDefEqProofs only[zb,zy,ev_bi,zr,zu,qz,ze,zg,zh,R.bind_ok,at7 J,at7 hk,jj hk,jj hj,bz1])
  obtain⟨rfl,_⟩:=h
  rw[e1]
  simp only[R.bind_ok]
  rw[bC6 (v:=pr m f g i j) G (λ x=>by
   rw[aF1 G hf hg J hj]
   constructor
   .rintro⟨l,hl,h,h2⟩;exact⟨l,hl,by split<;>omega⟩
   .rintro⟨l,hl,h⟩;exact⟨l,hl,by split at h<;>omega,by split at h<;>omega⟩)]
  exact zL)
 rw[Z,show(bn some [gd m f,gd m g]++aq aa5.vs none)=[some (gd m f),some (gd m g),none]from rfl]
 simp -implicitDefEqProofs only[aa5,za,zl,qd,ev_bi,zr,zu,ze,zg,zh,R.bind_ok,aS9,zb,zG,zy,aJ,zv,zn,qD,jb,zN]
 rw[qt (cs:=[.int m,gd m f,gd m g]) _ rfl]
 simp -implicitDefEqProofs only[zE,R.bind_ok,y]
 have e:gdD m (λ i j=>.int (pr m f g i j))=gd m (pr m f g):=rfl
 rw[e,if_pos (by rw[aw2,hs];rfl)]
 simp -implicitDefEqProofs only[R.bind_ok,zV,zU]
 exact zt jC (by nofun)
end
def bT2 (m:Nat)(f:Nat->Nat->Int):Prop:=EqG m (pr m f f) f
section
variable {P:Pr} [Has P ad7] [Has P aa5] [HasL P aa3] [Has P ab6]
theorem am2 n (Y:1<=m)(y:m<=5)(G:InG m f)(hs:s.all O.ncl=true) :
  ∃ b,(aa1 P (n+4)).call "is_steady" [gd m f] s=.ok (.T b) s/\(b=true↔bT2 m f):=by
 have J:(aa1 P (n+4)).call "is_steady" [gd m f] s=_:=zd ab6 rfl
 obtain⟨b,e,h⟩:=bZ5 (s:=s) 
 refine⟨b,?_,h⟩
 rw[J,show(bn some [gd m f]++aq ab6.vs none)=[some (gd m f)]from rfl]
 simp only[ab6,za,qD,zO,qb,zN,zE,ze,zg,R.bind_ok,jw n Y y G G hs,e,zU]
 exact qa
variable [Has P ac7] [Has P ac5] [HasL P ab0] [HasC P "FREE" (.int 0)] [HasC P "UNBOUND" (.int 2)] [HasC P "NONE" (.int 3)]
theorem aL5 {x}{d}[HasC P x d] U s :ev (aa1 P n) (.gl x) U s=.ok d s:=by
 show(match(aa1 P n).con x with|some d=>R.ok d s|none=>.B)=_
 rw[ay0 (v:=d)]
theorem aN7  n  x  s :(aa1 P (n+1)).call "round_of" [.int x] s=.ok (.int (L2.rnd x)) s:=by
 have y:(aa1 P (n+1)).call "round_of" [.int x] s=_:=zd ac7 rfl
 rw[y,show(bn some [D.int x]++aq ac7.vs none)=[some (D.int x)]from rfl]
 have g1:=λ U s=>aL5 (P:=P) (n:=n) (x := "FREE") (d:=.int 0) U s
 have h:=λ U s=>aL5 (P:=P) (n:=n) (x := "NONE") (d:=.int 3) U s
 have G:=λ U s=>aL5 (P:=P) (n:=n) (x := "UNBOUND") (d:=.int 2) U s
 by_cases h0:x=0
 .have e:L2.rnd x=x:=by unfold L2.rnd;rw[if_pos (.inl h0)]
  simp only[ac7,za,qe,ev_or,zO,ze,zg,R.bind_ok,g1,eq_int,h0,zU]
  rw[<-h0,e];exact zL
 .by_cases h3:x=3
  .have e:L2.rnd x=x:=by unfold L2.rnd;rw[if_pos (.inr h3)]
   simp only[ac7,za,qe,ev_or,zO,g1,h,zU]
   rw[<-h3,e]
   simp only[h3,zU]
   exact zL
  .have e:L2.rnd x=2:=by unfold L2.rnd;rw[if_neg (by lia)]
   simp only[ac7,za,zl,qe,ev_or,zO,ze,zg,R.bind_ok,g1,h,G,eq_int,h0,h3,decide_false,aO,if_false,zH,zn,qD,zV,zU]
   rw[e];exact zL
theorem aH6 n (G:1<=m)(J:m<=5)(hf:InG m f)(Y:bT2 m f)(hs:s.all O.ncl=true) :
  (aa1 P (n+5)).call "sharpened" [gd m f] s=.ok (gd m (sh m f)) s:=by
 have e0:(aa1 P (n+5)).call "sharpened" [gd m f] s=_:=zd ac5 rfl
 obtain⟨b,eb,hb⟩:=am2 (P:=P) n G J hf hs
 have a0:=hb.mpr Y
 subst a0
 have nL:(O.J (row m λ k=>L2.rnd (f k k))).ncl=true:=bl2
 have h:=qh hs nL
 have gL:∀ t:Sto,(s++[O.J (row m λ k=>L2.rnd (f k k))]++t)[s.length]?=some (.J (row m λ k=>L2.rnd (f k k))):=λ t=>by rw[cG,am (ak _)];simp
 have Z:=al0 (P:=P) (n+3) (m:=m) (by omega) (d:=.clo "sharpened.0" [.int m,gd m f,.ref s.length]) (λ _ _ _=>rfl) (λ i j hi hj=>by
  have g0:=gL [O.J ((ai i).map λ i=>D.tp ((ai m).map λ j=>D.int (sh m f i j)))]
  generalize hS:s++[O.J (row m λ k=>L2.rnd (f k k))]++[O.J ((ai i).map λ i=>D.tp ((ai m).map λ j=>D.int (sh m f i j)))]=S at g0
  have nS:S.all O.ncl=true:=by
   rw[<-hS]
   refine qh h (zF λ d hd=>?_)
   obtain⟨x,_,rfl⟩:=az.mp hd
   unfold D.ncl
   exact zF λ d hd=>by obtain⟨x,_,rfl⟩:=az.mp hd;rfl
  refine(jg ab0 (n:=n+2) rfl rfl (by rw[nS];simp[D.nclL,D.ncl,aw2])).trans ?_
  show(ev (aa1 P (n+2)) ab0.body [some (.int i),some (.int j),some (.int m),some (gd m f),some (.ref s.length)] S).bind (zJ S)=_
  simp -implicitDefEqProofs only[ab0,ev_mk,jG,qv,ze,zg,zh,R.bind_ok]
  rw[zQ (by unfold Ww62;omega) (by unfold Ww62;omega)]
  simp only[R.bind_ok]
  rw[if_pos (by rw[zP];unfold LIM;omega)]
  have e1:qX (λ s1=>chk S s1 []) (qC (aa1 P (n+2)) (.Y 0) (.bi .max3 (.cons (.ix (.ix (.X 1) (.X 2)) (.X 0)) (.cons (.ix (.X 3) (.X 0)) (.cons (.ix (.ix (.X 1) (.X 0)) (.X 4)) .nil))))) (jU 0 (m:Int)) (zX [some (.int i),some (.int j),some (.int m),some (gd m f),some (.ref s.length)] [none,some 3,some 0,some 4,some 1]) S=.ok ((ai m).map λ k=>.int (max (max (f i k) (L2.rnd (f k k))) (f k j))) S:=by
   obtain⟨U1,s1,e1,y⟩:=jo (ok:=λ s1=>chk S s1 []) (g:=qC (aa1 P (n+2)) (.Y 0) (.bi .max3 (.cons (.ix (.ix (.X 1) (.X 2)) (.X 0)) (.cons (.ix (.X 3) (.X 0)) (.cons (.ix (.ix (.X 1) (.X 0)) (.X 4)) .nil))))) (λ U u=>u=S/\∃ x,U=[x,some (gd m f),some (.int i),some (.ref s.length),some (.int j)]) (λ k=>.int (max (max (f i k) (L2.rnd (f k k))) (f k j))) m (zX [some (.int i),some (.int j),some (.int m),some (gd m f),some (.ref s.length)] [none,some 3,some 0,some 4,some 1]) S ⟨rfl,none,rfl⟩ (λ _ _ _=>rfl) (by
    rintro k hk U u ⟨rfl,x,rfl⟩
    refine⟨[some (.int k),some (gd m f),some (.int i),some (.ref s.length),some (.int j)],u,?_,rfl,_,rfl⟩
    unfold qC
    simp -implicitDefEqProofs only[zb,zy,ev_bi,zr,zu,qz,ze,zg,zh,R.bind_ok,at7 hi,at7 hk,jj hk,jj hj,qk g0 (al4 hk),az8])
   obtain⟨rfl,_⟩:=y
   exact e1
  rw[e1]
  simp only[R.bind_ok]
  rw[bC6 (v:=sh m f i j) G (λ x=>by
   rw[aA9 G hf i j hi hj,L2.ag7 G]
   constructor
   .rintro⟨l,hl,y,h2,h3⟩;exact⟨l,hl,by lia⟩
   .rintro⟨l,hl,y⟩;exact⟨l,hl,by omega,by omega,by lia⟩)]
  exact zL)
 have er:qX (λ s1=>chk s s1 []) (qC (aa1 P (n+4)) (.Y 0) (.call "round_of" (.ex (.ix (.ix (.X 1) (.X 0)) (.X 0)) .nil))) (jU 0 (m:Int)) (zX [some (gd m f),some (.int m),none] [none,some 0]) s=.ok (row m λ k=>L2.rnd (f k k)) s:=by
  obtain⟨U1,s1,e1,y⟩:=jo (ok:=λ s1=>chk s s1 []) (g:=qC (aa1 P (n+4)) (.Y 0) (.call "round_of" (.ex (.ix (.ix (.X 1) (.X 0)) (.X 0)) .nil))) (λ U u=>u=s/\∃ x,U=[x,some (gd m f)]) (λ k=>.int (L2.rnd (f k k))) m (zX [some (gd m f),some (.int m),none] [none,some 0]) s ⟨rfl,none,rfl⟩ (λ _ _ _=>rfl) (by
   rintro k hk U u ⟨rfl,x,rfl⟩
   refine⟨[some (.int k),some (gd m f)],u,?_,rfl,_,rfl⟩
   unfold qC
   simp -implicitDefEqProofs only[zb,zy,qb,zN,zE,qz,ze,zg,zh,R.bind_ok,at7 hk,jj hk,aN7 (n+3)])
  obtain⟨rfl,_⟩:=y
  exact e1
 rw[e0,show(bn some [gd m f]++aq ac5.vs none)=[some (gd m f),none,none]from rfl]
 simp -implicitDefEqProofs only[ac5,za,zl,qe,ev_not,qb,zN,zE,ze,zg,zh,R.bind_ok,eb,zH,li,if_false,aO,zn,qd,ev_bi,zr,zu,aS9,zb,zG,zy,aJ,zv,ev_mk,jG,qv]
 rw[zQ (by unfold Ww62;lia) (by unfold Ww62;lia)]
 simp only[R.bind_ok]
 rw[if_pos (by rw[zP];unfold LIM;lia),er]
 simp -implicitDefEqProofs only[R.bind_ok,mk,js,zv,zn,zb,zG,zy,aJ,za,zl,qD,jb,zN,ze,zg,zh]
 rw[qt (cs:=[.int m,gd m f,.ref s.length]) _ rfl]
 simp -implicitDefEqProofs only[zE,R.bind_ok,Z]
 have e:gdD m (λ i j=>.int (sh m f i j))=gd m (sh m f):=rfl
 rw[e,if_pos (by rw[aw2,h];rfl)]
 simp -implicitDefEqProofs only[R.bind_ok,zV,zU]
 exact zW jC (by nofun)
end
theorem EqG.pr (G:EqG m f h)(J:EqG m g g'):EqG m (DV.pr m f g) (DV.pr m h g'):=λ i j y hj=>by
 have key:∀ k,k<=m->prN f g i j k=prN h g' i j k:=λ k=>by
  induction k with
  | zero=>intro _;rfl
  | succ k ih=>intro hk;unfold prN;rw[G i k y (by lia),J k j (by omega) hj,ih (by lia)]
 exact key m (ak _)
section
variable {P:Pr} [Has P ad7] [Has P aa5] [HasL P aa3] [Has P ab6] [Has P zT]
end
section
variable {P:Pr} [Has P af5]
variable [Has P aM2]
end
section
variable {m:Nat} (hm:1<=m) {g:Nat->Nat->Int} (hg:InG m g) (hst:bT2 m g)
include hm hg hst
theorem bm9:L2.Std m g:=λ i j h hj=>by rw[<-aU5 hm hg hg i j h hj];exact hst i j h hj
theorem bP5 (h:i<m)(hj:j<m):g i j<=sh m g i j/\(sh m g i j=0↔g i j=0)/\(sh m g i j=3↔g i j=3):=by
 rw[aA9 hm hg i j h hj]
 exact⟨L2.ay9 hm (bm9 hm hg hst) h hj,L2.aX5 hm hg (bm9 hm hg hst) h hj,L2.aM3 hm hg (bm9 hm hg hst) h hj⟩
end
theorem aQ0 {l:List Nat}:aC5 (l.map f) (l.map g)=l.map λ i=>.tp [f i,g i]:=by
 induction l with
 | nil=>rfl
 | cons a l ih=>rw[aM,aM,aM];unfold aC5;rw[ih]
theorem bz9 :qj .ne (.T a) (.T b) s=.ok (.T (!(a==b))) s:=rfl
theorem bS1 :aj0 (gd m f) s=.ok ⟨(ai m).map λ i=>.tp (row m (f i)),[]⟩ s:=rfl
theorem bx2 :aj0 (.tp (row m f)) s=.ok ⟨(ai m).map λ j=>.int (f j),[]⟩ s:=rfl
theorem aG5 {d:D}(h:((ai m).map f)[j]?=some d):j<m/\d=f j:=by
 have hj:=(ac.mp h).1
 simp at hj
 rw[av,be hj]at h
 exact⟨hj,(aw h).symm⟩
section
variable {P:Pr} [Has P af5] [Has P ad7] [Has P aa5] [HasL P aa3] [Has P ab6] [Has P ac7] [Has P ac5] [HasL P ab0] [HasC P "FREE" (.int 0)] [HasC P "UNBOUND" (.int 2)] [HasC P "NONE" (.int 3)] [Has P zT] [Has P aJ4] [Has P bL0]
variable [Has P ai8] [Has P aM2] [Has P bi2]
end
theorem aJ7 {x}{d}[HasC P x d] U s :ev (aa1 P n) (.gl x) U s=.ok d s:=by
 show(match(aa1 P n).con x with|some d=>R.ok d s|none=>.B)=_
 rw[ay0 (v:=d)]
noncomputable def un (i j:Nat):Int:=if i=j then 0 else 3
def qw (m:Nat)(f:Nat->Nat->Int):Nat->Nat->Nat->Int
 | 0=>un
 | n+1=>pr m (qw m f n) f
section
variable {m:Nat} (hm:1<=m)
theorem ct0:InG m un:=λ i j _ _=>by unfold un;split<;>decide
include hm
theorem cr5 (G:InG m f):EqG m (pr m un f) f:=λ i j y hj=>L2.an7 λ x=>by
 rw[aF1 hm ct0 G y hj]
 constructor
 .rintro⟨l,hl,J,Y⟩
  unfold un at J
  split at J
  .rename_i e;subst e;exact Y
  .have:=(G i j y hj).2;lia
 .intro h
  exact⟨i,y,by unfold un;rw[if_pos rfl];have:=(G i j y hj).1;lia,h⟩
end
section
variable {P:Pr} [Has P ad7] [Has P af8] [HasL P af0] [HasC P "FREE" (.int 0)] [HasC P "NONE" (.int 3)]
variable [Has P ae0] [Has P aa5] [HasL P aa3]
variable [Has P ag2] [HasC P "sign_product" (.fn "sign_product")]
end
section
variable {P:Pr} [Has P ab2] [Has P aE9] [Has P bc5]
end
section
variable {P:Pr} [Has P ai8] [Has P af5] [Has P aM2] [Has P bk3] [Has P ab2] [Has P aE9] [Has P bc5] [Has P bJ0] [Has P bo0] [Has P ad7] [Has P ae0] [Has P af8] [HasL P af0] [Has P aa5] [HasL P aa3] [Has P ag2] [HasC P "FREE" (.int 0)] [HasC P "NONE" (.int 3)] [HasC P "sign_product" (.fn "sign_product")]
end
noncomputable def ah6 (S:Int->Prop):Option Int->Prop
 | none=>∀ c,¬ S c
 | some c=>S c/\∀ c',S c'->c<=c'
theorem ah6.eq {S }(h:ah6 S o)(h':ah6 G y)(e:∀ c,S c↔G c):o=y:=by
 cases o with
 | none =>
  cases y with
  | none=>rfl
  | some c=>exact absurd ((e c).mpr h'.1) (h c)
 | some c =>
  cases y with
  | none=>exact absurd ((e c).mp h.1) (h' c)
  | some c' =>
   have J:=h.2 c' ((e c').mpr h'.1)
   have Y:=h'.2 c ((e c).mp h.1)
   rw[show c=c' by lia]
theorem ah6.congr {S }(h:ah6 S o)(e:∀ c,S c↔G c):ah6 G o:=by
 cases o with
 | none=>exact λ c hc=>h c ((e c).mpr hc)
 | some c=>exact⟨(e c).mp h.1,λ y hc=>h.2 y ((e y).mpr hc)⟩
noncomputable def minO:Option Int->Option Int->Option Int
 | none,x=>x
 | some a,none=>some a
 | some a,some b=>if b<a then some b else some a
noncomputable def Wk (ds:List Dr):List Nat->Nat->Nat->Int->Prop
 | [],p,q,c=>p=q/\c=0
 | x::w,p,q,c=>∃ d∈ds,d.a=p/\d.l=x/\∃ c',Wk ds w d.b q c'/\c=(d.t)+c'
noncomputable def Dr.turn (x:Dr):Dr:=⟨x.b,x.l,x.a,x.t⟩
def Mc.Wk (m:Mc)(w:List Nat)(c:Int):Prop:=∃ p∈m.bg,∃ q∈m.en,DV.Wk m.ds w p q c
def Mc.turn (m:Mc):Mc:=⟨m.L,m.R,m.en,m.bg,m.ds.map Dr.turn⟩
def aW7 (row:List (Option Int)):List D:=row.map qE
theorem bt8 row :(aW7 row).length=row.length:=aD ..
theorem aw1:∀ l:List Int,qJ (l.map D.int)=some l
 | []=>rfl
 | a::l=>by rw[aM];unfold qJ;rw[aw1 l];rfl
theorem aH1:∀(l:List Int) a ,(l.foldl min a=a\/l.foldl min a∈l)/\l.foldl min a<=a/\∀ y∈l,l.foldl min a<=y
 | [],a=>⟨.inl rfl,cy _,λ y hy=>by cases hy⟩
 | b::l,a=>by
  obtain⟨G,J,h3⟩:=aH1 l (min a b)
  rw[cx]
  refine⟨?_,by omega,λ y hy=>?_⟩
  .rcases G with h|h
   .rw[h]
    rcases lB a b with z|z
    .left;omega
    .right;rw[show min a b=b by omega];exact aG ..
   .exact .inr (aE _ h)
  .rcases aB.mp hy with z|z
   .rw[z];omega
   .exact h3 y z
theorem aY8 l :ah6 (λ c=>c∈l) (minI l):=by
 cases l with
 | nil=>exact λ c hc=>by cases hc
 | cons a l =>
  obtain⟨G,J,h3⟩:=aH1 l a
  refine⟨?_,λ y hy=>?_⟩
  .rcases G with h|h
   .rw[h];exact aG ..
   .exact aE _ h
  .rcases aB.mp hy with z|z
   .rw[z];exact J
   .exact h3 y z
theorem bO2 l s :mkD .min (l.map D.int) .N s=.ok (qE (minI l)) s:=by
 unfold mkD
 simp only[aw1]
 cases minI l<;>rfl
theorem an1 {α β:Type}{f g:α->Option β}:∀ {l:List α},(∀ x∈l,f x=g x)->l.filterMap f=l.filterMap g
 | [],_=>rfl
 | a::l,h=>by rw[bC,bC,h a (aG ..),an1 λ x hx=>h x (aE _ hx)]
end DV
end
local macro_rules | `(tactic| tbr_iter [$xs,*]) => `(tactic| simp -implicitDefEqProofs only [DV.za, DV.zl, DV.qd, DV.qe, DV.qD, DV.ex_ex, DV.ex_for, DV.ex_whl, DV.ex_setIx, DV.ex_und, DV.ze, DV.zB, DV.qI, DV.ev_not, DV.zO, DV.ev_and, DV.ev_or, DV.ev_ite, DV.ev_tup, DV.ev_lst, DV.qz, DV.qb, DV.ev_bi, DV.ev_mk, DV.ev_mkD, DV.qg, DV.ev_isN, DV.ev_notN, DV.zu, DV.zr, DV.zE, DV.zN, DV.evI_seq, DV.qv, DV.evL_seq, DV.Cn_bl, DV.zC, DV.Cn_non, DV.jk, DV.R.bind_ok, DV.zb, DV.bindT_tup, DV.setVs_nil, DV.setVs_cons, DV.zG, DV.zy, DV.unsetV_s, DV.unsetV_0, DV.zg, DV.zh, Option.map_some, Option.bind_some, DV.zv, DV.zn, DV.zV, DV.nxt_cont, DV.zU, DV.fin_next, DV.add_int, DV.sub_int, DV.lt_int, DV.le_int, DV.gt_int, DV.ge_int, DV.eq_int, DV.ne_int, DV.js, DV.zH, if_true, if_false, Bool.false_eq_true, decide_true, decide_false, Bool.not_true, Bool.not_false, $[$xs:term],*])
noncomputable section
namespace DV
def gdO (m:Nat)(f:Nat->Nat->Option Int):D:=gdD m λ i j=>qE (f i j)
theorem ao1 o :(qE o).ncl=true:=by cases o<;>rfl
theorem aq4 n :(gdO m f).bnd n=true:=bp4 (λ i j n=>jq _ n) n
theorem jS :(gdO m f).ncl=true:=by
 unfold gdO gdD D.ncl
 refine zF λ d hd=>?_
 obtain⟨i,_,rfl⟩:=az.mp hd
 unfold D.ncl
 refine zF λ d hd=>?_
 obtain⟨j,_,rfl⟩:=az.mp hd
 exact ao1 _
def rowO (m:Nat)(f:Nat->Option Int):List D:=(ai m).map λ j=>qE (f j)
theorem bx1 (h:j<m):(rowO m f)[j]?=some (qE (f j)):=by unfold rowO;rw[av,be h];rfl
theorem bb9 (h:i<m) s :ixM (gdO m f) (.int (i)) s=.ok (.tp (rowO m (f i))) s:=ix_tup (by rw[av,be h];rfl)
theorem aN4 (h:j<m) s :ixM (.tp (rowO m f)) (.int (j)) s=.ok (qE (f j)) s:=ix_tup (bx1 h)
theorem aC2 :bi .len [gdO m f] s=.ok (.int m) s:=by unfold gdO gdD;rw[ay8];simp
theorem bp1 (h:∀ i j,i<m->j<m->f i j=g i j):gdO m f=gdO m g:=by
 unfold gdO gdD
 congr 1
 refine bZ λ i y=>?_
 congr 1
 exact bZ λ j hj=>by show qE (f i j)=qE (g i j);rw[h i j (bq.mp y) (bq.mp hj)]
noncomputable def addO:Option Int->Option Int->Option Int
 | some a,some b=>some (a+b)
 | _,_=>none
theorem ap8:∀ l:List (Option Int),(aW7 l).filterMap (λ d=>if d=D.N then none else some d)=(l.filterMap id).map D.int
 | []=>rfl
 | o::l=>by
  have h:=ap8 l
  unfold aW7 at h ⊢
  cases o with
  | none=>rw[aM,bC,bC];simpa using h
  | some i=>rw[aM,bC,bC];simpa using h
theorem aR9 [Has P ad5] n {s}{q}{l}(hq:s[q]?=some (.J (aW7 l)))(hl:l.length<=1000):(aa1 P (n+1)).call "least" [.ref q] s=.ok (qE (minI (l.filterMap id))) s:=by
 have y:(aa1 P (n+1)).call "least" [.ref q] s=_:=zd ad5 rfl
 rw[y,show(bn some [D.ref q]++aq ad5.vs none)=[some (D.ref q)]from rfl]
 have G:av4 (.ref q) s=.ok ⟨aW7 l,[q]⟩ s:=by simp only[av4,hq]
 obtain⟨U1,s1,e1,rfl,_⟩:=ak4 (ok:=λ s1=>chk s s1 [q]) (g:=aG3 (aa1 P n) (.Y 0) (.notN (.X 0)) (.X 0)) (λ U u=>u=s/\∃ x,U=[x]) (λ d=>if d=D.N then none else some d) (aW7 l) [none] s ⟨rfl,none,rfl⟩ (λ _ u h=>by obtain⟨rfl,_⟩:=h;simp[chk]) (by
  rintro d hd U u ⟨rfl,x,rfl⟩
  refine⟨[some d],u,?_,rfl,_,rfl⟩
  unfold aG3
  by_cases hn:d=.N
  .tbr_iter [hn]
  .tbr_iter [hn])
 rw[ap8]at e1
 simp only[ad5]
 tbr_iter [jI,G,if_pos (show(aW7 l).length<=LIM by rw[bt8];unfold LIM;lia),show zX [some (D.ref q)] [none]=[none]from rfl,e1,bO2]
 exact aY1
theorem bw1 [Has P ad9] n  a b  s :(aa1 P (n+1)).call "added" [qE a,qE b] s=.ok (qE (addO a b)) s:=by
 have h:(aa1 P (n+1)).call "added" [qE a,qE b] s=_:=zd ad9 rfl
 rw[h,show(bn some [qE a,qE b]++aq ad9.vs none)=[some (qE a),some (qE b)]from rfl]
 simp only[ad9]
 cases a with
 | none=>tbr_iter [aj1,eq_self _];exact ar5
 | some a=>cases b with
  | none=>tbr_iter [aj1,jE,eq_self _,show(D.int a=D.N)=False from eq_false (by nofun)];exact ar5
  | some b=>tbr_iter [jE,show(D.int a=D.N)=False from eq_false (by nofun),show(D.int b=D.N)=False from eq_false (by nofun)];exact zL
def prO (m:Nat)(f g:Nat->Nat->Option Int)(i j:Nat):Option Int:=minI (((ai m).map λ k=>addO (f i k) (g k j)).filterMap id)
theorem ao8 {s:Sto}(hs:s.all O.ncl=true){Ww:Nat->Nat->D}(h:∀ i j,(Ww i j).ncl=true):(s++[O.J ((ai i).map λ i=>D.tp ((ai m).map λ j=>Ww i j))]).all O.ncl=true:=by
 refine qh hs (zF λ d hd=>?_)
 obtain⟨x,_,rfl⟩:=az.mp hd
 unfold D.ncl
 exact zF λ d hd=>by obtain⟨x,_,rfl⟩:=az.mp hd;exact h _ _
section
variable {P:Pr} [Has P ad7]
theorem aT4 [Has P ae1][HasL P ab1] n {m:Nat}(Z:m<=5){s}(hs:s.all O.ncl=true) :
  (aa1 P (n+3)).call "plain" [.int m] s=.ok (gdO m λ i j=>if i=j then some 0 else none) s:=by
 have G:(aa1 P (n+3)).call "plain" [.int m] s=_:=zd ae1 rfl
 have y:=al0 (P:=P) (n+1) (m:=m) (by lia) (d:=.clo "plain.0" []) (λ _ _ n=>jq _ n) (λ i j Y hj=>by
  generalize hS:s++[O.J ((ai i).map λ i=>D.tp ((ai m).map λ j=>qE (if i=j then some 0 else none)))]=S
  have J:S.all O.ncl=true:=by rw[<-hS];exact ao8 hs (λ _ _=>ao1 _)
  refine(jg ab1 rfl rfl (by rw[J];rfl)).trans ?_
  show(ev (aa1 P n) ab1.body [some (.int i),some (.int j)] S).bind (zJ S)=_
  simp only[ab1]
  by_cases h:i=j
  .tbr_iter [show((i)=(j:Int))=True from eq_true (by lia),if_pos h,jE];exact zL
  .tbr_iter [show((i)=(j:Int))=False from eq_false (by lia),if_neg h,aj1];exact ar5)
 rw[G,show(bn some [D.int m]++aq ae1.vs none)=[some (D.int m)]from rfl]
 simp only[ae1]
 tbr_iter [jb]
 rw[qt _ rfl]
 have e:gdD m (λ i j=>qE (if i=j then some 0 else none))=gdO m (λ i j=>if i=j then some 0 else none):=rfl
 tbr_iter [y,e,if_pos (show((gdO m λ i j=>if i=j then some 0 else none).ncl&&s.all O.ncl)=true by rw[jS,hs];rfl)]
 exact zt aq4 (by nofun)
theorem jl [Has P ad5][Has P ad9][Has P ab4][HasL P aa6] n {m}(hm:m<=5) f g {s}(hs:s.all O.ncl=true) :
  (aa1 P (n+4)).call "product" [gdO m f,gdO m g] s=.ok (gdO m (prO m f g)) s:=by
 have G:(aa1 P (n+4)).call "product" [gdO m f,gdO m g] s=_:=zd ab4 rfl
 have hg:=al0 (P:=P) (n+2) (m:=m) (by omega) (d:=.clo "product.0" [.int m,gdO m f,gdO m g]) (λ _ _ n=>jq _ n) (λ i j Z hj=>by
  generalize hS:s++[O.J ((ai i).map λ i=>D.tp ((ai m).map λ j=>qE (prO m f g i j)))]=S
  have J:S.all O.ncl=true:=by rw[<-hS];exact ao8 hs (λ _ _=>ao1 _)
  refine(jg aa6 rfl rfl (by rw[J];simp[D.nclL,D.ncl,jS])).trans ?_
  show(ev (aa1 P (n+1)) aa6.body [some (.int i),some (.int j),some (.int m),some (gdO m f),some (gdO m g)] S).bind (zJ S)=_
  obtain⟨U1,s1,e1,rfl,_⟩:=jo (ok:=λ s1=>chk S s1 []) (g:=qC (aa1 P (n+1)) (.Y 0) (.call "added" (.ex (.ix (.ix (.X 1) (.X 2)) (.X 0)) (.ex (.ix (.ix (.X 3) (.X 0)) (.X 4)) .nil)))) (λ U u=>u=S/\∃ x,U=[x,some (gdO m f),some (.int i),some (gdO m g),some (.int j)]) (λ k=>qE (addO (f i k) (g k j))) m [none,some (gdO m f),some (.int i),some (gdO m g),some (.int j)] S ⟨rfl,none,rfl⟩ (λ _ _ _=>rfl) (by
   rintro k hk U u ⟨rfl,x,rfl⟩
   refine⟨[some (.int k),some (gdO m f),some (.int i),some (gdO m g),some (.int j)],u,?_,rfl,_,rfl⟩
   unfold qC
   tbr_iter [bb9 Z,bb9 hk,aN4 hk,aN4 hj,bw1 n])
  have Y:((ai m).map λ k=>qE (addO (f i k) (g k j)))=aW7 ((ai m).map λ k=>addO (f i k) (g k j)):=by unfold aW7;rw[dh];rfl
  rw[Y]at e1
  have h:∀ q (s:Sto),mk .list q s=.ok (.ref s.length) (s++[.J q]):=λ _ _=>rfl
  have y:=aR9 (P:=P) n (s:=s1++[O.J (aW7 ((ai m).map λ k=>addO (f i k) (g k j)))]) (q:=s1.length) (l:=(ai m).map λ k=>addO (f i k) (g k j)) (by rw[am (ak _)];simp) (by simp;lia)
  simp only[aa6]
  tbr_iter [jG,zQ (s:=s1) (i:=(m:Int)) (by unfold Ww62;lia) (by unfold Ww62;lia),if_pos (show(jU 0 (m:Int)).length<=LIM by rw[zP];unfold LIM;lia),show zX [some (D.int (i:Int)),some (D.int (j:Int)),some (D.int (m:Int)),some (gdO m f),some (gdO m g)] [none,some 3,some 0,some 4,some 1]=[none,some (gdO m f),some (.int i),some (gdO m g),some (.int j)]from rfl,e1,h,y]
  exact zW (jq _) (ay2 _))
 rw[G,show(bn some [gdO m f,gdO m g]++aq ab4.vs none)=[some (gdO m f),some (gdO m g),none]from rfl]
 simp only[ab4]
 tbr_iter [aC2,jb]
 rw[qt (cs:=[.int m,gdO m f,gdO m g]) _ rfl]
 have e:gdD m (λ i j=>qE (prO m f g i j))=gdO m (prO m f g):=rfl
 tbr_iter [hg,e,if_pos (show((gdO m (prO m f g)).ncl&&s.all O.ncl)=true by rw[jS,hs];rfl)]
 exact zt aq4 (by nofun)
end
theorem ah6.low {S}(J:∀ x∈l,S x)(G:∀ c,S c->∃ x∈l,x<=c):ah6 S (minI l):=by
 have h:=aY8 l
 cases e:minI l with
 | none =>
  rw[e]at h
  exact λ c hc=>by obtain⟨x,hx,_⟩:=G c hc;exact h x hx
 | some i =>
  rw[e]at h
  refine⟨J i h.1,λ c hc=>?_⟩
  obtain⟨x,hx,y⟩:=G c hc
  exact cw (h.2 x hx) y
theorem bj3 {A B:Nat->Nat->Int->Prop}(G:∀ i j,i<m->j<m->ah6 (A i j) (f i j))(J:∀ i j,i<m->j<m->ah6 (B i j) (g i j))(Y:i<m)(hj:j<m) :
  ah6 (λ c=>∃ k,k<m/\∃ a b,A i k a/\B k j b/\c=a+b) (prO m f g i j):=by
 unfold prO
 refine ah6.low (λ x hx=>?_) λ c hc=>?_
 .obtain⟨o,ho,e⟩:=cB.mp hx
  obtain⟨k,hk,rfl⟩:=az.mp ho
  have hk:=bq.mp hk
  have h:=G i k Y hk
  have y:=J k j hk hj
  cases e1:f i k with
  | none=>rw[e1]at e;cases e
  | some a =>
   cases e2:g k j with
   | none=>rw[e1,e2]at e;cases e
   | some b =>
    rw[e1]at h;rw[e2]at y
    rw[e1,e2]at e
    cases e
    exact⟨k,hk,a,b,h.1,y.1,rfl⟩
 .obtain⟨k,hk,a,b,ha,hb,rfl⟩:=hc
  have h:=G i k Y hk
  have y:=J k j hk hj
  cases e1:f i k with
  | none=>rw[e1]at h;exact absurd ha (h a)
  | some a' =>
   cases e2:g k j with
   | none=>rw[e2]at y;exact absurd hb (y b)
   | some b' =>
    rw[e1]at h;rw[e2]at y
    refine⟨a'+b',cB.mpr ⟨some (a'+b'),az.mpr ⟨k,bq.mpr hk,by rw[e1,e2];rfl⟩,rfl⟩,?_⟩
    have:=h.2 a ha
    have:=y.2 b hb
    lia
def am6 (m:Mc)(w:List Nat)(f:Nat->Nat->Option Int):Prop:=∀ i j,i<m.R->j<m.R->ah6 (Wk m.ds w i j) (f i j)
theorem am6.eq (h:am6 m w f)(h':am6 m w g):gdO m.R f=gdO m.R g:=bp1 λ i j y hj=>(h i j y hj).eq (h' i j y hj) λ _=>Iff.rfl
theorem ah0 :∀ {v w} {p q} {c},Wk y (v++w) p q c↔∃ k a b,Wk y v p k a/\Wk y w k q b/\c=a+b
 | [],w,p,q,c=>by
  constructor
  .intro h;exact⟨p,0,c,⟨rfl,rfl⟩,h,by lia⟩
  .rintro⟨k,a,b,⟨rfl,rfl⟩,h,e⟩
   have:c=b:=by lia
   rw[this];exact h
 | x::v,w,p,q,c=>by
  constructor
  .rintro⟨d,hd,J,Z,c',h3,e⟩
   obtain⟨k,a,b,Y,G,e2⟩:=ah0.mp h3
   exact⟨k,a+d.t,b,⟨d,hd,J,Z,a,Y,by lia⟩,G,by lia⟩
  .rintro⟨k,a,b,⟨d,hd,J,Z,a',Y,e⟩,G,e2⟩
   exact⟨d,hd,J,Z,a'+b,ah0.mpr ⟨k,a',b,Y,G,rfl⟩,by lia⟩
theorem aJ5 {m:Mc}(y:m.Ok):∀ {w} {p q} {c},p<m.R->Wk m.ds w p q c->q<m.R
 | [],p,q,c,hp,h=>by obtain⟨rfl,_⟩:=h;exact hp
 | x::w,p,q,c,hp,h=>by
  obtain⟨d,hd,_,_,G,h3,_⟩:=h
  exact aJ5 y (y.ds.1 d hd).b h3
theorem am6.nil :am6 m [] λ i j=>if i=j then some 0 else none:=λ i j y hj=>by
 show ah6 (Wk m.ds [] i j) (if i=j then some 0 else none)
 by_cases h:i=j
 .rw[if_pos h];exact⟨⟨h,rfl⟩,λ c hc=>by have:=hc.2;lia⟩
 .rw[if_neg h];exact λ c hc=>h hc.1
theorem am6.mul (Y:m.Ok)(h:am6 m v f)(h':am6 m w g):am6 m (v++w) (prO m.R f g):=λ i j J hj=>(bj3 h h' J hj).congr λ c=>by
 rw[ah0]
 constructor
 .rintro⟨k,_,a,b,y,G,e⟩;exact⟨k,a,b,y,G,e⟩
 .rintro⟨k,a,b,y,G,e⟩;exact⟨k,aJ5 Y J y,a,b,y,G,e⟩
def ltF (ds:List Dr)(c i j:Nat):Option Int:=minI (ds.filterMap λ d=>if d.a=i/\d.l=c/\d.b=j then some (d.t)else none)
theorem ak5 :Wk G [x] p q c↔∃ d∈G,d.l=x/\d.a=p/\d.b=q/\c=d.t:=by
 constructor
 .rintro⟨d,hd,h,y,J,⟨h3,Y⟩,e⟩;exact⟨d,hd,y,h,h3,by lia⟩
 .rintro⟨d,hd,h,y,h3,e⟩;exact⟨d,hd,y,h,0,⟨h3,rfl⟩,by lia⟩
theorem am6.letter c :am6 m [c] (ltF m.ds c):=λ i j J hj=>by
 unfold ltF
 refine ah6.low (λ x hx=>?_) λ x hx=>?_
 .obtain⟨d,hd,e⟩:=cB.mp hx
  split at e
  .rename_i h;cases e;exact ak5.mpr ⟨d,hd,h.2.1,h.1,h.2.2,rfl⟩
  .cases e
 .obtain⟨d,hd,y,G,h3,e⟩:=ak5.mp hx
  exact⟨x,cB.mpr ⟨d,hd,by rw[if_pos ⟨G,y,h3⟩,e]⟩,cy _⟩
theorem bo7 {a b i j :Nat}:qj .eq (.tp [.int (a),.str [l],.int (b)]) (.tp [.int (i),.str [c],.int (j)]) s=.ok (.T (decide (a=i/\l=c/\b=j))) s:=by
 have:eqv s DEEP (.tp [.int (a),.str [l],.int (b)]) (.tp [.int (i),.str [c],.int (j)])=some (((a)==(i:Int))&&(([l]==[c])&&(((b)==(j:Int))&&true))):=rfl
 show(match eqv s DEEP (.tp [.int (a),.str [l],.int (b)]) (.tp [.int (i),.str [c],.int (j)])with|some r=>R.ok (D.T r) s|none=>.B)=_
 rw[this]
 show R.ok (D.T _) s=_
 congr 2
 rw[fi]
 simp
 lia
section
variable {P:Pr} [Has P ad7] [Has P ad5] [Has P aa8] [Has P ab3] [Has P aa4] [HasL P aa2]
theorem bB2 {m:Mc}:m.d.ncl=true:=by
 unfold Mc.d Mc.ps D.ncl
 simp only[D.nclL,D.ncl,aP7,dQ]
 exact zF λ d hd=>by obtain⟨x,_,rfl⟩:=az.mp hd;rfl
theorem jB n {m:Mc}(Z:m.Ok) c (hs:s.all O.ncl=true) :
  (aa1 P (n+4)).call "letter_table" [m.d,.str [c]] s=.ok (gdO m.R (ltF m.ds c)) s:=by
 have e0:(aa1 P (n+4)).call "letter_table" [m.d,.str [c]] s=_:=zd aa4 rfl
 have hR:=Z.R5
 have hD:=Z.ds.2
 have hg:=al0 (P:=P) (n+2) (m:=m.R) (by lia) (d:=.clo "letter_table.least_fee" [m.d,.str [c]]) (λ _ _ n=>jq _ n) (λ i j hi hj=>by
  generalize hS:s++[O.J ((ai i).map λ i=>D.tp ((ai m.R).map λ j=>qE (ltF m.ds c i j)))]=S
  have nS:S.all O.ncl=true:=by rw[<-hS];exact ao8 hs (λ _ _=>ao1 _)
  refine(jg aa2 rfl rfl (by rw[nS];simp[D.nclL,D.ncl,bB2])).trans ?_
  show(ev (aa1 P (n+1)) aa2.body [some (.int i),some (.int j),some m.d,some (.str [c])] S).bind (zJ S)=_
  obtain⟨U1,s1,e1,rfl,_⟩:=ak4 (ok:=λ s1=>chk S s1 []) (g:=aG3 (aa1 P (n+1)) (.tp [0,1,2,3]) (.Z .eq (.tp (.cons (.X 0) (.cons (.X 1) (.cons (.X 2) .nil)))) (.tp (.cons (.X 4) (.cons (.X 5) (.cons (.X 6) .nil))))) (.X 3)) (λ U u=>u=S/\∃ x0 x1 Y J,U=[x0,x1,Y,J,some (.int (i:Int)),some (.str [c]),some (.int (j:Int))]) (λ d=>match d with|.tp [.int a,.str [l],.int b,.int t]=>if a=i/\l=c/\b=j then some (.int t)else none|_=>none) (m.ds.map Dr.d) [none,none,none,none,some (.int (i:Int)),some (.str [c]),some (.int (j:Int))] S ⟨rfl,none,none,none,none,rfl⟩ (λ _ _ _=>rfl) (by
   rintro d hd U u ⟨rfl,x0,x1,Y,J,rfl⟩
   obtain⟨x,_,rfl⟩:=az.mp hd
   refine⟨[some (.int x.a),some (.str [x.l]),some (.int x.b),some (.int x.t),some (.int i),some (.str [c]),some (.int j)],u,?_,rfl,_,_,_,_,rfl⟩
   unfold aG3 Dr.d
   by_cases h:x.a=i/\x.l=c/\x.b=j
   .tbr_iter [bo7,h]
    simp
   .have h2:¬((x.a:Int)=(i:Int)/\x.l=c/\(x.b:Int)=(j:Int)):=by lia
    tbr_iter [bo7,h,if_neg h2])
  have er:(m.ds.map Dr.d).filterMap (λ d=>match d with|.tp [.int a,.str [l],.int b,.int t]=>if a=i/\l=c/\b=j then some (D.int t)else none|_=>none)=aW7 ((m.ds.filterMap λ d=>if d.a=i/\d.l=c/\d.b=j then some (d.t:Int)else none).map some):=by
   unfold aW7
   rw[dh,dW,List.map_filterMap]
   refine an1 λ x _=>?_
   unfold Dr.d
   simp only[iU]
   by_cases h:x.a=i/\x.l=c/\x.b=j
   .rw[if_pos h,if_pos (by lia)];rfl
   .rw[if_neg h,if_neg (by omega)];rfl
  rw[er]at e1
  generalize hL:(m.ds.filterMap λ d=>if d.a=i/\d.l=c/\d.b=j then some (d.t:Int)else none)=L at e1
  have a0:L.length<=75:=by rw[<-hL];exact ao (gi _ _) hD
  have y:∀ q (s:Sto),mk .list q s=.ok (.ref s.length) (s++[.J q]):=λ _ _=>rfl
  have G:=aR9 (P:=P) n (s:=s1++[O.J (aW7 (L.map some))]) (q:=s1.length) (l:=L.map some) (by rw[am (ak _)];simp) (by simp;lia)
  have eL:(L.map some).filterMap id=L:=by rw[dW];exact List.filterMap_some
  rw[eL]at G
  simp only[aa2]
  tbr_iter [aN2 n,ar8,jI,if_pos (show(m.ds.map Dr.d).length<=LIM by rw[aD];unfold LIM;lia),show zX [some (D.int (i:Int)),some (D.int (j:Int)),some m.d,some (D.str [c])] [none,none,none,none,some 0,some 3,some 1]=[none,none,none,none,some (.int (i:Int)),some (.str [c]),some (.int (j:Int))]from rfl,e1,y,G]
  rw[<-hL]
  exact zW (jq _) (ay2 _))
 rw[e0,show(bn some [m.d,D.str [c]]++aq aa4.vs none)=[some m.d,some (D.str [c]),none]from rfl]
 simp only[aa4]
 tbr_iter [jb,jR (n+2)]
 rw[qt (cs:=[m.d,.str [c]]) _ rfl]
 have e:gdD m.R (λ i j=>qE (ltF m.ds c i j))=gdO m.R (ltF m.ds c):=rfl
 tbr_iter [hg,e,if_pos (show((gdO m.R (ltF m.ds c)).ncl&&s.all O.ncl)=true by rw[jS,hs];rfl)]
 exact zt aq4 (by nofun)
end
theorem bK6 {s:Sto}:(s++[o])[s.length]?=some o:=by rw[am (ak _)];simp
theorem bX8 a :(sg a).length=a.length:=by unfold sg;exact aD _
theorem ax7 k a v :∀ l:List (D×D),look k (l++[(a,v)])=match look k l with|some x=>some x|none=>if a=k then some v else none
 | []=>by unfold look;rfl
 | (b,u)::l=>by
  rw[c6]
  unfold look
  by_cases h:b=k
  .rw[if_pos h,if_pos h]
  .rw[if_neg h,if_neg h];exact ax7 k a v l
theorem aH3 (h:s[r]?=some (.dc l))(hk:k.key=true):qj .notin k (.ref r) s=.ok (.T (!(look k l).isSome)) s:=by
 show(inM k (.ref r) s).bind (λ r s=>R.ok (D.T (!r)) s)=_
 simp only[inM,h,hk,if_true,R.bind_ok]
theorem bE8 (h:s[r]?=some (.dc l))(hk:k.key=true)(hv:look k l=some v):ixM (.ref r) k s=.ok v s:=by
 simp only[ixM,h,hk,if_true,hv]
theorem bL6 (h:s[r]?=some (.dc l))(hk:k.key=true)(hl:l.length<LIM):setIx (.ref r) k v s=.ok () (s.set r (.dc (aZ7 k v l))):=by
 simp[setIx,h,hk,hl]
theorem bG6 :ev F (.dc .nil .nil) U s=.ok (.ref s.length) (s++[.dc []]):=rfl
theorem bH2 (h:look k l=none):aZ7 k v l=l++[(k,v)]:=by unfold aZ7;rw[h];rfl
theorem by2 {s:Sto}{o :O}:(s++[o]).set s.length p=s++[p]:=by rw[bH _ _ (ak _)];simp
section
variable {P:Pr} [Has P ad7] [Has P ad5] [Has P ad9] [Has P aa8] [Has P ab3] [Has P aa4] [HasL P aa2] [Has P ae1] [HasL P ab1] [Has P ab4] [HasL P aa6] [Has P aa7]
def bT8 (m:Mc)(l:List (D×D)):Prop:=(∀ c v,look (.str [c]) l=some v->v=gdO m.R (ltF m.ds c))/\∀ p∈l,p.2.ncl=true
theorem bT8.nil :bT8 m []:=⟨λ c v h=>(by cases h),λ p y=>(by cases y)⟩
theorem aA7 n (Z:m.Ok) w (hw:w.length<=5000)(hs:s.all O.ncl=true) :
  ∃ f,am6 m w f/\(aa1 P (n+5)).call "word_table" [m.d,.str w] s=.ok (gdO m.R f) s:=by
 have e0:(aa1 P (n+5)).call "word_table" [m.d,.str w] s=_:=zd aa7 rfl
 have hR:=Z.R5
 have nd:∀ l:List (D×D),bT8 m l->(s++[O.dc l]).all O.ncl=true:=λ l h=>qh hs (zF λ d hd=>by
  obtain⟨p,Y,rfl⟩:=az.mp hd;exact h.2 p Y)
 have key:=jP (ok:=λ s1=>chk (s++[O.dc []]) s1 []) (g:=turn (aa1 P (n+4)) (.Y 4) (.cons (.ite (.Z .notin (.X 4) (.X 2)) (.cons (.setIx (.X 2) (.X 4) (.call "letter_table" (.ex (.X 0) (.ex (.X 4) .nil)))) .nil) .nil) (.cons (.A (.Y 3) (.call "product" (.ex (.X 3) (.ex (.ix (.X 2) (.X 4)) .nil)))) .nil)))
  (λ k U t=>∃ f l x,am6 m (w.take k) f/\bT8 m l/\l.length<=k/\U=[some m.d,some (.str w),some (.ref s.length),some (gdO m.R f),x]/\t=s++[.dc l]) (sg w) 0 [some m.d,some (.str w),some (.ref s.length),some (gdO m.R λ i j=>if i=j then some 0 else none),none] (s++[O.dc []])
  ⟨_,[],none,by rw[k7];exact am6.nil,bT8.nil,ak _,rfl,rfl⟩ (λ _ _ _ _ _=>rfl) (by
  rintro k d U t hk ⟨f,l,x,y,hl,a0,rfl,rfl⟩
  rw[cD]at y a0 ⊢
  unfold sg at hk
  rw[av]at hk
  obtain⟨c,hc,rfl⟩:=dg.mp hk
  have a1:=(ac.mp hc).1
  have G:∀ l:List (D×D),(s++[O.dc l])[s.length]?=some (.dc l):=λ l=>by rw[am (ak _)];simp
  have e1:=jB (P:=P) n Z c (nd l hl)
  have hT:am6 m (w.take (k+1)) (prO m.R f (ltF m.ds c)):=by
   rw[jt hc];exact am6.mul Z y (am6.letter c)
  cases hlk:look (.str [c]) l with
  | none =>
   have hl2:bT8 m (l++[(.str [c],gdO m.R (ltF m.ds c))]):=by
    refine⟨λ c' v hv=>?_,λ p Y=>?_⟩
    .rw[ax7]at hv
     cases q:look (.str [c']) l with
     | none =>
      rw[q]at hv
      simp only at hv
      split at hv
      .rename_i e;cases e;cases hv;rfl
      .cases hv
     | some v'=>rw[q]at hv;cases hv;exact hl.1 c' v q
    .rcases bM.mp Y with h|h
     .exact hl.2 p h
     .rw[bv.mp h];exact jS
   have e2:=jl (P:=P) n hR f (ltF m.ds c) (nd _ hl2)
   have J:=bE8 (G (l++[(.str [c],gdO m.R (ltF m.ds c))])) rfl (v:=gdO m.R (ltF m.ds c)) (by rw[ax7,hlk];simp)
   have e4:=bL6 (v:=gdO m.R (ltF m.ds c)) (G l) (k:=.str [c]) rfl (by unfold LIM;lia)
   rw[bH2 hlk,by2]at e4
   refine⟨_,_,.inl ?_,_,_,some (.str [c]),hT,hl2,by simp;omega,rfl,rfl⟩
   unfold turn
   tbr_iter [aH3 (G l) (k:=.str [c]) rfl,hlk,i8,e1,e4,J,e2]
  | some v =>
   have hv:=hl.1 c v hlk
   have e2:=jl (P:=P) n hR f (ltF m.ds c) (nd _ hl)
   have J:=bE8 (G l) (k:=.str [c]) rfl hlk
   rw[hv]at J
   refine⟨_,_,.inl ?_,_,_,some (.str [c]),hT,hl,by lia,rfl,rfl⟩
   unfold turn
   tbr_iter [aH3 (G l) (k:=.str [c]) rfl,hlk,fI,J,e2])
 obtain⟨U',s',ek,f,l,x,y,hl,_,rfl,rfl⟩:=key
 rw[cD,bX8,cM]at y
 refine⟨f,y,?_⟩
 have e1:=aT4 (P:=P) (n+1) hR (nd [] bT8.nil)
 have h2:∀ t,av4 (.str w) t=.ok ⟨sg w,[]⟩ t:=λ _=>rfl
 rw[e0,show(bn some [m.d,D.str w]++aq aa7.vs none)=[some m.d,some (D.str w),none,none,none]from rfl]
 simp only[aa7]
 tbr_iter [bG6,jR (n+3),e1,h2]
 rw[ek]
 tbr_iter []
 exact zW aq4 (by nofun)
end
section
variable {P:Pr} [Has P ad7] [Has P ad5] [Has P ad9] [Has P aa8] [Has P ab3] [Has P aa4] [HasL P aa2] [Has P ae1] [HasL P ab1] [Has P ab4] [HasL P aa6] [Has P aa7]
 [Has P cr8] [Has P ce5] [Has P bK7] [Has P bi7] [Has P ci3] [Has P bx9] [Has P aJ3] [Has P bg8]
end
section
variable {P:Pr} [Has P jr] [Has P aj9] [Has P zM]
variable [Has P ad7] [Has P ad5] [Has P ad9] [Has P aa8] [Has P ab3] [Has P aa4] [HasL P aa2] [Has P ae1] [HasL P ab1] [Has P ab4] [HasL P aa6] [Has P aa7] [Has P aO1]
end
noncomputable def sgn:Option Int->Int
 | none=>3
 | some i=>if i=0 then 0 else 1
theorem cf7 o :0<=sgn o/\sgn o<=3/\sgn o≠2:=by
 cases o with
 | none=>exact⟨by decide,by decide,by decide⟩
 | some i=>unfold sgn;simp only;split<;>exact⟨by decide,by decide,by decide⟩
theorem au6 :∀ {w} {p q} {c},Wk y w p q c->0<=c
 | [],p,q,c,h=>by have:=h.2;lia
 | x::w,p,q,c,h=>by
  obtain⟨d,hd,_,_,G,h3,e⟩:=h
  have:=au6 h3
  lia
structure SgW1 (S:Int->Prop)(x:Int):Prop where
 lo:0<=x
 hi:x<=3
 n2:x≠2
 z:x=0↔S 0
 t:x=3↔∀ c,¬ S c
theorem SgW1.eq {S}(h:SgW1 S x)(g:SgW1 S y):x=y:=by
 have G:=h.z.trans g.z.symm
 have J:=h.t.trans g.t.symm
 have:=h.lo;have:=h.hi;have:=h.n2;have:=g.lo;have:=g.hi;have:=g.n2
 by_cases a:x=0
 .rw[a,G.mp a]
 .by_cases b:x=3
  .rw[b,J.mp b]
  .have Y:=λ z=>a (G.mpr z)
   have Z:=λ z=>b (J.mpr z)
   lia
theorem bj2 {S}(h:ah6 S o)(nn:∀ c,S c->0<=c):SgW1 S (sgn o):=by
 obtain⟨h0,h3,y⟩:=cf7 o
 refine⟨h0,h3,y,?_,?_⟩
 .cases o with
  | none=>exact⟨λ z=>(by cases z),λ z=>absurd z (h 0)⟩
  | some i =>
   show(if i=0 then(0)else 1)=0↔_
   constructor
   .intro z
    split at z
    .rename_i e;rw[<-e];exact h.1
    .cases z
   .intro z
    have G:=h.2 0 z
    have y:=nn i h.1
    rw[if_pos (by lia)]
 .cases o with
  | none=>exact⟨λ _=>h,λ _=>rfl⟩
  | some i =>
   show(if i=0 then(0)else 1)=3↔_
   constructor
   .intro z;split at z<;>cases z
   .intro z;exact absurd h.1 (z i)
def SgW (m:Mc)(w:List Nat)(g:Nat->Nat->Int):Prop:=∀ i j,i<m.R->j<m.R->SgW1 (Wk m.ds w i j) (g i j)
theorem am6.sg (h:am6 m w f):SgW m w λ i j=>sgn (f i j):=λ i j y hj=>bj2 (h i j y hj) λ c hc=>au6 hc
theorem SgW.eqG (h:SgW m w f)(h':SgW m w g):EqG m.R f g:=λ i j y hj=>(h i j y hj).eq (h' i j y hj)
theorem aP4 G c i j :∀ k,k<=G.length->(sgF G c i j k=3/\∀ d∈G.take k,¬(d.l=c/\d.a=i/\d.b=j))\/(sgF G c i j k=1/\(∃ d∈G.take k,d.l=c/\d.a=i/\d.b=j)/\∀ d∈G.take k,d.l=c/\d.a=i/\d.b=j->d.t≠0)\/(sgF G c i j k=0/\∃ d∈G.take k,(d.l=c/\d.a=i/\d.b=j)/\d.t=0)
 | 0,_=>.inl ⟨rfl,λ d hd=>by rw[k7]at hd;cases hd⟩
 | k+1,hk=>by
  have Z:=aP4 G c i j k (by lia)
  have hx:=aj (show k<G.length by lia)
  have y:∀ d,d∈G.take (k+1)↔d∈G.take k\/d=G[k]:=λ d=>by rw[jt hx,bM,bv]
  have key:sgF G c i j (k+1)=if G[k].l=c/\i=G[k].a/\j=G[k].b then(if(if 0<G[k].t then(1)else 0)<sgF G c i j k then(if 0<G[k].t then(1)else 0)else sgF G c i j k)else sgF G c i j k:=by
   conv=>lhs;unfold sgF
   rw[hx]
  rw[key]
  generalize a0:G[k]=x at *
  by_cases hc:x.l=c/\i=x.a/\j=x.b
  .rw[if_pos hc]
   have J:x.l=c/\x.a=i/\x.b=j:=⟨hc.1,hc.2.1.symm,hc.2.2.symm⟩
   by_cases ht:0<x.t
   .rw[if_pos ht]
    rcases Z with⟨e,h⟩|⟨e,h1,h2⟩|⟨e,d,hd,h1⟩
    .rw[e,if_pos (by decide)]
     refine .inr (.inl ⟨rfl,⟨x,(y x).mpr (.inr rfl),J⟩,λ d hd Y=>?_⟩)
     rcases(y d).mp hd with z|z
     .exact absurd Y (h d z)
     .rw[z];lia
    .rw[e,if_neg (by decide)]
     refine .inr (.inl ⟨rfl,⟨x,(y x).mpr (.inr rfl),J⟩,λ d hd Y=>?_⟩)
     rcases(y d).mp hd with z|z
     .exact h2 d z Y
     .rw[z];lia
    .rw[e,if_neg (by decide)]
     exact .inr (.inr ⟨rfl,d,(y d).mpr (.inl hd),h1⟩)
   .rw[if_neg ht]
    have hz:x.t=0:=by lia
    rcases Z with⟨e,h⟩|⟨e,h1,h2⟩|⟨e,d,hd,h1⟩
    .rw[e,if_pos (by decide)];exact .inr (.inr ⟨rfl,x,(y x).mpr (.inr rfl),J,hz⟩)
    .rw[e,if_pos (by decide)];exact .inr (.inr ⟨rfl,x,(y x).mpr (.inr rfl),J,hz⟩)
    .rw[e,if_neg (by decide)];exact .inr (.inr ⟨rfl,x,(y x).mpr (.inr rfl),J,hz⟩)
  .rw[if_neg hc]
   have J:¬(x.l=c/\x.a=i/\x.b=j):=λ z=>hc ⟨z.1,z.2.1.symm,z.2.2.symm⟩
   rcases Z with⟨e,h⟩|⟨e,⟨d,hd,h1⟩,h2⟩|⟨e,d,hd,h1⟩
   .refine .inl ⟨e,λ d hd Y=>?_⟩
    rcases(y d).mp hd with z|z
    .exact h d z Y
    .rw[z]at Y;exact J Y
   .refine .inr (.inl ⟨e,⟨d,(y d).mpr (.inl hd),h1⟩,λ d hd Y=>?_⟩)
    rcases(y d).mp hd with z|z
    .exact h2 d z Y
    .rw[z]at Y;exact absurd Y J
   .exact .inr (.inr ⟨e,d,(y d).mpr (.inl hd),h1⟩)
theorem SgW.letter m c :SgW m [c] (sgM m c):=λ i j G hj=>by
 have h:=aP4 m.ds c i j m.ds.length (ak _)
 rw[cM]at h
 unfold sgM
 rcases h with⟨e,h⟩|⟨e,⟨d,hd,h1⟩,h2⟩|⟨e,d,hd,h1,h3⟩
 .rw[e]
  refine⟨by decide,by decide,by decide,⟨λ z=>(by cases z),λ z=>?_⟩,⟨λ _ x hx=>?_,λ _=>rfl⟩⟩
  .obtain⟨d,hd,a,b,y,_⟩:=ak5.mp z;exact absurd ⟨a,b,y⟩ (h d hd)
  .obtain⟨d,hd,a,b,y,_⟩:=ak5.mp hx;exact h d hd ⟨a,b,y⟩
 .rw[e]
  refine⟨by decide,by decide,by decide,⟨λ z=>(by cases z),λ z=>?_⟩,⟨λ z=>(by cases z),λ z=>?_⟩⟩
  .obtain⟨d,hd,a,b,y,e2⟩:=ak5.mp z;have:=h2 d hd ⟨a,b,y⟩;lia
  .exact absurd (ak5.mpr ⟨d,hd,h1.1,h1.2.1,h1.2.2,rfl⟩) (z _)
 .rw[e]
  refine⟨by decide,by decide,by decide,⟨λ _=>ak5.mpr ⟨d,hd,h1.1,h1.2.1,h1.2.2,by rw[h3];rfl⟩,λ _=>rfl⟩,⟨λ z=>(by cases z),λ z=>?_⟩⟩
  exact absurd (ak5.mpr ⟨d,hd,h1.1,h1.2.1,h1.2.2,rfl⟩) (z _)
section
variable {P:Pr} [HasC P "FREE" (.int 0)] [HasC P "SOME" (.int 1)] [HasC P "NONE" (.int 3)] [Has P ae5]
theorem aZ8  n  o  s :(aa1 P (n+1)).call "sign_of" [qE o] s=.ok (.int (sgn o)) s:=by
 have y:(aa1 P (n+1)).call "sign_of" [qE o] s=_:=zd ae5 rfl
 have G:=λ U s=>(al6 (P:=P) (n:=n) (x := "NONE") (v:=.int 3) (U:=U) (s:=s))
 have g0:=λ U s=>(al6 (P:=P) (n:=n) (x := "FREE") (v:=.int 0) (U:=U) (s:=s))
 have g1:=λ U s=>(al6 (P:=P) (n:=n) (x := "SOME") (v:=.int 1) (U:=U) (s:=s))
 rw[y,show(bn some [qE o]++aq ae5.vs none)=[some (qE o)]from rfl]
 simp only[ae5]
 cases o with
 | none=>tbr_iter [aj1,G];exact zL
 | some i =>
  by_cases h:i=0
  .subst h;tbr_iter [jE,show(D.int 0=D.N)=False from eq_false (by nofun),g0,sgn];exact zL
  .tbr_iter [jE,show(D.int i=D.N)=False from eq_false (by nofun),h,g1,sgn];exact zL
variable [Has P ad7] [Has P ae8] [HasL P ac1]
theorem aY4 n (Y:m<=5) f (hs:s.all O.ncl=true) :
  (aa1 P (n+4)).call "reading" [gdO m f] s=.ok (gd m λ i j=>sgn (f i j)) s:=by
 have y:(aa1 P (n+4)).call "reading" [gdO m f] s=_:=zd ae8 rfl
 have h:=al0 (P:=P) (n+2) (m:=m) (by omega) (d:=.clo "reading.0" [gdO m f]) (λ _ _ n=>rfl) (λ i j G hj=>by
  generalize hS:s++[O.J ((ai i).map λ i=>D.tp ((ai m).map λ j=>.int (sgn (f i j))))]=S
  have J:S.all O.ncl=true:=by rw[<-hS];exact ao8 hs (λ _ _=>rfl)
  refine(jg ac1 rfl rfl (by rw[J];simp[D.nclL,D.ncl,jS])).trans ?_
  show(ev (aa1 P (n+1)) ac1.body [some (.int i),some (.int j),some (gdO m f)] S).bind (zJ S)=_
  simp only[ac1]
  tbr_iter [bb9 G,aN4 hj,aZ8 n]
  exact zL)
 rw[y,show(bn some [gdO m f]++aq ae8.vs none)=[some (gdO m f)]from rfl]
 simp only[ae8]
 tbr_iter [jb,aC2]
 rw[qt _ rfl]
 have e:gdD m (λ i j=>.int (sgn (f i j)))=gd m (λ i j=>sgn (f i j)):=rfl
 tbr_iter [h,e,if_pos (show((gd m λ i j=>sgn (f i j)).ncl&&s.all O.ncl)=true by rw[aw2,hs];rfl)]
 exact zt jC (by nofun)
variable [Has P ad5] [Has P ad9] [Has P aa8] [Has P ab3] [Has P aa4] [HasL P aa2] [Has P ae1] [HasL P ab1] [Has P ab4] [HasL P aa6] [Has P aa7] [Has P ac2]
theorem aB4 n (h:m.Ok) w (hw:w.length<=5000)(hs:s.all O.ncl=true) :
  ∃ g,SgW m w g/\(aa1 P (n+6)).call "word_signs" [m.d,.str w] s=.ok (gd m.R g) s:=by
 have G:(aa1 P (n+6)).call "word_signs" [m.d,.str w] s=_:=zd ac2 rfl
 obtain⟨f,y,e1⟩:=aA7 (P:=P) n h w hw hs
 refine⟨_,y.sg,?_⟩
 rw[G,show(bn some [m.d,D.str w]++aq ac2.vs none)=[some m.d,some (D.str w)]from rfl]
 simp only[ac2]
 tbr_iter [e1,aY4 (n+1) h.R5 f hs]
 exact zt jC (by nofun)
variable [Has P jr] [Has P aj9] [Has P zM] [Has P aw6]
end
inductive Rst where
 | let_ (c:Nat)|pair (i j:Nat)|times (i n:Nat)
noncomputable def Rst.d:Rst->D
 | .let_ c=>.tp [.str [108,101,116,116,101,114],.str [c]]
 | .pair i j=>.tp [.str [112,97,105,114],.int i,.int j]
 | .times i n=>.tp [.str [116,105,109,101,115],.int i,.int n]
theorem rl0 :ixM (Rst.let_ ch).d (.int 0) s=.ok (.str bU5) s:=rfl
theorem rl1 :ixM (Rst.let_ ch).d (.int 1) s=.ok (.str [ch]) s:=rfl
theorem rp0 :ixM (Rst.pair i j).d (.int 0) s=.ok (.str aF9) s:=rfl
theorem rp1 :ixM (Rst.pair i j).d (.int 1) s=.ok (.int i) s:=rfl
theorem rp2 :ixM (Rst.pair i j).d (.int 2) s=.ok (.int j) s:=rfl
theorem rt0 :ixM (Rst.times i n).d (.int 0) s=.ok (.str av6) s:=rfl
theorem rt1 :ixM (Rst.times i n).d (.int 1) s=.ok (.int i) s:=rfl
theorem rt2 :ixM (Rst.times i n).d (.int 2) s=.ok (.int n) s:=rfl
section
variable {P:Pr} [Has P ac3] [Has P ae4] [HasL P ad2] [HasL P ad3] [HasL P ad1]
end
theorem bb0 :ev F (.neg (.K (.int 1))) U s=.ok (.int (-1)) s:=rfl
theorem aB6 (h:s[r]?=some (.J l))(hd:l[l.length - 1]?=some d):ixM (.ref r) (.int (-1)) s=.ok d s:=by
 have hl:=(ac.mp hd).1
 have hx:ixn l.length (-1)=some (l.length - 1):=by
  unfold ixn
  rw[if_neg (by decide),if_pos (by lia)]
  congr 1;lia
 simp only[ixM,h,hx,gC,hd]
section
variable {P:Pr} [Has P ac3] [Has P ae4] [HasL P ad2] [HasL P ad3] [HasL P ad1] [Has P aN5] [Has P aB8]
end
section
variable {α:Type} (d:α) (fl:Nat->α) (fp:α->α->α) (ft:α->Nat->α)
noncomputable def foV (vs:List α):Rst->α
 | .let_ c=>fl c
 | .pair i j=>fp (vs.getD i d) (vs.getD j d)
 | .times i n=>ft (vs.getD i d) n
def foR (l:List Rst):List α:=l.foldl (λ vs x=>vs++[foV d fl fp ft vs x]) []
theorem aQ3 {l:List Rst}(h:l[k]?=some x):foR d fl fp ft (l.take (k+1))=foR d fl fp ft (l.take k)++[foV d fl fp ft (foR d fl fp ft (l.take k)) x]:=by
 rw[jt h];unfold foR;rw[eJ];rfl
theorem aK6 {l:List Rst}:∀ k,k<=l.length->(foR d fl fp ft (l.take k)).length=k
 | 0,_=>by simp[foR]
 | k+1,h=>by
  rw[aQ3 d fl fp ft (aj (show k<l.length by lia)),aU,aK6 k (by lia)];rfl
theorem aQ9:∀(l:List Rst) vs ,∃ t,l.foldl (λ vs x=>vs++[foV d fl fp ft vs x]) vs=vs++t
 | [],vs=>⟨[],by simp⟩
 | x::l,vs=>by
  obtain⟨t,e⟩:=aQ9 l (vs++[foV d fl fp ft vs x])
  exact⟨foV d fl fp ft vs x::t,by rw[cx,e];simp⟩
theorem az2 (hk:k<=l.length)(h:i<k):(foR d fl fp ft (l.take k)).getD i d=(foR d fl fp ft l).getD i d:=by
 obtain⟨t,e⟩:=aQ9 d fl fp ft (l.drop k) (foR d fl fp ft (l.take k))
 have:foR d fl fp ft l=foR d fl fp ft (l.take k)++t:=by
  rw[<-e]
  conv=>lhs;rw[<-hJ k l]
  unfold foR;rw[eJ]
 have hl:=aK6 d fl fp ft k hk
 rw[this,aN,aN,ax (by lia)]
theorem bq1 (h:l[k]?=some x):(foR d fl fp ft l).getD k d=foV d fl fp ft (foR d fl fp ft (l.take k)) x:=by
 have hk:=(ac.mp h).1
 rw[<-az2 d fl fp ft (by lia) (dH k),aQ3 d fl fp ft h]
 have hl:=aK6 d fl fp ft (l:=l) k (by lia)
 rw[aN,am (by lia),hl,eG];rfl
theorem cp1 (h:l[k]?=some (.let_ c)):(foR d fl fp ft l).getD k d=fl c:=bq1 d fl fp ft h
theorem co1 (h:l[k]?=some (.pair i j))(y:i<k)(hj:j<k):(foR d fl fp ft l).getD k d=fp ((foR d fl fp ft l).getD i d) ((foR d fl fp ft l).getD j d):=by
 have hk:=(ac.mp h).1
 rw[bq1 d fl fp ft h,<-az2 d fl fp ft (by lia) y,<-az2 d fl fp ft (by omega) hj];rfl
theorem cp7 (h:l[k]?=some (.times i n))(y:i<k):(foR d fl fp ft l).getD k d=ft ((foR d fl fp ft l).getD i d) n:=by
 have hk:=(ac.mp h).1
 rw[bq1 d fl fp ft h,<-az2 d fl fp ft (by lia) y];rfl
end
def wds (l:List Rst):List (List Nat):=foR [] (λ c=>[c]) (·++·) (λ w n=>rep n w) l
def wd (l:List Rst)(k:Nat):List Nat:=(wds l).getD k []
theorem cw4 (h:l[k]?=some (.let_ c)):wd l k=[c]:=cp1 _ _ _ _ h
theorem cx0 (h:l[k]?=some (.pair i j))(y:i<k)(hj:j<k):wd l k=wd l i++wd l j:=co1 _ _ _ _ h y hj
theorem cx3 (h:l[k]?=some (.times i n))(y:i<k):wd l k=rep n (wd l i):=cp7 _ _ _ _ h y
theorem aZ5 [Has P ae0] n (Ww:Nat->D) y {s}(hb:∀ k n,(Ww k).bnd n=true)(hr:∀ k r,Ww k≠.ref r)(a0:∀ a b,(aa1 P n).call y [Ww a,Ww b] s=.ok (Ww (a+b)) s)(h:Nat) :
  (aa1 P (n+1)).call "raised" [Ww 1,.int h,Ww 0,.fn y] s=.ok (Ww h) s:=by
 have e0:(aa1 P (n+1)).call "raised" [Ww 1,.int h,Ww 0,.fn y] s=_:=zd ae0 rfl
 have key:∀ a b,apV (aa1 P n) (.fn y) [Ww a,Ww b] s=.ok (Ww (a+b)) s:=a0
 rw[e0,show(bn some [Ww 1,.int h,Ww 0,.fn y]++aq ae0.vs none)=[some (Ww 1),some (.int h),some (Ww 0),some (.fn y),none,none,none]from rfl]
 simp only[ae0]
 simp only[za,qd,ze,zg,zh,R.bind_ok,zb,zG,zy,aJ,zv,zn]
 rw[R.bind_assoc]
 refine bz7 (λ k U t=>∃ a b left ,left=k/\a+b*left=h/\U=[some (Ww 1),some (.int h),some (Ww 0),some (.fn y),some (Ww a),some (Ww b),some (.int left)]/\t=s) (λ U t=>∃(b:Nat) (x:Option D),U=[some (Ww 1),some (.int h),some (Ww 0),some (.fn y),some (Ww h),some (Ww b),x]/\t=s) h ⟨0,1,h,rfl,by lia,rfl,rfl⟩ ?_ ?_
 .rintro k U t ⟨a,b,left,rfl,hab,rfl,rfl⟩
  simp only[zO,ze,zB,zC,zg,zh,R.bind_ok,gt_int,bU9]
  by_cases hl:(0)<(left:Int)
  .simp only[hl,decide_true,if_true]
   have G:jv .fdiv (.int left) (.int 2) t=.ok (.int ((left / 2:Nat):Int)) t:=by rw[ay4 (by decide) (by decide)];simp
   have Y:jv .mod (.int left) (.int 2) t=.ok (.int ((left % 2:Nat):Int)) t:=by rw[jQ (by decide)];simp
   obtain⟨J,ha',e1⟩:∃ J:Nat,J+b*(2*(left / 2))=h/\ex (aa1 P n) (.ite (.Z .eq (.G .mod (.X 6) (.K (.int 2))) (.K (.int 1))) (.cons (.A (.Y 4) (.callV 3 (.cons (.X 4) (.cons (.X 5) .nil)))) .nil) .nil) [some (Ww 1),some (.int h),some (Ww 0),some (.fn y),some (Ww a),some (Ww b),some (.int left)] t=.ok (.next [some (Ww 1),some (.int h),some (Ww 0),some (.fn y),some (Ww J),some (Ww b),some (.int left)]) t:=by
    by_cases ho:((left % 2:Nat):Int)=1
    .refine⟨a+b,?_,?_⟩
     .have:left=2*(left / 2)+1:=by lia
      rw[this,ip]at hab
      have e2:2*((2*(left / 2)+1) / 2)=2*(left / 2):=by lia
      lia
     .simp only[qe,zO,qI,ze,zB,zC,zg,zh,R.bind_ok,Y,eq_int,ho,decide_true,zH,if_true,za,zl,qd]
      rw[qL (d:=.fn y) _ rfl]
      simp only[zr,zu,ze,zg,zh,R.bind_ok,key a b,zb,zG,zy,aJ,zv,zn,zl]
    .refine⟨a,?_,?_⟩
     .have:left=2*(left / 2):=by lia
      rw[<-this];exact hab
     .simp only[qe,zO,qI,ze,zB,zC,zg,zh,R.bind_ok,Y,eq_int,ho,decide_false,zH,if_false,aO,zl]
   have e2:∃ Z:Nat,J+Z*(left / 2)=h/\exs (aa1 P n) (.cons (.A (.Y 6) (.G .fdiv (.X 6) (.K (.int 2)))) (.cons (.ite (.Z .gt (.X 6) (.K (.int 0))) (.cons (.A (.Y 5) (.callV 3 (.cons (.X 5) (.cons (.X 5) .nil)))) .nil) .nil) .nil)) [some (Ww 1),some (.int h),some (Ww 0),some (.fn y),some (Ww J),some (Ww b),some (.int left)] t=.ok (.next [some (Ww 1),some (.int h),some (Ww 0),some (.fn y),some (Ww J),some (Ww Z),some (.int ((left / 2:Nat):Int))]) t:=by
    by_cases hl2:(0:Int)<((left / 2:Nat):Int)
    .refine⟨b+b,?_,?_⟩
     .rw[<-ha',Nat.add_mul,<-lp,lw b 2,lp];lia
     .simp -implicitDefEqProofs only[za,qd,qI,ze,zB,zC,zg,zh,R.bind_ok,G,zb,zG,zy,aJ,zv,zn,qe,zO,gt_int,hl2,decide_true,zH,if_true,zl]
      rw[qL (d:=.fn y) _ rfl]
      simp only[zr,zu,ze,zg,zh,R.bind_ok,key b b,zb,zG,zy,aJ,zv,zn,zl]
    .refine⟨b,?_,?_⟩
     .have:left / 2=0:=by lia
      rw[this]at ha' ⊢
      exact ha'
     .simp -implicitDefEqProofs only[za,qd,qI,ze,zB,zC,zg,zh,R.bind_ok,G,zb,zG,zy,aJ,zv,zn,qe,zO,gt_int,hl2,decide_false,zH,if_false,aO,zl]
   obtain⟨Z,a1,e2⟩:=e2
   have e3:exs (aa1 P n) (.cons (.ite (.Z .eq (.G .mod (.X 6) (.K (.int 2))) (.K (.int 1))) (.cons (.A (.Y 4) (.callV 3 (.cons (.X 4) (.cons (.X 5) .nil)))) .nil) .nil) (.cons (.A (.Y 6) (.G .fdiv (.X 6) (.K (.int 2)))) (.cons (.ite (.Z .gt (.X 6) (.K (.int 0))) (.cons (.A (.Y 5) (.callV 3 (.cons (.X 5) (.cons (.X 5) .nil)))) .nil) .nil) .nil))) [some (Ww 1),some (.int h),some (Ww 0),some (.fn y),some (Ww a),some (Ww b),some (.int left)] t=.ok (.next [some (Ww 1),some (.int h),some (Ww 0),some (.fn y),some (Ww J),some (Ww Z),some (.int ((left / 2:Nat):Int))]) t:=by
    rw[za,e1,R.bind_ok,zn,e2]
   rw[e3]
   exact⟨left / 2,by lia,J,Z,left / 2,rfl,a1,rfl,rfl⟩
  .simp only[hl,decide_false,if_false,aO]
   have h0:left=0:=by lia
   subst h0
   have:a=h:=by omega
   subst this
   exact⟨b,_,rfl,trivial⟩
 .rintro U t ⟨b,x,rfl,rfl⟩
  simp only[zn,za,zl,qD,ze,zg,zh,R.bind_ok,zV,zU]
  exact zt (hb h) (hr h)
theorem al3 w b :∀ a,rep (a+b) w=rep a w++rep b w
 | 0=>by rw[cD];rfl
 | a+1=>by rw[Nat.succ_add];show w++rep (a+b) w=(w++rep a w)++rep b w;rw[al3 w b a,cG]
theorem bk4 w :rep 1 w=w:=bf w
def tbO (m:Mc):List Nat->Nat->Nat->Option Int
 | []=>λ i j=>if i=j then some 0 else none
 | c::w=>prO m.R (ltF m.ds c) (tbO m w)
theorem aG1 (h:m.Ok):∀ w,am6 m w (tbO m w)
 | []=>am6.nil
 | c::w=>am6.mul h (am6.letter c) (aG1 h w)
def tbD (m:Mc)(w:List Nat):D:=gdO m.R (tbO m w)
theorem al2 n :(tbD m w).bnd n=true:=aq4 n
theorem bP7 :(tbD m w).ncl=true:=jS
theorem bA2 (y:m.Ok)(h:am6 m w f):gdO m.R f=tbD m w:=h.eq (aG1 y w)
theorem bh9 (h:m.Ok) v w :gdO m.R (prO m.R (tbO m v) (tbO m w))=tbD m (v++w):=bA2 h ((aG1 h v).mul h (aG1 h w))
section
variable {P:Pr} [Has P ad7] [Has P ad5] [Has P ad9] [Has P ae1] [HasL P ab1] [Has P ab4] [HasL P aa6] [Has P ae0] [Has P af7] [HasC P "product" (.fn "product")]
theorem ba5 n (G:m.Ok) w (y:Nat)(hs:s.all O.ncl=true) :
  (aa1 P (n+6)).call "power" [tbD m w,.int y] s=.ok (tbD m (rep y w)) s:=by
 have J:(aa1 P (n+6)).call "power" [tbD m w,.int y] s=_:=zd af7 rfl
 have e1:=aZ5 (n+4) (λ a=>tbD m (rep a w)) "product" (λ _ n=>al2 n) (λ _ _ h=>by cases h) (λ a b=>by
  rw[tbD,tbD,jl (P:=P) n G.R5 _ _ hs,bh9 G,<-al3]) y
 rw[bk4 w]at e1
 have e2:=aT4 (P:=P) (n+2) G.R5 hs
 have g1:=λ U s=>aJ7 (P:=P) (n:=n+5) (x := "product") (d:=.fn "product") U s
 have Y:bi .len [tbD m w] s=.ok (.int m.R) s:=aC2
 rw[J,show(bn some [tbD m w,D.int y]++aq af7.vs none)=[some (tbD m w),some (.int y)]from rfl,show af7.body=(.cons (.ret (.call "raised" (.ex (.X 0) (.ex (.X 1) (.ex (.call "plain" (.ex (.bi .len (.cons (.X 0) .nil)) .nil)) (.ex (.gl "product") .nil)))))) .nil)from rfl]
 tbr_iter [Y,e2,g1]
 rw[show(gdO m.R λ i j=>if i=j then some 0 else none)=tbD m (rep 0 w)from rfl,e1]
 tbr_iter []
 exact zt al2 (by nofun)
end
noncomputable def RsB (k:Nat):Rst->Prop
 | .let_ _=>True
 | .pair i j=>i<k/\j<k
 | .times i _=>i<k
def cq7 (l:List Rst):Prop:=∀ k x,l[k]?=some x->RsB k x
theorem aV2 [Has P ac3] n {l:List Rst}(hl:l.length<=5100)(hk:cq7 l){s:Sto}{Y:D}{src:List Nat}(hsr:∀ r∈src,r<s.length)(a0:∀ t,av4 Y (s++t)=.ok ⟨l.map Rst.d,src⟩ (s++t))(d1 G J:D)(Ww:Nat->D)(hW:∀ k n,(Ww k).bnd n=true)
  (h1:∀ k ch,l[k]?=some (.let_ ch)->apV (aa1 P n) d1 [.str [ch]] (s++[.J ((ai k).map Ww)])=.ok (Ww k) (s++[.J ((ai k).map Ww)]))
  (h2:∀ k i j,l[k]?=some (.pair i j)->apV (aa1 P n) G [Ww i,Ww j] (s++[.J ((ai k).map Ww)])=.ok (Ww k) (s++[.J ((ai k).map Ww)]))
  (h3:∀ k i m,l[k]?=some (.times i m)->apV (aa1 P n) J [Ww i,.int (m:Nat)] (s++[.J ((ai k).map Ww)])=.ok (Ww k) (s++[.J ((ai k).map Ww)])) :
  (aa1 P (n+1)).call "folded" [Y,d1,G,J] s=.ok (.ref s.length) (s++[.J ((ai l.length).map Ww)]):=by
 have e0:(aa1 P (n+1)).call "folded" [Y,d1,G,J] s=_:=zd ac3 (n:=n) rfl
 rw[e0,show(bn some [Y,d1,G,J]++aq ac3.vs none)=[some Y,some d1,some G,some J,none,none]from rfl]
 simp only[ac3]
 simp only[za,zl,qd,ev_lst,zu,R.bind_ok,js,zb,zG,zy,aJ,zv,zn,ex_for,evI_seq,ze,zg,zh]
 rw[a0]
 simp only[R.bind_ok]
 rw[R.bind_assoc]
 refine jF (λ k U t=>∃(x:Option D),U=[some Y,some d1,some G,some J,some (.ref s.length),x]/\t=s++[.J ((ai k).map Ww)]) ⟨none,rfl,rfl⟩ (λ _ _ _ _ h=>?_) ?_ ?_
 .obtain⟨_,_,rfl⟩:=h
  unfold chk
  exact aX.mpr λ r hr=>by rw[ax (hsr r hr),ax (hsr r hr)];simp
 .rintro k d U t hkk ⟨x,rfl,rfl⟩
  rw[av]at hkk
  obtain⟨v,hv,hd⟩:∃ v,l[k]?=some v/\Rst.d v=d:=by
   cases e:l[k]? with
   | none=>rw[e]at hkk;cases hkk
   | some v=>rw[e]at hkk;exact⟨v,rfl,aw hkk⟩
  subst hd
  have a1:=(ac.mp hv).1
  have hok:=hk k v hv
  have L1:((ai k).map Ww).length<LIM:=by unfold LIM;rw[aD,cX];lia
  have g0:(s++[O.J ((ai k).map Ww)])[s.length]?=some (.J ((ai k).map Ww)):=by rw[am (ak _)];simp
  have gW:∀ i,i<k->ixM (.ref s.length) (.int (i:Int)) (s++[O.J ((ai k).map Ww)])=.ok (Ww i) (s++[O.J ((ai k).map Ww)]):=λ i Z=>qk g0 (by rw[av,be Z];rfl)
  refine aD6 (U:=[some Y,some d1,some G,some J,some (.ref s.length),some v.d]) (s:=s++[.J ((ai (k+1)).map Ww)]) ?_ ⟨_,rfl,rfl⟩
  rw[cJ,cg]
  unfold turn
  cases v with
  | let_ ch =>
   have y:=h1 k ch hv
   simp only[zb,zG,zy,aJ,za,zl,qe,zO,qz,ze,zB,zC,jk,zg,zh,R.bind_ok,rl0,jp,show(bU5=[108,101,116,116,101,114])=True from eq_self _,decide_true,zH,if_true,ex_ex,qg,zr,zu]
   rw[qL (d:=d1) _ rfl]
   simp only[zr,zu,qz,ze,zB,zC,zg,zh,R.bind_ok,rl1,y]
   rw[ja L1];rfl
  | pair i j =>
   obtain⟨Z,hj⟩:=hok
   have y:=h2 k i j hv
   simp only[zb,zG,zy,aJ,za,zl,qe,zO,qz,ze,zB,zC,jk,zg,zh,R.bind_ok,rp0,jp,show(aF9=[108,101,116,116,101,114])=False by decide,show(aF9=[112,97,105,114])=True from eq_self _,decide_true,decide_false,aO,zH,if_true,if_false,ex_ex,qg,zr,zu]
   rw[qL (d:=G) _ rfl]
   simp only[zr,zu,qz,ze,zB,zC,zg,zh,R.bind_ok,rp1,rp2,gW i Z,gW j hj,y]
   rw[ja L1];rfl
  | times i m =>
   have Z:=hok
   have y:=h3 k i m hv
   simp only[zb,zG,zy,aJ,za,zl,qe,zO,qz,ze,zB,zC,jk,zg,zh,R.bind_ok,rt0,jp,show(av6=[108,101,116,116,101,114])=False by decide,show(av6=[112,97,105,114])=False by decide,decide_false,aO,zH,if_false,ex_ex,qg,zr,zu]
   rw[qL (d:=J) _ rfl]
   simp only[zr,zu,qz,ze,zB,zC,zg,zh,R.bind_ok,rt1,rt2,gW i Z,y]
   rw[ja L1];rfl
 .rintro U t ⟨x,rfl,rfl⟩
  rw[aD]
  simp only[zn,za,zl,qD,ze,zg,zh,R.bind_ok,zV,zU]
  exact ji (by unfold O.bnd;exact zR (λ d hd n=>by obtain⟨x,_,rfl⟩:=az.mp hd;exact hW x n) _)
theorem bb6 :∀(l:List Stp) vs ,∃ t,l.foldl (λ vs x=>vs++[at9 a c vs x]) vs=vs++t
 | [],vs=>⟨[],by simp⟩
 | x::l,vs=>by
  obtain⟨t,e⟩:=bb6 l (vs++[at9 a c vs x])
  exact⟨at9 a c vs x::t,by rw[cx,e];simp⟩
theorem aI9 (hk:k<=l.length)(h:i<k):(vl a c (l.take k)).getD i 0=(vl a c l).getD i 0:=by
 obtain⟨t,e⟩:=bb6 (l.drop k) (vl a c (l.take k))
 have:vl a c l=vl a c (l.take k)++t:=by
  rw[<-e]
  conv=>lhs;rw[<-hJ k l]
  unfold vl;rw[eJ]
 have hl:=ar2 (a:=a) (c:=c) k hk
 rw[this,aN,aN,ax (by lia)]
theorem bv8 (h:l[k]?=some x):(vl a c l).getD k 0=at9 a c (vl a c (l.take k)) x:=by
 have hk:=(ac.mp h).1
 rw[<-aI9 (by lia) (dH k),aK5 h]
 have hl:=ar2 (a:=a) (c:=c) (l:=l) k (by lia)
 rw[aN,am (by omega),hl,eG];rfl
theorem bJ7 :(ai l.length).map (λ k=>D.int ((vl a c l).getD k 0))=br0 (vl a c l):=by
 have hl:=ar2 (a:=a) (c:=c) l.length (ak _)
 rw[cM]at hl
 apply f6
 intro i
 by_cases hi:i<l.length
 .rw[av,be hi]
  unfold br0
  rw[av,aj (show i<(vl a c l).length by lia)]
  simp[aj (show i<(vl a c l).length by omega)]
 .rw[bG (by simp;lia),bG (by unfold br0;simp;lia)]
theorem aV5 [Has P ac3][Has P ae4][HasL P ad2][HasL P ad3][HasL P ad1] n {l}{c}(hl:l.length<=5100)(hk:al8 l){s}{p:Nat}(hp:s[p]?=some (.J (l.map (Stp.t c))))(hs:s.all O.ncl=true)
  {a:Int} (ha:0<=a) (G:a<=3) (hc:0<=c) (h:c<=2^103) :
  (aa1 P (n+3)).call "counted" [.ref p,.int a] s=.ok (.ref s.length) (s++[.J (br0 (vl a c l))]):=by
 have e0:(aa1 P (n+3)).call "counted" [.ref p,.int a] s=_:=zd ae4 (n:=n+2) rfl
 have Z:=ch9 ha G hc h hk l.length (ak _)
 rw[cM]at Z
 have hlen:=ar2 (a:=a) (c:=c) (l:=l) l.length (ak _)
 rw[cM]at hlen
 have y:∀ k,(s++[O.J ((ai k).map λ k=>D.int ((vl a c l).getD k 0))]).all O.ncl=true:=λ k=>by
  rw[dm,hs]
  simp only[dP,ke,O.ncl,dR,dQ]
  exact zF λ d hd=>by obtain⟨x,_,rfl⟩:=az.mp hd;rfl
 have hf:=bp6 (P:=P) (n+1) (c:=c) hl hk hp (.clo "counted.2" [.int a]) (.clo "counted.1" []) (.clo "counted.0" []) (λ k=>.int ((vl a c l).getD k 0)) (λ _ _=>rfl)
  (λ k ch hv=>by
   refine(jg ad1 (n:=n) rfl rfl (by rw[y k];rfl)).trans ?_
   rw[bv8 hv]
   exact zL)
  (λ k i j hv=>by
   refine(jg ad3 (n:=n) rfl rfl (by rw[y k];rfl)).trans ?_
   have J:=(ac.mp hv).1
   obtain⟨Y,h2,_⟩:=hk k _ hv
   rw[bv8 hv,show at9 a c (vl a c (l.take k)) (.pair i j)=(vl a c (l.take k)).getD i 0+(vl a c (l.take k)).getD j 0 from rfl,aI9 (by lia) Y,aI9 (by omega) h2]
   exact zL)
  (λ k i hv=>by
   refine(jg ad2 (n:=n) rfl rfl (by rw[y k];rfl)).trans ?_
   have J:=(ac.mp hv).1
   obtain⟨Y,_⟩:=hk k _ hv
   rw[bv8 hv,show at9 a c (vl a c (l.take k)) (.sharp i)=(vl a c (l.take k)).getD i 0*c from rfl,aI9 (by lia) Y]
   have hb:=Z i ((vl a c l).getD i 0) (by rw[aN,aj (by lia)];rfl)
   have mo:mulOk ((vl a c l).getD i 0) c=true:=bJ2 (bB9 hb.1 (cw hb.2.2.1 (by lia))) (cq5 hc h)
   show(ev (aa1 P n) (.G .mul (.X 0) (.X 1)) [some (.int ((vl a c l).getD i 0)),some (.int c)] _).bind (zJ _)=_
   simp only[qI,ze,zg,zh,R.bind_ok,ag4 mo]
   exact zL)
 rw[e0,show(bn some [D.ref p,.int a]++aq ae4.vs none)=[some (D.ref p),some (.int a)]from rfl]
 simp only[ae4,za,zl,qD,jb,zN,ze,zg,zh,R.bind_ok]
 rw[qt (cs:=[.int a]) _ rfl,qt (cs:=[]) _ rfl,qt (cs:=[]) _ rfl]
 simp only[zE,R.bind_ok,hf]
 have:=y l.length
 rw[if_pos (by rw[this];rfl)]
 rw[bJ7]
 simp only[R.bind_ok,zV,zU]
 exact ji (by unfold O.bnd;exact zR aR1 _)
section
variable {P:Pr} [Has P ac3] [Has P ae4] [HasL P ad2] [HasL P ad3] [HasL P ad1] [Has P ad8]
theorem aV6 [Has P af6][HasC P "LETTER_WEIGHT" (.int 3)] n {l}(hl:l.length<=5100)(hk:al8 l){s}(hs:s.all O.ncl=true)(m:Mc) :
  (aa1 P (n+4)).call "weights" [m.d,.tp (l.map Stp.d)] s=.ok (.ref s.length) (s++[.J (br0 (vl 3 2 l))]):=by
 have y:(aa1 P (n+4)).call "weights" [m.d,.tp (l.map Stp.d)] s=_:=zd af6 (n:=n+3) rfl
 have h:(aa1 P (n+3)).con "LETTER_WEIGHT"=some (.int 3):=ay0
 have eg:∀(U:Env) (s:Sto),ev (aa1 P (n+3)) (.gl "LETTER_WEIGHT") U s=.ok (.int 3) s:=λ U s=>by
  show(match(aa1 P (n+3)).con "LETTER_WEIGHT" with|some d=>R.ok d s|none=>.B)=_
  rw[h]
 have G:=aV5 (P:=P) n (c:=2) hl hk (s:=s++[.J (l.map (Stp.t 2))]) (p:=s.length) (by rw[am (ak _)];simp) (qh hs bC3) (a:=3) (by decide) (by decide) (by decide) (by decide)
 rw[y,show(bn some [m.d,D.tp (l.map Stp.d)]++aq af6.vs none)=[some m.d,some (D.tp (l.map Stp.d))]from rfl]
 simp only[af6,za,zl,qD,qb,zN,zE,ze,zB,zC,zg,zh,R.bind_ok,at0 (n+2) hl,eg,G,zV,zU,aU,aR,cV,cD,cG,c6,dT]
 exact bp7 (by unfold O.bnd;exact zR aR1 _)
end
section
variable {P:Pr} [Has P ad7] [Has P ad5] [Has P ad9] [Has P aa8] [Has P ab3] [Has P aa4] [HasL P aa2] [Has P ae1] [HasL P ab1] [Has P ab4] [HasL P aa6] [Has P ae0] [Has P af7] [HasC P "product" (.fn "product")] [HasC P "power" (.fn "power")] [Has P ac3] [Has P ac8] [HasL P ab9]
theorem bs1 {α:Type}(h:1<=n)(Ww:Nat->α):((ai n).map Ww)[((ai n).map Ww).length - 1]?=some (Ww (n - 1)):=by
 rw[aD,cX,av,be (by omega)];rfl
theorem bb3 {s:Sto}(hs:s.all O.ncl=true)(h:∀ k,(Ww k).ncl=true) k :(s++[O.J ((ai k).map Ww)]).all O.ncl=true :=
 qh hs (zF λ d hd=>by obtain⟨x,_,rfl⟩:=az.mp hd;exact h x)
theorem aB1 n (y:m.Ok)(hl:l.length<=5100)(h1:1<=l.length)(hk:cq7 l)(hs:s.all O.ncl=true)(hsr:∀ r∈src,r<s.length)(Y:∀ t,av4 h (s++t)=.ok ⟨l.map Rst.d,src⟩ (s++t)) :
  (aa1 P (n+8)).call "last_table" [m.d,h] s=.ok (tbD m (wd l (l.length - 1))) s:=by
 have e0:(aa1 P (n+8)).call "last_table" [m.d,h] s=_:=zd ac8 rfl
 have G:=bb3 hs (Ww:=λ k=>tbD m (wd l k)) (λ k=>bP7)
 have hf:=aV2 (P:=P) (n+6) hl hk hsr Y (.clo "last_table.0" [m.d]) (.fn "product") (.fn "power") (λ k=>tbD m (wd l k)) (λ _ n=>al2 n)
  (λ k ch hv=>by
   refine(jg ab9 rfl rfl (by rw[G k];unfold D.nclL;rw[bB2];rfl)).trans ?_
   have e1:=jB (P:=P) (n+1) y ch (G k)
   rw[bA2 y (am6.letter ch)]at e1
   rw[cw4 hv]
   show(ev (aa1 P (n+5)) (.call "letter_table" (.ex (.X 1) (.ex (.X 0) .nil))) [some (.str [ch]),some m.d] _).bind (zJ _)=_
   tbr_iter [e1]
   exact zt al2 (by nofun))
  (λ k i j hv=>by
   obtain⟨J,hj⟩:=hk k _ hv
   rw[cx0 hv J hj,<-bh9 y]
   exact jl (n+2) y.R5 _ _ (G k))
  (λ k i q hv=>by
   have J:=hk k _ hv
   rw[cx3 hv J]
   exact ba5 n y _ q (G k))
 have g1:=λ U s=>aJ7 (P:=P) (n:=n+7) (x := "product") (d:=.fn "product") U s
 have Z:=λ U s=>aJ7 (P:=P) (n:=n+7) (x := "power") (d:=.fn "power") U s
 have il:=aB6 (bK6 (s:=s)) (bs1 h1 λ k=>tbD m (wd l k))
 rw[e0,show(bn some [m.d,h]++aq ac8.vs none)=[some m.d,some h]from rfl,show ac8.body=(.cons (.ret (.ix (.callC "folded" (.ex (.X 1) (.lam "last_table.0" [0] (.ex (.gl "product") (.ex (.gl "power") .nil))))) (.neg (.K (.int 1))))) .nil)from rfl]
 simp only[za,qD,qz,jb,zN,ze,zg,zh,R.bind_ok]
 rw[qt (cs:=[m.d]) _ rfl]
 simp only[zN,zE,g1,Z,R.bind_ok,hf]
 rw[if_pos (by rw[G l.length];rfl)]
 simp only[R.bind_ok,bb0,il,zV,zU]
 exact zW al2 (by nofun)
end
noncomputable def Stp.r (c:Nat):Stp->Rst
 | .let_ x=>.let_ x
 | .pair i j=>.pair i j
 | .sharp i=>.times i c
theorem Stp.t_r (c:Nat)(l:List Stp):l.map (Stp.t (c))=(l.map (Stp.r c)).map Rst.d:=by
 rw[dh]
 exact bZ λ x _=>by cases x<;>rfl
theorem al8.b (h:al8 l) c :cq7 (l.map (Stp.r c)):=λ k x e=>by
 rw[av,dg]at e
 obtain⟨y,hy,rfl⟩:=e
 have:=h k y hy
 cases y with
 | let_ x=>trivial
 | pair i j=>exact⟨this.1,this.2.1⟩
 | sharp i=>exact this.1
section
variable {P:Pr} [Has P ad8] [Has P aa8] [Has P ae7]
theorem aJ6 n {l:List Stp}(hl:l.length<=5100){m:Mc}(y:m.Ok)(q:Nat) s :
  (aa1 P (n+2)).call "unrolled" [m.d,.tp (l.map Stp.d),.int (q:Int)] s=.ok (.ref s.length) (s++[.J ((l.map (Stp.r ((q+1)*m.R))).map Rst.d)]):=by
 have G:=y.R5
 have e2:(aa1 P (n+2)).call "unrolled" [m.d,.tp (l.map Stp.d),.int (q:Int)] s=_:=zd ae7 (n:=n+1) rfl
 have h:mulOk ((q:Int)+1) (m.R:Int)=true:=aL7 (by omega)
 have e:((q:Int)+1)*(m.R:Int)=(((q+1)*m.R:Nat):Int):=by rw[gZ];rfl
 rw[e2,show(bn some [m.d,D.tp (l.map Stp.d),D.int (q:Int)]++aq ae7.vs none)=[some m.d,some (D.tp (l.map Stp.d)),some (.int (q:Int))]from rfl]
 simp only[ae7,za,zl,qD,qb,zN,zE,ze,qI,zB,zC,zg,zh,R.bind_ok,add_int,jR n,ag4 h,at0 n hl,zV,zU]
 rw[e,<-Stp.t_r]
 exact ji bD3
theorem bR6 {L}{s:Sto}:∀ t,av4 (.ref s.length) (s++[.J L]++t)=.ok ⟨L,[s.length]⟩ (s++[.J L]++t):=λ t=>by
 simp only[av4,show(s++[O.J L]++t)[s.length]?=some (.J L)from jx bK6]
variable [Has P ad7] [Has P ad5] [Has P ad9] [Has P ab3] [Has P aa4] [HasL P aa2] [Has P ae1] [HasL P ab1] [Has P ab4] [HasL P aa6] [Has P ae0] [Has P af7] [HasC P "product" (.fn "product")] [HasC P "power" (.fn "power")] [Has P ac3] [Has P ac8] [HasL P ab9] [Has P ac0]
theorem al1 n (hl:l.length<=5100)(J:1<=l.length)(hk:al8 l)(h:m.Ok)(q:Nat)(hs:s.all O.ncl=true) :
  (aa1 P (n+9)).call "table_unrolled" [m.d,.tp (l.map Stp.d),.int (q)] s=.ok (tbD m (wd (l.map (Stp.r ((q+1)*m.R))) (l.length - 1))) s:=by
 have G:(aa1 P (n+9)).call "table_unrolled" [m.d,.tp (l.map Stp.d),.int (q)] s=_:=zd ac0 rfl
 have e1:=aJ6 (P:=P) (n+6) hl h q s
 have y:(s++[O.J ((l.map (Stp.r ((q+1)*m.R))).map Rst.d)]).all O.ncl=true:=by rw[<-Stp.t_r];exact qh hs bC3
 have e2:=aB1 (P:=P) n h (by rw[aD];exact hl) (by rw[aD];exact J) (hk.b _) y (by simp) (bR6 )
 rw[aD]at e2
 rw[G,show(bn some [m.d,D.tp (l.map Stp.d),D.int (q)]++aq ac0.vs none)=[some m.d,some (D.tp (l.map Stp.d)),some (.int (q))]from rfl,show ac0.body=(.cons (.ret (.call "last_table" (.ex (.X 0) (.ex (.call "unrolled" (.ex (.X 0) (.ex (.X 1) (.ex (.X 2) .nil)))) .nil)))) .nil)from rfl]
 tbr_iter [e1,e2]
 exact zW al2 (by nofun)
end
noncomputable def bg (w:List Nat):List Nat:=w.take 2001
section
variable {P:Pr} [HasC P "MOST_WRITTEN" (.int 2000)] [Has P bn1] [Has P aj4]
variable [HasC P "begun_times" (.fn "begun_times")] [Has P ac3] [Has P ap2] [HasL P jM] [HasL P jK]
variable [Has P ad8] [Has P aa8] [Has P ae7] [Has P ju]
end
section
variable {P:Pr} [Has P jh] [Has P aq0]
end
section
variable {P:Pr} [Has P jh] [Has P aq0] [Has P ak7]
end
def bA9 (m:Nat)(f:Nat->Nat->Option Int):Sto:=(ai m).map λ i=>.J (rowO m (f i))
@[simp] theorem bU4 :(bA9 m f).length=m:=by unfold bA9;simp
section
variable {P:Pr} [Has P jh] [Has P aq0] [Has P ak7] [Has P qH] [Has P bj8]
end
section
variable {P:Pr} [Has P jh] [Has P aq0] [Has P ak7] [Has P qH] [Has P bI5]
end
section
variable {P:Pr} [Has P jh] [Has P bd7]
end
section
variable {P:Pr} [Has P ad7] [Has P ad5] [Has P ad9] [Has P aa8] [Has P jr] [Has P aj9] [Has P ab3] [Has P aa4] [HasL P aa2] [Has P ae1] [HasL P ab1] [Has P ab4] [HasL P aa6] [Has P ae0] [Has P af7] [HasC P "product" (.fn "product")] [HasC P "power" (.fn "power")] [Has P ac3] [Has P ac8] [HasL P ab9] [Has P am0] [Has P zM] [Has P aa7] [Has P aO1] [Has P aG4]
end
def IsL (m:Nat)(f:Nat->Nat->Int)(L:Nat):Prop:=L<=5000/\bT2 m (pw m f L)/\∀ k,k<L->¬ bT2 m (pw m f k)
section
variable {P:Pr} [Has P ad7] [Has P aa5] [HasL P aa3] [Has P ab6] [Has P zT]
end
section
variable {P:Pr} [Has P ab2] [Has P av1]
end
section
variable {P:Pr} [Has P ab2] [Has P aE9] [Has P aH9]
end
section
variable {m:Mc} {c:Nat} {l:List Rst}
end
section
variable {P:Pr} [Has P ad7] [Has P aa5] [HasL P aa3] [Has P ab6] [Has P zT] [Has P ac7] [Has P ac5] [HasL P ab0] [HasC P "FREE" (.int 0)] [HasC P "SOME" (.int 1)] [HasC P "UNBOUND" (.int 2)] [HasC P "NONE" (.int 3)] [Has P ae0] [Has P af8] [HasL P af0] [Has P ag2] [HasC P "sign_product" (.fn "sign_product")] [Has P qV] [Has P qF]
end
section
variable {P:Pr} [Has P ad7] [Has P aa5] [HasL P aa3] [Has P ab6] [Has P zT] [Has P ac7] [Has P ac5] [HasL P ab0] [HasC P "FREE" (.int 0)] [HasC P "SOME" (.int 1)] [HasC P "UNBOUND" (.int 2)] [HasC P "NONE" (.int 3)] [Has P ae0] [Has P af8] [HasL P af0] [Has P ag2] [HasC P "sign_product" (.fn "sign_product")] [Has P qV] [Has P qF]
 [Has P ae5] [Has P ae8] [HasL P ac1] [Has P ad5] [Has P ad9] [Has P aa8] [Has P ab3] [Has P aa4] [HasL P aa2] [Has P ae1] [HasL P ab1] [Has P ab4] [HasL P aa6] [Has P aa7] [Has P ac2] [Has P ac3] [Has P am5] [HasL P ah7] [HasL P ah2] [HasC P "LETTER_WEIGHT" (.int 3)] [HasC P "signs_of_pair" (.fn "signs_of_pair")]
end
section
variable {P:Pr} [Has P ab2] [Has P aE9] [Has P aH9] [Has P av1] [Has P ae6] [Has P aE1] [Has P aa9] [Has P bJ6]
end
structure Go1 (n:Nat)(S:Int->Prop)(x Ww:Int):Prop where
 lo:0<=x
 hi:x<=3
 z:x=0↔S 0
 t:x=3↔∀ c,¬ S c
 one:x<=1->∃ c,S c/\c<=Ww
 few:∀ c,S c->c<=n->x<=1
def Go (m:Mc)(n:Nat)(w:List Nat)(g:Nat->Nat->Int)(Ww:Int):Prop:=∀ i j,i<m.R->j<m.R->Go1 n (Wk m.ds w i j) (g i j) Ww
section
variable {m:Mc} {n:Nat}
theorem Go.inG (h:Go m n w g Ww):InG m.R g:=λ i j hi hj=>⟨(h i j hi hj).lo,(h i j hi hj).hi⟩
theorem Go.congr (h:Go m n w f Ww)(e:EqG m.R f g):Go m n w g Ww:=λ i j y hj=>by
 rw[<-e i j y hj];exact h i j y hj
theorem Go.there (h:Go m n w g Ww)(y:i<m.R)(hj:j<m.R)(G:g i j<=2):∃ c,Wk m.ds w i j c :=
 cT λ k=>by have:=(h i j y hj).t.mpr λ c hc=>k ⟨c,hc⟩;lia
theorem Go.mul (Z:m.Ok)(h:Go m n v f A)(h':Go m n w g B):Go m n (v++w) (pr m.R f g) (A+B):=λ i j hi hj=>by
 have Y:=ci6 Z.R1 h.inG h'.inG i j hi hj
 have le:∀ x:Int,pr m.R f g i j<=x↔∃ l,l<m.R/\f i l<=x/\g l j<=x:=λ x=>aF1 Z.R1 h.inG h'.inG hi hj
 refine⟨Y.1,Y.2,⟨λ e=>?_,λ e=>?_⟩,⟨λ e c hc=>?_,λ e=>?_⟩,λ e=>?_,λ c hc hn=>?_⟩
 .obtain⟨l,hl,G,J⟩:=(le 0).mp (by lia)
  have a:=h i l hi hl
  have b:=h' l j hl hj
  exact ah0.mpr ⟨l,0,0,a.z.mp (by have:=a.lo;lia),b.z.mp (by have:=b.lo;lia),rfl⟩
 .obtain⟨l,a,b,G,J,e2⟩:=ah0.mp e
  have:=au6 G
  have:=au6 J
  have ea:a=0:=by lia
  have eb:b=0:=by lia
  subst ea eb
  have hl:=aJ5 Z hi G
  have:=(le 0).mpr ⟨l,hl,by rw[(h i l hi hl).z.mpr G];exact cy _,by rw[(h' l j hl hj).z.mpr J];exact cy _⟩
  lia
 .obtain⟨l,a,b,G,J,_⟩:=ah0.mp hc
  have hl:=aJ5 Z hi G
  have x:=h i l hi hl
  have y:=h' l j hl hj
  have n1:f i l≠3:=λ z=>x.t.mp z a G
  have n2:g l j≠3:=λ z=>y.t.mp z b J
  have:=(le 2).mpr ⟨l,hl,by have:=x.hi;lia,by have:=y.hi;lia⟩
  lia
 .refine cT λ k=>?_
  obtain⟨l,hl,G,J⟩:=(le 2).mp (by have:=Y.2;lia)
  obtain⟨a,ha⟩:=h.there hi hl G
  obtain⟨b,hb⟩:=h'.there hl hj J
  exact e _ (ah0.mpr ⟨l,a,b,ha,hb,rfl⟩)
 .obtain⟨l,hl,G,J⟩:=(le 1).mp e
  obtain⟨a,ha,a0⟩:=(h i l hi hl).one G
  obtain⟨b,hb,a1⟩:=(h' l j hl hj).one J
  exact⟨a+b,ah0.mpr ⟨l,a,b,ha,hb,rfl⟩,by lia⟩
 .obtain⟨l,a,b,G,J,e2⟩:=ah0.mp hc
  have:=au6 G
  have:=au6 J
  have hl:=aJ5 Z hi G
  exact(le 1).mpr ⟨l,hl,(h i l hi hl).few a G (by lia),(h' l j hl hj).few b J (by lia)⟩
theorem Go.unit:Go m n [] un 0:=λ i j h hj=>by
 unfold un
 by_cases e:i=j
 .rw[if_pos e]
  exact⟨by decide,by decide,⟨λ _=>⟨e,rfl⟩,λ _=>rfl⟩,⟨λ z=>by lia,λ z=>absurd ⟨e,rfl⟩ (z 0)⟩,λ _=>⟨0,⟨e,rfl⟩,by decide⟩,λ _ _ _=>by decide⟩
 .rw[if_neg e]
  exact⟨by decide,by decide,⟨λ z=>by lia,λ z=>absurd z.1 e⟩,⟨λ _ c hc=>e hc.1,λ _=>rfl⟩,λ z=>by lia,λ c hc _=>absurd hc.1 e⟩
theorem Go.letter (h:m.Ok) ch :Go m n [ch] (sgM m ch) 3:=λ i j hi hj=>by
 have x:=SgW.letter m ch i j hi hj
 refine⟨x.lo,x.hi,x.z,x.t,λ e=>?_,λ c hc _=>?_⟩
 .obtain⟨c,hc⟩:∃ c,Wk m.ds [ch] i j c:=cT λ k=>by have:=x.t.mpr λ c hc=>k ⟨c,hc⟩;lia
  refine⟨c,hc,?_⟩
  obtain⟨d,hd,_,_,_,rfl⟩:=ak5.mp hc
  have:=(h.ds.1 d hd).t
  lia
 .have h3:sgM m ch i j≠3:=λ z=>x.t.mp z c hc
  have:=x.n2
  have:=x.hi
  lia
theorem Go.pow (y:m.Ok)(h:Go m n w f A):∀ q:Nat,Go m n (rep q w) (qw m.R f q) ((q)*A)
 | 0=>by rw[show((0:Nat))*A=0 by simp];exact Go.unit
 | q+1=>by
  have:=(Go.pow y h q).mul y h
  rw[show rep (q+1) w=rep q w++w by rw[al3,bk4],show((q+1:Nat))*A=(q)*A+A by push_cast;rw[kB,fZ]]
  exact this
end
theorem az0:∀ R (S:List Nat),S.Nodup->(∀ x∈S,x<R)->S.length<=R
 | 0,[],_,_=>ak _
 | 0,x::S,_,h=>absurd (h x (aG ..)) (fe _)
 | R+1,S,hn,h=>by
  have G:=az0 R (S.filter λ x=>decide (x≠R)) (hn.filter _) λ x hx=>by
   have:=eZ.mp hx
   have y:=h x this.1
   have h3:=of_decide_eq_true this.2
   lia
  have y:∀ T:List Nat,T.Nodup->T.length<=(T.filter λ x=>decide (x≠R)).length+1:=by
   intro T
   induction T with
   | nil=>intro _;exact c8 _
   | cons a T ih =>
    intro hn
    rw[cI]at hn
    by_cases e:a=R
    .subst e
     have h3:(T.filter λ x=>decide (x≠a))=T:=List.filter_eq_self.mpr λ x hx=>decide_eq_true λ z=>hn.1 (z▸hx)
     rw[List.filter_cons_of_neg (by simp),h3]
     exact ak _
    .have:=ih hn.2
     rw[List.filter_cons_of_pos (by simpa using e)]
     simp only[aR]
     lia
  have:=y S hn
  lia
section
variable {m:Mc} (hm:m.Ok) {n:Nat} {u:List Nat} {g:Nat->Nat->Int} {Ww:Int} (h:Go m n u g Ww) (hst:bT2 m.R g)
include hm h hst
theorem cf6:∀ t,1<=t->EqG m.R (qw m.R g t) g
 | 1,_=>cr5 hm.R1 h.inG
 | t+2,_=>λ i j y hj=>by
  have:=cf6 (t+1) (by lia)
  exact((this.pr (λ _ _ _ _=>rfl)) i j y hj).trans (hst i j y hj)
theorem ce3 (ht:1<=t):Go m n (rep t u) g ((t)*Ww):=(h.pow hm t).congr (cf6 hm h hst t ht)
theorem cb3 (y:i<m.R)(hk:k<m.R)(hj:j<m.R)(G:g i k<=x)(J:g k j<=x):g i j<=x:=by
 rw[<-hst i j y hj]
 exact(aF1 hm.R1 h.inG h.inG y hj).mpr ⟨k,hk,G,J⟩
theorem st_walk (hi:i<m.R):∀ t j c ,Wk m.ds (rep t u) i j c->c<=n ->
  (∃ l,l<m.R/\(g i l<=1\/i=l)/\g l l=0/\(g l j<=1\/l=j)) \/
  ∃ S:List Nat,S.Nodup/\(∀ l∈S,l<m.R/\(g i l<=1\/i=l)/\(g l j=0\/l=j))/\(g i j<=1\/i=j)/\(t)+1<=c*m.R+S.length
 | 0,j,c,hw,hn=>by
  obtain⟨e1,e2⟩:=hw
  subst e1 e2
  exact .inr ⟨[i],by simp,λ l hl=>by rw[bv.mp hl];exact⟨hi,.inr rfl,.inr rfl⟩,.inr rfl,by simp⟩
 | t+1,j,c,hw,hn=>by
  rw[show rep (t+1) u=rep t u++u by rw[al3,bk4]]at hw
  obtain⟨k,a,b,Y,Z,e⟩:=ah0.mp hw
  have na:=au6 Y
  have nb:=au6 Z
  have hk:=aJ5 hm hi Y
  have hj:=aJ5 hm hk Z
  have J:=(h k j hk hj).few b Z (by lia)
  have on:∀ l,l<m.R->(g l k<=1\/l=k)->g l j<=1:=λ l hl hx=>by
   rcases hx with hx|rfl
   .exact cb3 hm h hst hl hk hj hx J
   .exact J
  rcases st_walk hi t k a Y (by lia)with⟨l,hl,l1,y,l3⟩|⟨S,hS,hA,hik,hlen⟩
  .exact .inl ⟨l,hl,l1,y,.inl (on l hl l3)⟩
  .have hij:=on i hi hik
   have a0:=az0 m.R S hS λ l hl=>(hA l hl).1
   by_cases hb:b=0
   .subst hb
    have gz:=(h k j hk hj).z.mpr Z
    have G:∀ l,l<m.R->(g l k=0\/l=k)->g l j=0:=λ l hl hx=>by
     rcases hx with hx|rfl
     .have:=cb3 hm h hst hl hk hj (x:=0) (by lia) (by lia)
      have:=(h l j hl hj).lo
      lia
     .exact gz
    by_cases hjS:j∈S
    .obtain⟨_,l1,y⟩:=hA j hjS
     exact .inl ⟨j,hj,l1,G j hj y,.inr rfl⟩
    .refine .inr ⟨j::S,cI.mpr ⟨hjS,hS⟩,λ l hl=>?_,.inl hij,?_⟩
     .rcases aB.mp hl with rfl|hl
      .exact⟨hj,.inl hij,.inr rfl⟩
      .obtain⟨l0,l1,y⟩:=hA l hl
       exact⟨l0,l1,.inl (G l l0 y)⟩
     .have:c=a:=by lia
      rw[this]
      simp only[aR]
      push_cast
      lia
   .refine .inr ⟨[j],by simp,λ l hl=>by rw[bv.mp hl];exact⟨hj,.inl hij,.inr rfl⟩,.inl hij,?_⟩
    have Y:(a+1)*(m.R)<=c*m.R:=eO (by lia) (by lia)
    rw[kB,fZ]at Y
    simp only[aR]
    push_cast
    lia
theorem bu6 (hW:0<=Ww)(ht:(n+1)*m.R<=t):Go m n (rep t u) (sh m.R g) (2*Ww):=λ i j y hj=>by
 have hR:=hm.R1
 have a0:1<=t:=ao (by rw[lv];lia) ht
 have G:=ce3 hm h hst a0 i j y hj
 obtain⟨s1,s2,s3⟩:=bP5 hR h.inG hst y hj
 have Z:=cg6 hR h.inG i j y hj
 refine⟨Z.1,Z.2,s2.trans G.z,s3.trans G.t,λ e=>?_,λ c hc hn=>?_⟩
 .rcases(aQ2 m.R).mp (e)with z|⟨l,hl,l1,J,Y⟩
  .lia
  .have l0:g l l=0:=by
    have:=(h l l hl hl).lo
    by_cases q:g l l=1
    .rw[if_pos q]at J;lia
    .rw[if_neg q]at J;lia
   by_cases t1:t=1
   .subst t1
    obtain⟨c,hc,a2⟩:=(h i j y hj).one (by lia)
    exact⟨c,by rw[bk4];exact hc,by lia⟩
   .obtain⟨a,ha,a3⟩:=(h i l y hl).one l1
    obtain⟨b,hb,a5⟩:=(h l j hl hj).one Y
    have hz:Wk m.ds (rep (t - 2) u) l l 0:=by
     by_cases t2:t - 2=0
     .rw[t2];exact⟨rfl,rfl⟩
     .exact(ce3 hm h hst (by lia) l l hl hl).z.mp l0
    refine⟨a+(0+b),?_,by lia⟩
    rw[show t=1+((t - 2)+1)by lia,al3,al3,bk4]
    exact ah0.mpr ⟨l,a,0+b,ha,ah0.mpr ⟨l,0,b,hz,hb,rfl⟩,rfl⟩
 .have fin:∀ l,l<m.R->(g i l<=1\/i=l)->g l l=0->(g l j<=1\/l=j)->sh m.R g i j<=1:=λ l hl l1 J Y=>by
   refine(aQ2 m.R).mpr (.inr ⟨l,hl,?_,?_,?_⟩)
   .rcases l1 with q|rfl
    .exact q
    .lia
   .rw[if_neg (by lia)];lia
   .rcases Y with q|rfl
    .exact q
    .lia
  rcases st_walk hm h hst y t j c hc hn with⟨l,hl,l1,J,Y⟩|⟨S,hS,hA,_,hlen⟩
  .exact fin l hl l1 J Y
  .have a4:=az0 m.R S hS λ l hl=>(hA l hl).1
   have a1:=au6 hc
   have h1:c*(m.R)<=(n)*m.R:=eO (by omega) (by lia)
   have h2:(((n+1)*m.R:Nat))<=(t:Int):=by omega
   push_cast at h2
   rw[kB,fZ]at h2
   lia
end
structure Gx (ns:List Int)(r:Nat)(u:Sto):Prop where
 scr:u[0]?=some (.ro (ns.map D.int))
 ncl:u.all O.ncl=true
 box:∃ b,u[r]?=some (jc b)
 r0:r≠0
theorem Gx.put (h:Gx ns r u) b :Gx ns r (u.set r (jc b)):=⟨by rw[br h.r0];exact h.scr,bK1 h.ncl rfl,as6 (bi3 h.box),h.r0⟩
theorem Gx.snoc (h:Gx ns r u)(ho:o.ncl=true):Gx ns r (u++[o]):=⟨jx h.scr,qh h.ncl ho,by obtain⟨b,hb⟩:=h.box;exact⟨b,jx hb⟩,h.r0⟩
section
variable {P:Pr} [HasC P "FREE" (.int 0)] [HasC P "SOME" (.int 1)] [HasC P "NONE" (.int 3)] [Has P ae5] [Has P ad7] [Has P ae8] [HasL P ac1] [Has P ad5] [Has P ad9] [Has P aa8] [Has P ab3] [Has P aa4] [HasL P aa2] [Has P ae1] [HasL P ab1] [Has P ab4] [HasL P aa6] [Has P aa7] [Has P ac2] [Has P jr] [Has P aj9] [Has P zM] [Has P aw6] [Has P aO1] [Has P aa5] [HasL P aa3]
 [Has P ai8] [Has P af5] [Has P bk3] [Has P ab2] [Has P aE9] [Has P ad4] [Has P aa9] [Has P bf6]
end
noncomputable def bU7:Ss:=(.cons (.ite (.or (.Z .ne (.Z .eq (.X 7) (.K (.int 3))) (.isN (.X 6))) (.Z .ne (.Z .eq (.X 7) (.K (.int 0))) (.Z .eq (.X 6) (.K (.int 0))))) (.cons (.ret (.K (.T false))) .nil) .nil) (.cons (.ite (.or (.and (.Z .eq (.X 7) (.K (.int 2))) (.Z .le (.X 6) (.X 2))) (.and (.Z .eq (.X 7) (.K (.int 1))) (.not (.chain .le .le (.K (.int 1)) (.X 6) (.X 3))))) (.cons (.ret (.K (.T false))) .nil) .nil) .nil))
theorem bN0:ak0.body=(.cons (.ite (.Z .ne (.bi .len (.cons (.X 0) .nil)) (.bi .len (.cons (.X 1) .nil))) (.cons (.ret (.K (.T false))) .nil) .nil) (.cons (.fo (.tp [4,5]) (.zip (.seq (.X 0)) (.seq (.X 1))) (.cons (.fo (.tp [6,7]) (.zip (.seq (.X 4)) (.seq (.X 5))) bU7) .nil)) (.cons (.ret (.K (.T true))) .nil))):=rfl
structure GoT (n Ww:Int)(o:Option Int)(x:Int):Prop where
 lo:0<=x
 hi:x<=3
 t:x=3↔o=none
 z:x=0↔o=some 0
 two:x=2->∀ c,o=some c->n<c
 one:x=1->∀ c,o=some c->1<=c/\c<=Ww
theorem bG8 :qj .eq .N (.int 0) s=.ok (.T false) s:=rfl
theorem ct7 (h:GoT n Ww o x) s x0 x1 Y J :
  exs F bU7 [x0,x1,some (.int n),some (.int Ww),Y,J,some (qE o),some (.int x)] s=.ok (.next [x0,x1,some (.int n),some (.int Ww),Y,J,some (qE o),some (.int x)]) s:=by
 have hn:∀ c:Int,¬ D.int c=D.N:=λ c e=>nomatch e
 cases o with
 | none =>
  have hx:=h.t.mpr rfl
  subst hx
  unfold bU7
  rw[show qE none=D.N from rfl]
  tbr_iter [ev_isN,bG8,bz9,show((3:Int)=0)=False by decide,show((3:Int)=2)=False by decide,show((3:Int)=1)=False by decide,beq_self_eq_true]
 | some c =>
  have h3:¬ x=3:=λ e=>nomatch h.t.mp e
  have hz:=propext ⟨λ e=>aw (h.z.mp e),λ e=>h.z.mpr (by rw[e])⟩
  unfold bU7
  rw[show qE (some c)=D.int c from rfl]
  by_cases q2:x=2
  .have hc:=h.two q2 c rfl
   have G:¬ c<=n:=by lia
   have y:¬ c=0:=by rw[<-hz];lia
   subst q2
   tbr_iter [ev_isN,hn,y,bz9,beq_self_eq_true,G,eq_self,show((2:Int)=1)=False by decide,show((2:Int)=3)=False by decide,show((2:Int)=0)=False by decide]
  .by_cases q1:x=1
   .obtain⟨a1,a2⟩:=h.one q1 c rfl
    have y:¬ c=0:=by lia
    tbr_iter [ev_isN,ax4,hn,bz9,beq_self_eq_true,q1,y,a1,a2,show((1:Int)=2)=False by decide,show((1:Int)=3)=False by decide,show((1:Int)=0)=False by decide]
   .tbr_iter [ev_isN,hn,h3,hz,bz9,beq_self_eq_true,q2,q1]
theorem br2 :aj0 (gdO m f) s=.ok ⟨(ai m).map λ i=>.tp (rowO m (f i)),[]⟩ s:=rfl
theorem bb5 :aj0 (.tp (rowO m f)) s=.ok ⟨(ai m).map λ j=>qE (f j),[]⟩ s:=rfl
theorem cj5 [Has P ak0] k {m}{f}{g}{n Ww}(h:∀ i j,i<m->j<m->GoT n Ww (f i j) (g i j)) s :
  (aa1 P (k+1)).call "_law_goes" [gdO m f,gd m g,.int n,.int Ww] s=.ok (.T true) s:=by
 have e0:(aa1 P (k+1)).call "_law_goes" [gdO m f,gd m g,.int n,.int Ww] s=_:=zd ak0 rfl
 rw[e0,bN0,show(bn some [gdO m f,gd m g,D.int n,.int Ww]++aq ak0.vs none)=[some (gdO m f),some (gd m g),some (.int n),some (.int Ww),none,none,none,none]from rfl]
 tbr_iter [aC2,aS9,bo4,br2,bS1,aQ0,bf]
 have a0:∀ i,i<m->∀ J Y y G,∃ U' s',aX1 (λ s1=>chk s s1 []) (turn (aa1 P k) (.tp [6,7]) bU7) ((ai m).map λ j=>.tp [qE (f i j),.int (g i j)]) [some (gdO m f),some (gd m g),some (.int n),some (.int Ww),J,Y,y,G] s=.ok (.next U') s'/\∃ y G,U'=[some (gdO m f),some (gd m g),some (.int n),some (.int Ww),J,Y,y,G]/\s'=s:=λ i hi J Y y G=>by
  refine jP (λ _ U t=>∃ y G,U=[some (gdO m f),some (gd m g),some (.int n),some (.int Ww),J,Y,y,G]/\t=s) _ 0 _ _ ⟨y,G,rfl,rfl⟩ (λ _ _ _ _ _=>rfl) ?_
  rintro j d U t hj ⟨y,G,rfl,rfl⟩
  obtain⟨a1,rfl⟩:=aG5 hj
  refine⟨[some (gdO m f),some (gd m g),some (.int n),some (.int Ww),J,Y,some (qE (f i j)),some (.int (g i j))],t,.inl ?_,_,_,rfl,rfl⟩
  .unfold turn
   rw[show jO [some (gdO m f),some (gd m g),some (.int n),some (.int Ww),J,Y,y,G] (.tp [6,7]) (.tp [qE (f i j),.int (g i j)])=some [some (gdO m f),some (gd m g),some (.int n),some (.int Ww),J,Y,some (qE (f i j)),some (.int (g i j))]from rfl]
   exact ct7 (h i j hi a1) t _ _ _ _
 have Z:=jP (ok:=λ s1=>chk s s1 []) (g:=turn (aa1 P k) (.tp [4,5]) (.cons (.fo (.tp [6,7]) (.zip (.seq (.X 4)) (.seq (.X 5))) bU7) .nil)) (λ _ U t=>∃ J Y y G,U=[some (gdO m f),some (gd m g),some (.int n),some (.int Ww),J,Y,y,G]/\t=s) ((ai m).map λ i=>.tp [.tp (rowO m (f i)),.tp (row m (g i))]) 0 [some (gdO m f),some (gd m g),some (.int n),some (.int Ww),none,none,none,none] s ⟨none,none,none,none,rfl,rfl⟩ (λ _ _ _ _ _=>rfl) (by
  rintro i d U t hi ⟨J,Y,y,G,rfl,rfl⟩
  obtain⟨a2,rfl⟩:=aG5 hi
  obtain⟨U',s',e,y6,y7,rfl,rfl⟩:=a0 i a2 (some (.tp (rowO m (f i)))) (some (.tp (row m (g i)))) y G
  refine⟨[some (gdO m f),some (gd m g),some (.int n),some (.int Ww),some (.tp (rowO m (f i))),some (.tp (row m (g i))),y6,y7],s',.inl ?_,_,_,y6,y7,rfl,rfl⟩
  unfold turn
  tbr_iter [bo4,bb5,bx2,aQ0,bf]
  rw[e]
  rfl)
 obtain⟨U',s',e,J,Y,y,G,rfl,rfl⟩:=Z
 rw[e]
 tbr_iter []
 exact qa
theorem bY9 (h:Go m n w g Ww)(y:am6 m w f):∀ i j,i<m.R->j<m.R->GoT (n) Ww (f i j) (g i j):=λ i j hi hj=>by
 have G:=h i j hi hj
 have L:=y i j hi hj
 have nn:∀ c,Wk m.ds w i j c->0<=c:=λ c hc=>au6 hc
 generalize f i j=o at L
 generalize Wk m.ds w i j=S at G L nn
 cases o with
 | none=>exact⟨G.lo,G.hi,⟨λ _=>rfl,λ _=>G.t.mpr L⟩,⟨λ e=>absurd (G.z.mp e) (L 0),λ e=>(nomatch e)⟩,(λ _ c e=>(nomatch e)),λ _ c e=>(nomatch e)⟩
 | some c =>
  obtain⟨L1,L2⟩:=L
  refine⟨G.lo,G.hi,⟨λ e=>absurd L1 (G.t.mp e c),λ e=>nomatch e⟩,⟨λ e=>?_,λ e=>?_⟩,λ e d hd=>?_,λ e d hd=>?_⟩
  .have:=L2 0 (G.z.mp e)
   have:=nn c L1
   have:c=0:=by lia
   rw[this]
  .cases e;exact G.z.mpr L1
  .cases hd
   refine cT λ k=>?_
   have:=G.few c L1 (by lia)
   lia
  .cases hd
   obtain⟨d,hd,J⟩:=G.one (by lia)
   have:=L2 d hd
   have:=nn c L1
   have:c≠0:=λ z=>by subst z;have:=G.z.mpr L1;lia
   exact⟨by lia,by lia⟩
section
variable {P:Pr} [Has P ad7] [Has P aa5] [HasL P aa3] [Has P ab6] [Has P zT] [Has P ac7] [Has P ac5] [HasL P ab0] [HasC P "FREE" (.int 0)] [HasC P "SOME" (.int 1)] [HasC P "UNBOUND" (.int 2)] [HasC P "NONE" (.int 3)] [Has P ae0] [Has P af8] [HasL P af0] [Has P ag2] [HasC P "sign_product" (.fn "sign_product")] [Has P qV] [Has P qF]
 [Has P ae5] [Has P ae8] [HasL P ac1] [Has P ad5] [Has P ad9] [Has P aa8] [Has P ab3] [Has P aa4] [HasL P aa2] [Has P ae1] [HasL P ab1] [Has P ab4] [HasL P aa6] [Has P af7] [HasC P "product" (.fn "product")] [HasC P "power" (.fn "power")] [Has P aa7] [Has P ac2] [Has P ac3] [Has P am5] [HasL P ah7] [HasL P ah2] [HasC P "LETTER_WEIGHT" (.int 3)] [HasC P "signs_of_pair" (.fn "signs_of_pair")] [Has P ac8] [HasL P ab9] [Has P am0]
 [Has P ai8] [Has P af5] [Has P ad4] [Has P bx0] [Has P aS0] [Has P ak0] [Has P bQ4] [Has P bk2]
end
section
variable {P:Pr} [Has P af2] [Has P ad0] [Has P ae3] [HasC P "LETTERS" (.tp aT5)] [Has P ad6] [Has P af1] [Has P ab5] [Has P ac4] [Has P ab8]
theorem qp  n  l (k:Nat) s :(aa1 P (n+1)).call "is_tuple_of" [.tp l,.int (k)] s=.ok (.T (decide (l.length=k))) s:=by
 have h:(aa1 P (n+1)).call "is_tuple_of" [.tp l,.int (k)] s=_:=zd ad0 rfl
 rw[h,show(bn some [D.tp l,.int (k)]++aq ad0.vs none)=[some (.tp l),some (.int (k))]from rfl]
 simp only[ad0]
 tbr_iter [aD1,ay8,show((l.length)=(k:Int))=(l.length=k)from propext (by lia)]
 exact qa
theorem aB0  n { k:Nat}(h:i<k) s :(aa1 P (n+2)).call "is_ahead" [.int (i),.int (k)] s=.ok (.T true) s:=by
 have y:(aa1 P (n+2)).call "is_ahead" [.int (i),.int (k)] s=_:=zd af1 rfl
 have e1:(aa1 P (n+1)).call "is_whole" [.int (i),.int 0,.int ((k) - 1)] s=.ok (.T true) s:=by
  have e1:(aa1 P (n+1)).call "is_whole" [.int (i),.int 0,.int ((k) - 1)] s=_:=zd af2 rfl
  rw[e1,show(bn some [D.int (i),.int 0,.int ((k) - 1)]++aq af2.vs none)=[some (.int (i)),some (.int 0),some (.int ((k) - 1))]from rfl]
  simp only[af2]
  tbr_iter [bg2,aX9,ax4,eq_true (by omega),show((i)<=(k:Int) - 1)=True from eq_true (by omega)]
  exact qa
 rw[y,show(bn some [D.int (i),.int (k)]++aq af1.vs none)=[some (.int (i)),some (.int (k))]from rfl]
 simp only[af1]
 tbr_iter [e1]
 exact qa
noncomputable def bc9:Stp->Bool|.let_ _=>true|_=>false
noncomputable def cn7:Stp->Bool|.pair _ _=>true|_=>false
theorem bS2 {L }(h3:L<=3)(hc:97<=c)(h:c<97+L) s :inM (.str [c]) (.tp (aT5.take L)) s=.ok true s:=by
 rcases(by lia:L=1/\c=97\/L=2/\c=97\/L=2/\c=98\/L=3/\c=97\/L=3/\c=98\/L=3/\c=99)with⟨rfl,rfl⟩|⟨rfl,rfl⟩|⟨rfl,rfl⟩|⟨rfl,rfl⟩|⟨rfl,rfl⟩|⟨rfl,rfl⟩<;>rfl
theorem at6  n {L:Nat}(h3:L<=3)(hx:∀ c,x=.let_ c->97<=c/\c<97+L) s :(aa1 P (n+2)).call "is_letter_step" [x.d,.int (L)] s=.ok (.T (bc9 x)) s:=by
 have h:(aa1 P (n+2)).call "is_letter_step" [x.d,.int (L:Int)] s=_:=zd ab5 rfl
 rw[h,show(bn some [x.d,D.int (L:Int)]++aq ab5.vs none)=[some x.d,some (.int (L:Int))]from rfl]
 simp only[ab5]
 cases x with
 | let_ c =>
  obtain⟨hc,y⟩:=hx c rfl
  have e1:(aa1 P (n+1)).call "is_letter" [.str [c],.int (L:Int)] s=.ok (.T true) s:=by
   have e1:(aa1 P (n+1)).call "is_letter" [.str [c],.int (L:Int)] s=_:=zd ae3 rfl
   rw[e1,show(bn some [D.str [c],D.int (L:Int)]++aq ae3.vs none)=[some (.str [c]),some (.int (L:Int))]from rfl]
   simp only[ae3]
   tbr_iter [ch8,al6 (v:=.tp aT5),be0 h3,bL9,bS2 h3 hc y]
   exact qa
  have e2:=qp (P:=P) n [.str [108,101,116,116,101,114],.str [c]] 2 s
  tbr_iter [show(Stp.let_ c).d=.tp [.str [108,101,116,116,101,114],.str [c]]from rfl]
  rw[show((2:Int))=((2:Nat):Int)from rfl,e2]
  tbr_iter [show decide ([D.str [108,101,116,116,101,114],.str [c]].length=2)=true from rfl,show ∀ s,ixM (.tp [.str [108,101,116,116,101,114],.str [c]]) (.int 0) s=.ok (.str [108,101,116,116,101,114]) s from λ _=>rfl,show ∀ s,ixM (.tp [.str [108,101,116,116,101,114],.str [c]]) (.int 1) s=.ok (.str [c]) s from λ _=>rfl,show ∀ s,qj .eq (.str [108,101,116,116,101,114]) (.str [108,101,116,116,101,114]) s=.ok (.T true) s from λ _=>rfl,e1]
  exact qa
 | pair i j =>
  have e2:=qp (P:=P) n [.str [112,97,105,114],.int (i),.int (j)] 2 s
  tbr_iter [show(Stp.pair i j).d=.tp [.str [112,97,105,114],.int (i:Int),.int (j:Int)]from rfl]
  rw[show((2:Int))=((2:Nat):Int)from rfl,e2]
  tbr_iter [show decide ([D.str [112,97,105,114],.int (i:Int),.int (j:Int)].length=2)=false from rfl]
  exact qa
 | sharp i =>
  have e2:=qp (P:=P) n [.str [115,104,97,114,112],.int (i:Int)] 2 s
  tbr_iter [show(Stp.sharp i).d=.tp [.str [115,104,97,114,112],.int (i:Int)]from rfl]
  rw[show((2:Int))=((2:Nat):Int)from rfl,e2]
  tbr_iter [show decide ([D.str [115,104,97,114,112],.int (i:Int)].length=2)=true from rfl,show ∀ s,ixM (.tp [.str [115,104,97,114,112],.int (i:Int)]) (.int 0) s=.ok (.str [115,104,97,114,112]) s from λ _=>rfl,show ∀ s,qj .eq (.str [115,104,97,114,112]) (.str [108,101,116,116,101,114]) s=.ok (.T false) s from λ _=>rfl]
  exact qa
theorem an0  n {k:Nat}(hx:∀ i j,x=.pair i j->i<k/\j<k)(hl:bc9 x=false) s :(aa1 P (n+3)).call "is_pair_step" [x.d,.int (k)] s=.ok (.T (cn7 x)) s:=by
 have h:(aa1 P (n+3)).call "is_pair_step" [x.d,.int (k)] s=_:=zd ac4 rfl
 rw[h,show(bn some [x.d,D.int (k)]++aq ac4.vs none)=[some x.d,some (.int (k))]from rfl]
 simp only[ac4]
 cases x with
 | let_ c=>cases hl
 | pair i j =>
  obtain⟨y,hj⟩:=hx i j rfl
  have e2:=qp (P:=P) (n+1) [.str [112,97,105,114],.int (i),.int (j)] 3 s
  tbr_iter [show(Stp.pair i j).d=.tp [.str [112,97,105,114],.int (i),.int (j)]from rfl]
  rw[show((3))=((3:Nat):Int)from rfl,e2]
  tbr_iter [show decide ([D.str [112,97,105,114],.int (i),.int (j)].length=3)=true from rfl,λ _=>rfl,show ∀ s,ixM (.tp [.str [112,97,105,114],.int (i:Int),.int (j:Int)]) (.int 1) s=.ok (.int (i:Int)) s from λ _=>rfl,show ∀ s,ixM (.tp [.str [112,97,105,114],.int (i:Int),.int (j:Int)]) (.int 2) s=.ok (.int (j:Int)) s from λ _=>rfl,λ _=>rfl,aB0 n y,aB0 n hj]
  exact qa
 | sharp i =>
  have e2:=qp (P:=P) (n+1) [.str [115,104,97,114,112],.int (i)] 3 s
  tbr_iter [show(Stp.sharp i).d=.tp [.str [115,104,97,114,112],.int (i:Int)]from rfl]
  rw[show((3:Int))=((3:Nat):Int)from rfl,e2]
  tbr_iter [show decide ([D.str [115,104,97,114,112],.int (i:Int)].length=3)=false from rfl]
  exact qa
theorem az3  n (y:i<k) s :(aa1 P (n+3)).call "is_sharp_step" [(Stp.sharp i).d,.int (k)] s=.ok (.T true) s:=by
 have h:(aa1 P (n+3)).call "is_sharp_step" [(Stp.sharp i).d,.int (k)] s=_:=zd ab8 rfl
 rw[h,show(bn some [(Stp.sharp i).d,D.int (k)]++aq ab8.vs none)=[some (Stp.sharp i).d,some (.int (k))]from rfl]
 simp only[ab8]
 have e2:=qp (P:=P) (n+1) [.str [115,104,97,114,112],.int (i)] 2 s
 tbr_iter [show(Stp.sharp i).d=.tp [.str [115,104,97,114,112],.int (i)]from rfl]
 rw[show((2))=((2:Nat):Int)from rfl,e2]
 tbr_iter [show decide ([D.str [115,104,97,114,112],.int (i)].length=2)=true from rfl,λ _=>rfl,show ∀ s,ixM (.tp [.str [115,104,97,114,112],.int (i)]) (.int 1) s=.ok (.int (i)) s from λ _=>rfl,λ _=>rfl,aB0 n y]
 exact qa
theorem bN4  n {m:Mc}(h:m.Ok) s :(aa1 P (n+1)).call "letters_of" [m.d] s=.ok (.tp (aT5.take m.L)) s:=ba0 n h.L3 [.int m.R,.tp (qN m.bg),.tp (qN m.en),.tp (m.ds.map Dr.d)] s
theorem bO8 {L}(h:L<=3) s :bi .len [.tp (aT5.take L)] s=.ok (.int (L)) s:=by
 rw[ay8,bW,show min L aT5.length=L from Nat.min_eq_left h]
end
def aA6 (m:Mc)(fs:List (Nat->Nat->Int))(f:Nat->Nat->Int):Stp->Prop
 | .let_ c=>97<=c/\c<97+m.L/\f=sgM m c
 | .pair i j=>∃ a b,fs[i]?=some a/\fs[j]?=some b/\f=pr m.R a b
 | .sharp i=>∃ a,fs[i]?=some a/\bT2 m.R a/\f=sh m.R a
theorem Mks.inG (G:m.Ok)(h:Mks m l fs):∀ f∈fs,InG m.R f:=by
 induction h with
 | nil=>intro f y;cases y
 | let_ c _ _ _ ih=>intro f y;rcases bM.mp y with h|h;exact ih f h;rw[bv.mp h];exact λ i j _ _=>bE7 _ _ _ _ _
 | pair i j a b _ h1 h2 ih=>intro f y;rcases bM.mp y with h|h;exact ih f h;rw[bv.mp h];exact ci6 G.R1 (ih _ (aL h1)) (ih _ (aL h2))
 | sharp i a _ h1 _ ih=>intro f y;rcases bM.mp y with h|h;exact ih f h;rw[bv.mp h];exact cg6 G.R1 (ih _ (aL h1))
theorem aA6.last (hl:l.length=fs.length)(hy:aA6 m fs f y)
  (G:∀ k x,l[k]?=some x->∃ f,fs[k]?=some f/\aA6 m (fs.take k) f x) k x (hx:(l++[y])[k]?=some x):∃ g,(fs++[f])[k]?=some g/\aA6 m ((fs++[f]).take k) g x:=by
 by_cases hk:k<l.length
 .rw[ax hk]at hx
  obtain⟨g,h,hs⟩:=G k x hx
  exact⟨g,by rw[ax (by lia)];exact h,by rw[eV (by lia)];exact hs⟩
 .have hk2:k=l.length:=by
   have:=(ac.mp hx).1
   simp at this;lia
  subst hk2
  rw[am (ak _)]at hx
  simp at hx
  subst hx
  exact⟨f,by rw[hl];simp,by rw[hl,List.take_left'];exact hy;rfl⟩
theorem Mks.at (h:Mks m l fs):∀ k x,l[k]?=some x->∃ f,fs[k]?=some f/\aA6 m (fs.take k) f x:=by
 induction h with
 | nil=>intro k x hx;simp at hx
 | let_ c h h1 h2 ih=>exact aA6.last h.len ⟨h1,h2,rfl⟩ ih
 | pair i j a b h h1 h2 ih=>exact aA6.last h.len ⟨a,b,h1,h2,rfl⟩ ih
 | sharp i a h h1 h2 ih=>exact aA6.last h.len ⟨a,h1,h2,rfl⟩ ih
theorem bc7 {fs:List (Nat->Nat->Int)}(h:fs[k]?=some f):zz m (fs.take k)++[gd m f]=zz m (fs.take (k+1)):=by
 rw[jt h];unfold zz;rw[cg];rfl
theorem by5 n :(O.J (zz m fs)).bnd n=true:=zR (λ d hd n=>by obtain⟨x,_,rfl⟩:=az.mp hd;exact jC n) n
section
variable {P:Pr} [HasC P "FREE" (.int 0)] [HasC P "SOME" (.int 1)] [HasC P "UNBOUND" (.int 2)] [HasC P "NONE" (.int 3)] [HasC P "LETTERS" (.tp aT5)] [Has P ae5] [Has P ad7] [Has P ae8] [HasL P ac1] [Has P ad5] [Has P ad9] [Has P aa8] [Has P ab3] [Has P aa4] [HasL P aa2] [Has P ae1] [HasL P ab1] [Has P ab4] [HasL P aa6] [Has P aa7] [Has P ac2] [Has P aa5] [HasL P aa3] [Has P ab6] [Has P ac7] [Has P ac5] [HasL P ab0]
 [Has P af2] [Has P ad0] [Has P ae3] [Has P ad6] [Has P af1] [Has P ab5] [Has P ac4] [Has P ab8] [Has P ac6]
theorem bH4 n (y:m.Ok)(G:∀ f∈fs,InG m.R f)(h:aA6 m fs f x)(hp:s[p]?=some (.J (zz m.R fs)))(hs:s.all O.ncl=true) :
  (aa1 P (n+7)).call "signs_of_step" [m.d,x.d,.ref p] s=.ok (gd m.R f) s:=by
 have e0:(aa1 P (n+7)).call "signs_of_step" [m.d,x.d,.ref p] s=_:=zd ac6 rfl
 have hlen:bi .len [.ref p] s=.ok (.int (fs.length)) s:=by rw[bo9 hp];unfold zz;rw[aD]
 have lt:∀ {i} {a},fs[i]?=some a->i<fs.length:=λ h=>(ac.mp h).1
 have e1:=bN4 (P:=P) (n+5) y s
 have J:=bO8 y.L3 s
 have e2:=at6 (P:=P) (n+4) (x:=x) y.L3 (by rintro c rfl;exact⟨h.1,h.2.1⟩) s
 rw[e0,show(bn some [m.d,x.d,D.ref p]++aq ac6.vs none)=[some m.d,some x.d,some (.ref p),none]from rfl]
 simp only[ac6]
 cases x with
 | let_ c =>
  obtain⟨g,hg,Y⟩:=aB4 (P:=P) n y [c] (by simp) hs
  obtain⟨_,_,rfl⟩:=h
  rw[bw9 (hg.eqG (SgW.letter m c))]at Y
  tbr_iter [hlen,e1,J,e2,bc9,dl1,Y]
  exact zt (λ _=>jC _) (by nofun)
 | pair i j =>
  obtain⟨a,b,ha,hb,rfl⟩:=h
  have Y:=an0 (P:=P) (n+3) (x:=.pair i j) (by rintro i' j' e;cases e;exact⟨lt ha,lt hb⟩) rfl s
  have e4:=jw (P:=P) (n+3) y.R1 y.R5 (G _ (aL ha)) (G _ (aL hb)) hs
  tbr_iter [hlen,e1,J,e2,bc9,Y,cn7,dp1,dp2,qk hp (qZ ha),qk hp (qZ hb),e4]
  exact zt (λ _=>jC _) (by nofun)
 | sharp i =>
  obtain⟨a,ha,Z,rfl⟩:=h
  have Y:=an0 (P:=P) (n+3) (x:=.sharp i) (k:=fs.length) (by rintro i' j' e;cases e) rfl s
  have e4:=az3 (P:=P) (n+3) (lt ha) s
  have a0:=G _ (aL ha)
  obtain⟨b,e5,hb⟩:=am2 (P:=P) (n+2) y.R1 y.R5 a0 hs
  have a1:=hb.mpr Z
  subst a1
  have e6:=aH6 (P:=P) (n+1) y.R1 y.R5 a0 Z hs
  tbr_iter [hlen,e1,J,e2,bc9,Y,cn7,ds1,e4,qk hp (qZ ha),e5,e6]
  exact zt (λ _=>jC _) (by nofun)
variable [HasC P "MOST_STEPS" (.int 100)] [Has P ae2]
theorem aC3 n (Y:m.Ok)(h:Mks m l fs)(h1:1<=l.length)(h2:l.length<=100)(hs:s.all O.ncl=true) :
  (aa1 P (n+8)).call "signs_made" [m.d,.tp (l.map Stp.d)] s=.ok (.ref s.length) (s++[.J (zz m.R fs)]):=by
 have Z:(aa1 P (n+8)).call "signs_made" [m.d,.tp (l.map Stp.d)] s=_:=zd ae2 rfl
 rw[Z,show(bn some [m.d,D.tp (l.map Stp.d)]++aq ae2.vs none)=[some m.d,some (.tp (l.map Stp.d)),none,none]from rfl]
 simp only[ae2]
 tbr_iter [aD1,ay8,aD,ax4,al6 (v:=.int 100),show((1:Int)<=(l.length:Int))=True from eq_true (by lia),show((l.length:Int)<=100)=True from eq_true (by lia),ar8]
 have key:=jP (ok:=λ s1=>chk (s++[O.J []]) s1 []) (g:=turn (aa1 P (n+7)) (.Y 3) (.cons (.ex (.me .append (.X 2) (.cons (.call "signs_of_step" (.ex (.X 0) (.ex (.X 3) (.ex (.X 2) .nil)))) .nil))) .nil)) (λ k U t=>t=s++[.J (zz m.R (fs.take k))]/\∃ x,U=[some m.d,some (.tp (l.map Stp.d)),some (.ref s.length),x]) (l.map Stp.d) 0 [some m.d,some (.tp (l.map Stp.d)),some (.ref s.length),none] (s++[O.J []]) ⟨rfl,_,rfl⟩ (λ _ _ _ _ _=>rfl) (by
  rintro k d U t hk ⟨rfl,x,rfl⟩
  rw[cD]at *
  rw[av,dg]at hk
  obtain⟨y,hy,rfl⟩:=hk
  obtain⟨f,J,G⟩:=h.at k y hy
  have e1:=bH4 (P:=P) n Y (λ f J=>h.inG Y f (ir J)) G (s:=s++[.J (zz m.R (fs.take k))]) (p:=s.length) bK6 (qh hs (show(O.J _).ncl=true from aA2))
  have ha:meth .append (.ref s.length) [gd m.R f] (s++[.J (zz m.R (fs.take k))])=.ok .N (s++[.J (zz m.R (fs.take (k+1)))]):=by
   rw[ja (by unfold zz LIM;rw[aD,bW];have:=h.len;lia),bc7 J]
  refine⟨_,_,.inl ?_,rfl,some y.d,rfl⟩
  unfold turn
  tbr_iter [e1,ha])
 obtain⟨U',t',ek,rfl,x,rfl⟩:=key
 rw[cD,aD,h.len,cM]at ek
 rw[ek]
 tbr_iter []
 exact ji (by5 _)
end
section
variable {P:Pr} [HasC P "FREE" (.int 0)] [HasC P "SOME" (.int 1)] [HasC P "UNBOUND" (.int 2)] [HasC P "NONE" (.int 3)] [HasC P "LETTERS" (.tp aT5)] [Has P ae5] [Has P ad7] [Has P ae8] [HasL P ac1] [Has P ad5] [Has P ad9] [Has P aa8] [Has P ab3] [Has P aa4] [HasL P aa2] [Has P ae1] [HasL P ab1] [Has P ab4] [HasL P aa6] [Has P aa7] [Has P ac2] [Has P aa5] [HasL P aa3] [Has P ab6] [Has P ac7] [Has P ac5] [HasL P ab0]
 [Has P af2] [Has P ad0] [Has P ae3] [Has P ad6] [Has P af1] [Has P ab5] [Has P ac4] [Has P ab8] [Has P ac6] [HasC P "MOST_STEPS" (.int 100)] [Has P ae2]
 [Has P ai8] [Has P af5] [Has P bk3] [Has P ab2] [Has P ad4] [Has P aa9] [Has P ae6] [Has P af3] [Has P bq3]
end
section
variable {P:Pr} [Has P ai8] [Has P af5] [Has P ab2] [Has P ad4] [Has P aa9] [Has P ae6] [Has P af3] [Has P ci4] [Has P bH1] [Has P bo6] [Has P bo2]
 [Has P aa8] [Has P ad8] [Has P ac3] [Has P ae4] [Has P af6] [Has P ae7] [Has P aE4] [HasL P ad2] [HasL P ad3] [HasL P ad1] [HasC P "LETTER_WEIGHT" (.int 3)]
end
section
variable {P:Pr} [Has P ad7] [Has P ad5] [Has P ad9] [Has P aa8] [Has P ab3] [Has P aa4] [HasL P aa2] [Has P ae1] [HasL P ab1] [Has P ab4] [HasL P aa6] [Has P ae0] [Has P af7] [HasC P "product" (.fn "product")] [HasC P "power" (.fn "power")] [Has P ac3] [Has P ac8] [HasL P ab9] [Has P aa7]
 [Has P ad8] [Has P ae7] [Has P ac0] [Has P ae4] [HasL P ad2] [HasL P ad3] [HasL P ad1] [Has P aE4]
 [HasC P "MOST_WRITTEN" (.int 2000)] [Has P bn1] [Has P aj4] [HasC P "begun_times" (.fn "begun_times")] [Has P ap2] [HasL P jM] [HasL P jK] [Has P ju]
 [Has P ai8] [Has P af5] [Has P ab2] [Has P ad4] [Has P aa9] [Has P ae6] [Has P af3] [Has P jh] [Has P aq0] [Has P ak7] [Has P qH] [Has P bj8] [Has P aS0] [Has P bg4]
end
theorem ca2 (Z:m.Ok)(h:Mks m l fs)(G:l.length<=100):∀ k,k<l.length->∃ f,fs[k]?=some f/\Go m n (wd (l.map (Stp.r ((n+1)*m.R))) k) f ((vl 3 2 l).getD k 0)/\0<=(vl 3 2 l).getD k 0:=by
 intro k
 induction k using kH with
 | _ k ih =>
  intro hk
  have hx:=aj hk
  have Y:(l.map (Stp.r ((n+1)*m.R)))[k]?=some (l[k].r ((n+1)*m.R)):=by rw[av,hx];rfl
  have ho:=h.ok G k _ hx
  obtain⟨f,hf,hs⟩:=h.at k _ hx
  rw[bv8 hx]
  generalize l[k]=x at Y ho hs
  have pre:∀ i,i<k->(vl 3 2 (l.take k)).getD i 0=(vl 3 2 l).getD i 0:=λ i y=>aI9 (by lia) y
  refine⟨f,hf,?_⟩
  cases x with
  | let_ c =>
   obtain⟨_,_,rfl⟩:=hs
   rw[cw4 Y]
   exact⟨Go.letter Z c,by show(0)<=3;decide⟩
  | pair i j =>
   obtain⟨y,hj,_⟩:=ho
   obtain⟨a,b,ha,hb,rfl⟩:=hs
   rw[cZ y]at ha
   rw[cZ hj]at hb
   obtain⟨a',ha',Ga,na⟩:=ih i y (by lia)
   obtain⟨b',J,Gb,nb⟩:=ih j hj (by lia)
   rw[ha]at ha';cases ha'
   rw[hb]at J;cases J
   rw[cx0 Y y hj]
   show Go m n _ _ ((vl 3 2 (l.take k)).getD i 0+(vl 3 2 (l.take k)).getD j 0)/\0<=(vl 3 2 (l.take k)).getD i 0+(vl 3 2 (l.take k)).getD j 0
   rw[pre i y,pre j hj]
   exact⟨Ga.mul Z Gb,by lia⟩
  | sharp i =>
   obtain⟨y,_⟩:=ho
   obtain⟨a,ha,a0,rfl⟩:=hs
   rw[cZ y]at ha
   obtain⟨a',ha',Ga,na⟩:=ih i y (by lia)
   rw[ha]at ha';cases ha'
   rw[cx3 Y y]
   show Go m n _ _ ((vl 3 2 (l.take k)).getD i 0*2)/\0<=(vl 3 2 (l.take k)).getD i 0*2
   rw[pre i y,Int.mul_comm]
   exact⟨bu6 Z Ga a0 na (ak _),by lia⟩
noncomputable def cl2:Ss:=(.cons (.ite (.not (.call "_law_goes" (.ex (.call "table_unrolled" (.ex (.X 3) (.ex (.X 4) (.ex (.X 8) .nil)))) (.ex (.X 5) (.ex (.X 8) (.ex (.X 6) .nil)))))) (.cons (.ret (.K (.T false))) .nil) .nil) .nil)
def cs7:S:=(.fo (.Y 8) (.seq (.J (.cons (.K (.int 0)) (.cons (.K (.int 1)) (.cons (.G .add (.K (.int 2)) (.call "_law_draw" (.ex (.X 2) (.ex (.K (.int 8)) .nil)))) (.cons (.X 7) .nil)))))) cl2)
noncomputable def cn3:S:=(.ite (.Z .gt (.X 1) (.K (.int 1))) (.cons (.A (.Y 7) (.G .mod (.X 7) (.G .pow (.K (.int 10)) (.K (.int 6))))) .nil) .nil)
theorem ca4:af4.body=(.cons (.fo (.Y 1) (.rg (.G .add (.bi .min2 (.cons (.K (.int 4)) (.cons (.bi .len (.cons (.X 0) .nil)) .nil))) (.K (.int 1)))) (.cons (.A (.Y 2) (.call "_law_box" (.ex (.X 0) (.ex (.X 1) .nil)))) (.cons (.A (.Y 3) (.call "_law_machine" (.ex (.X 2) .nil))) (.cons (.A (.Y 4) (.ix (.call "_law_makings" (.ex (.X 2) (.ex (.X 3) (.ex (.K (.int 10)) (.ex (.K (.int 4)) .nil))))) (.K (.int 0)))) (.cons (.A (.Y 5) (.ix (.call "signs_made" (.ex (.X 3) (.ex (.X 4) .nil))) (.neg (.K (.int 1))))) (.cons (.A (.Y 6) (.ix (.call "weights" (.ex (.X 3) (.ex (.X 4) .nil))) (.neg (.K (.int 1))))) (.cons (.A (.Y 7) (.call "_law_draw" (.ex (.X 2) (.ex (.G .add (.G .pow (.K (.int 10)) (.K (.int 30))) (.K (.int 1))) .nil)))) (.cons cn3 (.cons cs7 .nil))))))))) (.cons (.ret (.K (.T true))) .nil)):=rfl
section
variable {P:Pr} [Has P ad9] [Has P ad8] [Has P ae4] [Has P ab3] [Has P ac3] [Has P ad7] [Has P af1] [Has P ae3] [Has P ab5] [Has P ac4] [Has P ab8] [Has P ab6] [Has P ad0] [Has P af2] [Has P ac8] [Has P ad5] [Has P aa4] [Has P ad6] [Has P ae1] [Has P af7] [Has P ab4] [Has P ae0] [Has P ae8] [Has P aa8] [Has P ac7] [Has P ac5] [Has P ae5] [Has P aa5] [Has P ae2] [Has P ac6] [Has P ac0] [Has P ae7] [Has P af6] [Has P ac2] [Has P aa7] [Has P ai8] [Has P af5] [Has P ak0] [Has P aa9] [Has P ad4] [Has P af3] [Has P ab2] [Has P ae6] [HasL P ab1] [HasL P aa6] [HasL P aa2] [HasL P ac1] [HasL P aa3] [HasL P ab0] [HasL P ad2] [HasL P ad3] [HasL P ad1] [HasL P ab9] [HasC P "FREE" (.int 0)] [HasC P "SOME" (.int 1)] [HasC P "UNBOUND" (.int 2)] [HasC P "NONE" (.int 3)] [HasC P "LETTER_WEIGHT" (.int 3)] [HasC P "product" (.fn "product")] [HasC P "power" (.fn "power")] [HasC P "LETTERS" (.tp aT5)] [HasC P "MOST_STEPS" (.int 100)] [Has P af4]
theorem bY3 n (J:m.Ok)(h:Mks m l fs)(hl:l.length<=100)(h1:1<=l.length)(hf:fs[l.length - 1]?=some f)(z:Nat)(hs:s.all O.ncl=true) x0 x1 Y Z x8 :
  turn (aa1 P (n+9)) (.Y 8) cl2 (.int (z)) [x0,x1,Y,some m.d,some (.tp (l.map Stp.d)),some (gd m.R f),some (.int ((vl 3 2 l).getD (l.length - 1) 0)),Z,x8] s=.ok (.next [x0,x1,Y,some m.d,some (.tp (l.map Stp.d)),some (gd m.R f),some (.int ((vl 3 2 l).getD (l.length - 1) 0)),Z,some (.int (z))]) s:=by
 have e1:=al1 (P:=P) n (by lia) h1 (h.ok hl) J z hs
 obtain⟨f',y,G,_⟩:=ca2 J h hl (l.length - 1) (by omega)
 rw[hf]at y;cases y
 have e2:=cj5 (P:=P) (n+8) (bY9 G (aG1 J (wd (l.map (Stp.r ((z+1)*m.R))) (l.length - 1)))) s
 unfold turn cl2
 tbr_iter [e1]
 rw[show tbD m (wd (l.map (Stp.r ((z+1)*m.R))) (l.length - 1))=gdO m.R (tbO m (wd (l.map (Stp.r ((z+1)*m.R))) (l.length - 1)))from rfl]
 tbr_iter [e2]
theorem bI3 (n:Nat){m:Mc}(hm:m.Ok){l:List Stp}{fs:List (Nat->Nat->Int)}(hk:Mks m l fs)(hl:l.length<=100)(h1:1<=l.length){f:Nat->Nat->Int}(hf:fs[l.length - 1]?=some f)(y:Nat){ns:List Int}{r:Nat}{s:Sto}(h:Gx ns r s)(x0 x1 x8:Option D) :
  ∃(Y:Option D) (u:Sto),Gx ns r u/\ex (aa1 P (n+9)) cs7 [x0,x1,some (.ref r),some m.d,some (.tp (l.map Stp.d)),some (gd m.R f),some (.int ((vl 3 2 l).getD (l.length - 1) 0)),some (.int (y:Int)),x8] s=.ok (.next [x0,x1,some (.ref r),some m.d,some (.tp (l.map Stp.d)),some (gd m.R f),some (.int ((vl 3 2 l).getD (l.length - 1) 0)),some (.int (y:Int)),Y]) u:=by
 obtain⟨q1,b1,_,e1⟩:=jz (P:=P) (n+8) h.box 8 (by decide) (by decide)
 have hG:=h.put b1
 generalize s.set r (jc b1)=t at e1 hG
 have c1:((2:Int)+(q1:Int))=((q1+2:Nat):Int):=by lia
 let G:List D:=[.int ((0:Nat):Int),.int ((1:Nat):Int),.int ((q1+2:Nat):Int),.int (y:Int)]
 have J:Gx ns r (t++[O.J G]):=hG.snoc rfl
 have Z:av4 (.ref t.length) (t++[O.J G])=.ok ⟨G,[t.length]⟩ (t++[O.J G]):=by
  have:(t++[O.J G])[t.length]?=some (.J G):=bK6
  simp only[av4,this]
 have key:=jP (ok:=λ s1=>chk (t++[O.J G]) s1 [t.length]) (g:=turn (aa1 P (n+9)) (.Y 8) cl2) (λ _ U u=>u=t++[O.J G]/\∃ x8,U=[x0,x1,some (.ref r),some m.d,some (.tp (l.map Stp.d)),some (gd m.R f),some (.int ((vl 3 2 l).getD (l.length - 1) 0)),some (.int (y:Int)),x8]) G 0 [x0,x1,some (.ref r),some m.d,some (.tp (l.map Stp.d)),some (gd m.R f),some (.int ((vl 3 2 l).getD (l.length - 1) 0)),some (.int (y:Int)),x8] (t++[O.J G]) ⟨rfl,x8,rfl⟩ (λ _ _ u _ h=>by obtain⟨rfl,_⟩:=h;simp[chk]) (by
  rintro k d U u hk2 ⟨rfl,x8,rfl⟩
  obtain⟨z,rfl⟩:∃ z:Nat,d=.int (z:Int):=by
   have hd:=aL hk2
   simp only[G,aB,aW,or_false]at hd
   rcases hd with rfl|rfl|rfl|rfl<;>exact⟨_,rfl⟩
  exact⟨_,_,.inl (bY3 (P:=P) n hm hk hl h1 hf z J.ncl x0 x1 (some (.ref r)) (some (.int (y:Int))) x8),rfl,_,rfl⟩)
 obtain⟨U',s',ek,rfl,Y,rfl⟩:=key
 refine⟨Y,_,J,?_⟩
 unfold cs7
 tbr_iter [e1,c1]
 rw[show O.J [D.int 0,D.int 1,D.int ((q1+2:Nat):Int),.int (y:Int)]=O.J G from rfl,Z]
 simp only[R.bind_ok]
 exact ek
theorem bG3 (j h:Nat) u x0 Z Y x4 J x6 x8 :∃ g:Nat,ex F cn3 [x0,some (.int (j)),Z,Y,x4,J,x6,some (.int (h)),x8] u=.ok (.next [x0,some (.int (j)),Z,Y,x4,J,x6,some (.int (g)),x8]) u:=by
 have G:∀ u:Sto,jv .mod (.int (h)) (.int (10^6)) u=.ok (.int ((h % 10^6:Nat))) u:=λ u=>by rw[jQ (by decide)];rfl
 have y:∀ s:Sto,jv .pow (.int 10) (.int 6) s=.ok (.int (10^6)) s:=λ s=>aA3 (by decide)
 unfold cn3
 by_cases g:(1)<(j:Int)
 .exact⟨h % 10^6,by tbr_iter [g,y,G]⟩
 .exact⟨h,by tbr_iter [g]⟩
theorem cm6 n :cm7 P (n+10):=by
 intro ns hl
 have e0:(aa1 P (n+10)).call "law" [.ref 0] [.ro (ns.map D.int)]=_:=zd af4 rfl
 rw[e0,ca4,show(bn some [D.ref 0]++aq af4.vs none)=[some (.ref 0),none,none,none,none,none,none,none,none]from rfl]
 have a0:([.ro (ns.map D.int)]:Sto)[0]?=some (.ro (ns.map D.int)):=rfl
 have hlen:bi .len [.ref 0] [.ro (ns.map D.int)]=.ok (.int ns.length) [.ro (ns.map D.int)]:=by rw[bC2 a0,aD]
 have hk:=by omega
 tbr_iter [hlen,ao3,hk]
 rw[zQ (by unfold Ww62;lia) (by unfold Ww62;omega)]
 simp only[R.bind_ok]
 rw[R.bind_assoc]
 refine jd (λ j U t=>t[0]?=some (.ro (ns.map D.int))/\t.all O.ncl=true/\∃ x1 x2 x3 x4 x5 x6 x7 x8,U=[some (.ref 0),x1,x2,x3,x4,x5,x6,x7,x8]) ⟨rfl,by
   simp only[dP,ke,dQ];exact aO3,_,_,_,_,_,_,_,_,rfl⟩ (λ _ _ _ _ _=>rfl) ?_ ?_
 .rintro j d U t hj ⟨ht,hn,x1,x2,x3,x4,x5,x6,x7,x8,rfl⟩
  have hd:=(qP hj).2
  subst hd
  have a3:=(ac.mp ht).1
  obtain⟨N0,h⟩:=bX3 (P:=P) (n+8) ns j ht
  have Z:Gx ns t.length (t++[jc N0]):=⟨jx ht,qh hn rfl,⟨_,bK6⟩,by lia⟩
  generalize t++[jc N0]=S at h Z
  generalize t.length=r at h Z
  obtain⟨m,b1,J,em⟩:=aO0 (P:=P) (n+7) Z.box
  have G1:=Z.put b1
  generalize S.set r (jc b1)=S1 at em G1
  obtain⟨l,fs,b2,T,p,hk,h1,h2,hp,hT,y⟩:=aV1 (P:=P) (n+7) G1.box J 10 (by decide) (by decide) 4
  have Y:=G1.put b2
  have G3:Gx ns r (S1.set r (jc b2)++T):=⟨jx Y.scr,by rw[dm,Y.ncl,hT];rfl,by obtain⟨b,hb⟩:=Y.box;exact⟨b,jx hb⟩,Y.r0⟩
  generalize S1.set r (jc b2)++T=S3 at hp y G3
  have es:=aC3 (P:=P) (n+1) J hk h1 (by lia) G3.ncl
  have G4:=G3.snoc (show(O.J (zz m.R fs)).ncl=true from aA2)
  obtain⟨f,hf,_,_⟩:=ca2 J (n:=0) hk (by omega) (l.length - 1) (by lia)
  have a1:=hk.len
  have is:=aB6 (bK6 (s:=S3) (o:=.J (zz m.R fs))) (by unfold zz;rw[aD,<-a1];exact qZ hf)
  generalize S3++[O.J (zz m.R fs)]=S4 at es is G4
  have ew:=aV6 (P:=P) (n+5) (by lia) (hk.ok (by lia)) G4.ncl m
  have G5:=G4.snoc (show(O.J (br0 (vl 3 2 l))).ncl=true from aO3)
  have a2:(vl 3 2 l).length=l.length:=by have:=ar2 (a:=3) (c:=2) (l:=l) l.length (ak _);rw[cM]at this;exact this
  have iw:=aB6 (bK6 (s:=S4) (o:=.J (br0 (vl 3 2 l)))) (d:=.int ((vl 3 2 l).getD (l.length - 1) 0)) (by
   unfold br0
   rw[aD,a2,av,aN,aj (by lia)]
   rfl)
  generalize S4++[O.J (br0 (vl 3 2 l))]=S5 at ew iw G5
  obtain⟨q5,b5,_,e5⟩:=jz (P:=P) (n+8) G5.box (10^30+1) (by decide) (by decide)
  have G6:=G5.put b5
  generalize S5.set r (jc b5)=u5 at e5 G6
  obtain⟨g,eg⟩:=bG3 (F:=aa1 P (n+9)) j q5 u5 (some (.ref 0)) (some (.ref r)) (some m.d) (some (.tp (l.map Stp.d))) (some (gd m.R f)) (some (.int ((vl 3 2 l).getD (l.length - 1) 0))) x8
  obtain⟨y8,u7,G7,e7⟩:=bI3 (P:=P) n J hk (by lia) h1 hf g G6 (some (.ref 0)) (some (.int (j:Int))) x8
  have G:∀ s:Sto,jv .pow (.int 10) (.int 30) s=.ok (.int (10^30)) s:=λ s=>aA3 (by decide)
  have i0:∀(a b:D) (s:Sto),ixM (.tp [a,b]) (.int 0) s=.ok a s:=λ _ _ _=>rfl
  refine aD6 (U:=[some (.ref 0),some (.int (j:Int)),some (.ref r),some m.d,some (.tp (l.map Stp.d)),some (gd m.R f),some (.int ((vl 3 2 l).getD (l.length - 1) 0)),some (.int (g:Int)),y8]) (s:=u7) ?_ ⟨G7.scr,G7.ncl,_,_,_,_,_,_,_,_,rfl⟩
  rw[show((10:Nat):Int)=10 from rfl]at y
  unfold turn
  simp only[zb,zG,zy,aJ,za,zl,qd,qz,qb,zN,zE,ze,zg,zh,R.bind_ok,h,em,zv,zn,zB,zC,y,i0,es,bb0,is,ew,iw,qI,G,add_int,e5,eg,e7]
 .rintro U t ⟨ht,hn,x1,x2,x3,x4,x5,x6,x7,x8,rfl⟩
  tbr_iter []
  exact bp8 _ _
end
end DV
end
local macro_rules | `(tactic| walk_at "sc") => `(tactic| exact ⟨rfl, rfl, rfl, by decide +kernel, rfl, by decide +kernel, by decide +kernel⟩)
local macro_rules | `(tactic| walk_at "df") => `(tactic| (dsimp only; exact ⟨_, _, _, _, _, _, _, _, _, _, by k_is, by k_is, by k_is, by k_is⟩))
noncomputable section
namespace My
open PySem L2
noncomputable def top (i:Nat):Stmt:=PySem.Challenge.pw_leasttolls_k33_whole_unrolled_words_go_w.main.body.getD i (.Pass ⟨0,0,0,0⟩)
theorem bU3:aG7 ["i", "j"]:=λ params h _ _ _ _ _ _ _ _ us hl=>by
 obtain⟨args,rfl,ha⟩:=qT h
 revert us
 refine bd2 ?_
 intro y G
 rcases args with _|⟨⟨J,_,_⟩,_|⟨⟨a1,_,_⟩,_|⟨_,_⟩⟩⟩
 all_goals simp only[aM,dF,fj,and_true,and_false,reduceCtorEq]at ha
 obtain⟨rfl,rfl⟩:=ha
 exact⟨rfl,λ _ _=>rfl⟩
theorem cv7:aG7 ["letter"]:=λ params h _ _ _ _ _ _ _ _ us hl=>by
 obtain⟨args,rfl,ha⟩:=qT h
 revert us
 refine bd1 ?_
 intro y
 rcases args with _|⟨⟨G,_,_⟩,_|⟨_,_⟩⟩
 all_goals simp only[aM,dF,fj,and_true,and_false,reduceCtorEq]at ha
 obtain rfl:=ha
 exact⟨rfl,λ _ _=>rfl⟩
theorem cx7:aG7 ["one", "many"]:=λ params h _ _ _ _ _ _ _ _ us hl=>by
 obtain⟨args,rfl,ha⟩:=qT h
 revert us
 refine bd2 ?_
 intro y G
 rcases args with _|⟨⟨J,_,_⟩,_|⟨⟨a1,_,_⟩,_|⟨_,_⟩⟩⟩
 all_goals simp only[aM,dF,fj,and_true,and_false,reduceCtorEq]at ha
 obtain⟨rfl,rfl⟩:=ha
 exact⟨rfl,λ _ _=>rfl⟩
theorem cz1:aG7 ["one", "other"]:=λ params h _ _ _ _ _ _ _ _ us hl=>by
 obtain⟨args,rfl,ha⟩:=qT h
 revert us
 refine bd2 ?_
 intro y G
 rcases args with _|⟨⟨J,_,_⟩,_|⟨⟨a1,_,_⟩,_|⟨_,_⟩⟩⟩
 all_goals simp only[aM,dF,fj,and_true,and_false,reduceCtorEq]at ha
 obtain⟨rfl,rfl⟩:=ha
 exact⟨rfl,λ _ _=>rfl⟩
noncomputable def ag1:List Str:=["plain", "product", "letter_table", "reading", "sign_product", "sharpened", "counted", "last_table"]
abbrev s_letters_of:Stmt:=top 6
abbrev ax1:Stmt:=top 7
abbrev ax2:Stmt:=top 8
abbrev aw5:Stmt:=top 9
abbrev ai9:Stmt:=top 10
abbrev s_is_letter:Stmt:=top 11
abbrev bD7:Stmt:=top 13
abbrev aS7:Stmt:=top 14
abbrev bm5:Stmt:=top 16
abbrev bk1:Stmt:=top 17
abbrev bh5:Stmt:=top 18
abbrev ap3:Stmt:=top 19
abbrev aL4:Stmt:=top 20
abbrev s_letter_table:Stmt:=top 21
abbrev am9:Stmt:=top 22
abbrev aH2:Stmt:=top 28
abbrev aH7:Stmt:=top 29
abbrev ai3:Stmt:=top 30
abbrev an2:Stmt:=top 31
abbrev aq6:Stmt:=top 33
abbrev aw9:Stmt:=top 34
abbrev as4:Stmt:=top 35
abbrev aw4:Stmt:=top 39
abbrev s_is_letter_step:Stmt:=top 40
abbrev ai4:Stmt:=top 41
abbrev ah5:Stmt:=top 42
abbrev am4:Stmt:=top 43
abbrev ah8:Stmt:=top 44
abbrev aw3:Stmt:=top 45
abbrev aP2:Stmt:=top 46
abbrev aH0:Stmt:=top 47
abbrev aF0:Stmt:=top 48
abbrev aw0:Stmt:=top 50
abbrev al9:Stmt:=top 51
abbrev ag9:Stmt:=top 52
abbrev av5:Stmt:=top 54
abbrev ar6:Stmt:=top 55
abbrev ai6:Stmt:=top 56
abbrev ai5:Stmt:=top 57
abbrev s__law_letter_signs:Stmt:=top 58
abbrev am1:Stmt:=top 59
abbrev ai2:Stmt:=top 60
abbrev ar7:Stmt:=top 61
abbrev aI0:Stmt:=top 62
def tb:List (String×nv×Stmt):=[("letters_of",DV.ad6,s_letters_of),("rooms_of",DV.aa8,ax1),("doors_of",DV.ab3,ax2),("is_whole",DV.af2,aw5),("is_tuple_of",DV.ad0,ai9),("is_letter",DV.ae3,s_is_letter),("grid",DV.ad7,bD7),("raised",DV.ae0,aS7),("least",DV.ad5,bm5),("added",DV.ad9,bk1),("plain",DV.ae1,bh5),("product",DV.ab4,ap3),("power",DV.af7,aL4),("letter_table",DV.aa4,s_letter_table),("word_table",DV.aa7,am9),("sign_of",DV.ae5,aH2),("reading",DV.ae8,aH7),("sign_product",DV.aa5,ai3),("word_signs",DV.ac2,an2),("is_steady",DV.ab6,aq6),("round_of",DV.ac7,aw9),("sharpened",DV.ac5,as4),("is_ahead",DV.af1,aw4),("is_letter_step",DV.ab5,s_is_letter_step),("is_pair_step",DV.ac4,ai4),("is_sharp_step",DV.ab8,ah5),("signs_made",DV.ae2,am4),("signs_of_step",DV.ac6,ah8),("as_times",DV.ad8,aw3),("folded",DV.ac3,aP2),("counted",DV.ae4,aH0),("weights",DV.af6,aF0),("unrolled",DV.ae7,aw0),("last_table",DV.ac8,al9),("table_unrolled",DV.ac0,ag9),("_law_box",DV.ai8,av5),("_law_draw",DV.af5,ar6),("_law_product",DV.ab2,ai6),("_law_machine",DV.ad4,ai5),("_law_letter_signs",DV.aa9,s__law_letter_signs),("_law_sharp",DV.ae6,am1),("_law_makings",DV.af3,ai2),("_law_goes",DV.ak0,ar7),("law",DV.af4,aI0)]
noncomputable def co2:List (String×lN):=[("LETTERS",.tp [.str [97],.str [98],.str [99]]),("FREE",.int (0)),("SOME",.int (1)),("UNBOUND",.int (2)),("NONE",.int (3)),("MOST_STEPS",.int (100)),("LETTER_WEIGHT",.int (3)),("product",.fn "product"),("power",.fn "power")]
def cy6:List (String×nu):=[("plain.0",DV.ab1),("product.0",DV.aa6),("letter_table.least_fee",DV.aa2),("reading.0",DV.ac1),("sign_product.0",DV.aa3),("sharpened.0",DV.ab0),("counted.0",DV.ad2),("counted.1",DV.ad3),("counted.2",DV.ad1),("last_table.0",DV.ab9)]
noncomputable def tbl:List (String×nv):=tb.map λ p=>(p.1,p.2.1)
noncomputable def P:l7:=⟨λ f=>tbl.lookup f,λ f=>cy6.lookup f,λ x=>co2.lookup x,λ _=>none,λ _=>none,λ _=>false,λ _=>false,λ _=>none⟩
instance:DV.HasL P DV.ab1:=⟨rfl⟩
instance:DV.HasL P DV.aa6:=⟨rfl⟩
instance:DV.HasL P DV.aa2:=⟨rfl⟩
instance:DV.HasL P DV.ac1:=⟨rfl⟩
instance:DV.HasL P DV.aa3:=⟨rfl⟩
instance:DV.HasL P DV.ab0:=⟨rfl⟩
instance:DV.HasL P DV.ad2:=⟨rfl⟩
instance:DV.HasL P DV.ad3:=⟨rfl⟩
instance:DV.HasL P DV.ad1:=⟨rfl⟩
instance:DV.HasL P DV.ab9:=⟨rfl⟩
instance:DV.HasC P "LETTERS" (.tp [.str [97],.str [98],.str [99]]):=⟨rfl⟩
instance:DV.HasC P "FREE" (.int (0)):=⟨rfl⟩
instance:DV.HasC P "SOME" (.int (1)):=⟨rfl⟩
instance:DV.HasC P "UNBOUND" (.int (2)):=⟨rfl⟩
instance:DV.HasC P "NONE" (.int (3)):=⟨rfl⟩
instance:DV.HasC P "MOST_STEPS" (.int (100)):=⟨rfl⟩
instance:DV.HasC P "LETTER_WEIGHT" (.int (3)):=⟨rfl⟩
instance:DV.HasC P "product" (.fn "product"):=⟨rfl⟩
instance:DV.HasC P "power" (.fn "power"):=⟨rfl⟩
instance:DV.Has P DV.ad6:=⟨rfl⟩
instance:DV.Has P DV.aa8:=⟨rfl⟩
instance:DV.Has P DV.ab3:=⟨rfl⟩
instance:DV.Has P DV.af2:=⟨rfl⟩
instance:DV.Has P DV.ad0:=⟨rfl⟩
instance:DV.Has P DV.ae3:=⟨rfl⟩
instance:DV.Has P DV.ad7:=⟨rfl⟩
instance:DV.Has P DV.ae0:=⟨rfl⟩
instance:DV.Has P DV.ad5:=⟨rfl⟩
instance:DV.Has P DV.ad9:=⟨rfl⟩
instance:DV.Has P DV.ae1:=⟨rfl⟩
instance:DV.Has P DV.ab4:=⟨rfl⟩
instance:DV.Has P DV.af7:=⟨rfl⟩
instance:DV.Has P DV.aa4:=⟨rfl⟩
instance:DV.Has P DV.aa7:=⟨rfl⟩
instance:DV.Has P DV.ae5:=⟨rfl⟩
instance:DV.Has P DV.ae8:=⟨rfl⟩
instance:DV.Has P DV.aa5:=⟨rfl⟩
instance:DV.Has P DV.ac2:=⟨rfl⟩
instance:DV.Has P DV.ab6:=⟨rfl⟩
instance:DV.Has P DV.ac7:=⟨rfl⟩
instance:DV.Has P DV.ac5:=⟨rfl⟩
instance:DV.Has P DV.af1:=⟨rfl⟩
instance:DV.Has P DV.ab5:=⟨rfl⟩
instance:DV.Has P DV.ac4:=⟨rfl⟩
instance:DV.Has P DV.ab8:=⟨rfl⟩
instance:DV.Has P DV.ae2:=⟨rfl⟩
instance:DV.Has P DV.ac6:=⟨rfl⟩
instance:DV.Has P DV.ad8:=⟨rfl⟩
instance:DV.Has P DV.ac3:=⟨rfl⟩
instance:DV.Has P DV.ae4:=⟨rfl⟩
instance:DV.Has P DV.af6:=⟨rfl⟩
instance:DV.Has P DV.ae7:=⟨rfl⟩
instance:DV.Has P DV.ac8:=⟨rfl⟩
instance:DV.Has P DV.ac0:=⟨rfl⟩
instance:DV.Has P DV.ai8:=⟨rfl⟩
instance:DV.Has P DV.af5:=⟨rfl⟩
instance:DV.Has P DV.ab2:=⟨rfl⟩
instance:DV.Has P DV.ad4:=⟨rfl⟩
instance:DV.Has P DV.aa9:=⟨rfl⟩
instance:DV.Has P DV.ae6:=⟨rfl⟩
instance:DV.Has P DV.af3:=⟨rfl⟩
instance:DV.Has P DV.ak0:=⟨rfl⟩
instance:DV.Has P DV.af4:=⟨rfl⟩
theorem aC9:DT ag1 P "letters_of" DV.ad6 s_letters_of:=⟨["machine"],["machine"],by walk_at "sc",rfl,rfl,λ _ _ _ _ _ _=>bd1 (λ _=>rfl),.inl (by decide +kernel)⟩
theorem aW3:DT ag1 P "rooms_of" DV.aa8 ax1:=⟨["machine"],["machine"],by walk_at "sc",rfl,rfl,λ _ _ _ _ _ _=>bd1 (λ _=>rfl),.inl (by decide +kernel)⟩
theorem aU9:DT ag1 P "doors_of" DV.ab3 ax2:=⟨["machine"],["machine"],by walk_at "sc",rfl,rfl,λ _ _ _ _ _ _=>bd1 (λ _=>rfl),.inl (by decide +kernel)⟩
theorem aX6:DT ag1 P "is_whole" DV.af2 aw5:=⟨["thing", "low", "high"],["thing", "low", "high"],by walk_at "sc",rfl,rfl,λ _ _ _ _ _ _=>bd3 (λ _ _ _=>rfl),.inl (by decide +kernel)⟩
theorem ax9:DT ag1 P "is_tuple_of" DV.ad0 ai9:=⟨["thing", "many"],["thing", "many"],by walk_at "sc",rfl,rfl,λ _ _ _ _ _ _=>bd2 (λ _ _=>rfl),.inl (by decide +kernel)⟩
theorem aN3:DT ag1 P "is_letter" DV.ae3 s_is_letter:=⟨["thing", "letters"],["thing", "letters"],by walk_at "sc",rfl,rfl,λ _ _ _ _ _ _=>bd2 (λ _ _=>rfl),.inl (by decide +kernel)⟩
theorem cc1:DT ag1 P "grid" DV.ad7 bD7:=⟨["size", "entry", "rows", "i"],["size", "entry"],by walk_at "sc",rfl,rfl,λ _ _ _ _ _ _=>bd2 (λ _ _=>rfl),.inl (by decide +kernel)⟩
theorem bv9:DT ag1 P "raised" DV.ae0 aS7:=⟨["one", "many", "plain_one", "times", "answer", "square", "left"],["one", "many", "plain_one", "times"],by walk_at "sc",rfl,rfl,λ _ _ _ _ _ _=>bd4 (λ _ _ _ _=>rfl),.inl (by decide +kernel)⟩
theorem bS3:DT ag1 P "least" DV.ad5 bm5:=⟨["prices"],["prices"],by walk_at "sc",rfl,rfl,λ _ _ _ _ _ _=>bd1 (λ _=>rfl),.inl (by decide +kernel)⟩
theorem bH8:DT ag1 P "added" DV.ad9 bk1:=⟨["one", "other"],["one", "other"],by walk_at "sc",rfl,rfl,λ _ _ _ _ _ _=>bd2 (λ _ _=>rfl),.inl (by decide +kernel)⟩
theorem bG4:DT ag1 P "plain" DV.ae1 bh5:=⟨["n"],["n"],by walk_at "sc",rfl,rfl,λ _ _ _ _ _ _=>bd1 (λ _=>rfl),.inr ⟨by decide,[("plain.0",DV.ab1,["i", "j"],[])],by decide +kernel,by decide +kernel,λ p h=>by
 simp only[aB,aW,or_false]at h
 rcases h with rfl
 .exact⟨rfl,bU3⟩⟩⟩
theorem bl6:DT ag1 P "product" DV.ab4 ap3:=⟨["one", "other", "size"],["one", "other"],by walk_at "sc",rfl,rfl,λ _ _ _ _ _ _=>bd2 (λ _ _=>rfl),.inr ⟨by decide,[("product.0",DV.aa6,["i", "j"],["size", "one", "other"])],by decide +kernel,by decide +kernel,λ p h=>by
 simp only[aB,aW,or_false]at h
 rcases h with rfl
 .exact⟨rfl,bU3⟩⟩⟩
theorem bQ0:DT ag1 P "power" DV.af7 aL4:=⟨["table", "many"],["table", "many"],by walk_at "sc",rfl,rfl,λ _ _ _ _ _ _=>bd2 (λ _ _=>rfl),.inl (by decide +kernel)⟩
theorem at5:DT ag1 P "letter_table" DV.aa4 s_letter_table:=⟨["machine", "letter", "least_fee"],["machine", "letter"],by walk_at "sc",rfl,rfl,λ _ _ _ _ _ _=>bd2 (λ _ _=>rfl),.inr ⟨by decide,[("letter_table.least_fee",DV.aa2,["i", "j"],["machine", "letter"])],by decide +kernel,by decide +kernel,λ p h=>by
 simp only[aB,aW,or_false]at h
 rcases h with rfl
 .exact⟨rfl,bU3⟩⟩⟩
theorem aD9:DT ag1 P "word_table" DV.aa7 am9:=⟨["machine", "word", "made", "table", "letter"],["machine", "word"],by walk_at "sc",rfl,rfl,λ _ _ _ _ _ _=>bd2 (λ _ _=>rfl),.inl (by decide +kernel)⟩
theorem bc4:DT ag1 P "sign_of" DV.ae5 aH2:=⟨["price"],["price"],by walk_at "sc",rfl,rfl,λ _ _ _ _ _ _=>bd1 (λ _=>rfl),.inl (by decide +kernel)⟩
theorem bn6:DT ag1 P "reading" DV.ae8 aH7:=⟨["table"],["table"],by walk_at "sc",rfl,rfl,λ _ _ _ _ _ _=>bd1 (λ _=>rfl),.inr ⟨by decide,[("reading.0",DV.ac1,["i", "j"],["table"])],by decide +kernel,by decide +kernel,λ p h=>by
 simp only[aB,aW,or_false]at h
 rcases h with rfl
 .exact⟨rfl,bU3⟩⟩⟩
theorem au8:DT ag1 P "sign_product" DV.aa5 ai3:=⟨["one", "other", "size"],["one", "other"],by walk_at "sc",rfl,rfl,λ _ _ _ _ _ _=>bd2 (λ _ _=>rfl),.inr ⟨by decide,[("sign_product.0",DV.aa3,["i", "j"],["size", "one", "other"])],by decide +kernel,by decide +kernel,λ p h=>by
 simp only[aB,aW,or_false]at h
 rcases h with rfl
 .exact⟨rfl,bU3⟩⟩⟩
theorem aD2:DT ag1 P "word_signs" DV.ac2 an2:=⟨["machine", "word"],["machine", "word"],by walk_at "sc",rfl,rfl,λ _ _ _ _ _ _=>bd2 (λ _ _=>rfl),.inl (by decide +kernel)⟩
theorem aL0:DT ag1 P "is_steady" DV.ab6 aq6:=⟨["signs"],["signs"],by walk_at "sc",rfl,rfl,λ _ _ _ _ _ _=>bd1 (λ _=>rfl),.inl (by decide +kernel)⟩
theorem ba2:DT ag1 P "round_of" DV.ac7 aw9:=⟨["sign"],["sign"],by walk_at "sc",rfl,rfl,λ _ _ _ _ _ _=>bd1 (λ _=>rfl),.inl (by decide +kernel)⟩
theorem aL1:DT ag1 P "sharpened" DV.ac5 as4:=⟨["signs", "size", "rounds"],["signs"],by walk_at "sc",rfl,rfl,λ _ _ _ _ _ _=>bd1 (λ _=>rfl),.inr ⟨by decide,[("sharpened.0",DV.ab0,["i", "j"],["size", "signs", "rounds"])],by decide +kernel,by decide +kernel,λ p h=>by
 simp only[aB,aW,or_false]at h
 rcases h with rfl
 .exact⟨rfl,bU3⟩⟩⟩
theorem aX7:DT ag1 P "is_ahead" DV.af1 aw4:=⟨["thing", "at"],["thing", "at"],by walk_at "sc",rfl,rfl,λ _ _ _ _ _ _=>bd2 (λ _ _=>rfl),.inl (by decide +kernel)⟩
theorem an5:DT ag1 P "is_letter_step" DV.ab5 s_is_letter_step:=⟨["thing", "letters"],["thing", "letters"],by walk_at "sc",rfl,rfl,λ _ _ _ _ _ _=>bd2 (λ _ _=>rfl),.inl (by decide +kernel)⟩
theorem au5:DT ag1 P "is_pair_step" DV.ac4 ai4:=⟨["thing", "at"],["thing", "at"],by walk_at "sc",rfl,rfl,λ _ _ _ _ _ _=>bd2 (λ _ _=>rfl),.inl (by decide +kernel)⟩
theorem aq2:DT ag1 P "is_sharp_step" DV.ab8 ah5:=⟨["thing", "at"],["thing", "at"],by walk_at "sc",rfl,rfl,λ _ _ _ _ _ _=>bd2 (λ _ _=>rfl),.inl (by decide +kernel)⟩
theorem aH4:DT ag1 P "signs_made" DV.ae2 am4:=⟨["machine", "makings", "made", "step"],["machine", "makings"],by walk_at "sc",rfl,rfl,λ _ _ _ _ _ _=>bd2 (λ _ _=>rfl),.inl (by decide +kernel)⟩
theorem ar9:DT ag1 P "signs_of_step" DV.ac6 ah8:=⟨["machine", "step", "made", "at"],["machine", "step", "made"],by walk_at "sc",rfl,rfl,λ _ _ _ _ _ _=>bd3 (λ _ _ _=>rfl),.inl (by decide +kernel)⟩
theorem aW2:DT ag1 P "as_times" DV.ad8 aw3:=⟨["makings", "many"],["makings", "many"],by walk_at "sc",rfl,rfl,λ _ _ _ _ _ _=>bd2 (λ _ _=>rfl),.inl (by decide +kernel)⟩
theorem bz4:DT ag1 P "folded" DV.ac3 aP2:=⟨["steps", "of_letter", "of_pair", "of_times", "values", "step"],["steps", "of_letter", "of_pair", "of_times"],by walk_at "sc",rfl,rfl,λ _ _ _ _ _ _=>bd4 (λ _ _ _ _=>rfl),.inl (by decide +kernel)⟩
theorem bo3:DT ag1 P "counted" DV.ae4 aH0:=⟨["steps", "for_letter"],["steps", "for_letter"],by walk_at "sc",rfl,rfl,λ _ _ _ _ _ _=>bd2 (λ _ _=>rfl),.inr ⟨by decide,[("counted.0",DV.ad2,["one", "many"],[]),("counted.1",DV.ad3,["one", "other"],[]),("counted.2",DV.ad1,["letter"],["for_letter"])],by decide +kernel,by decide +kernel,λ p h=>by
 simp only[aB,aW,or_false]at h
 rcases h with rfl|rfl|rfl
 .exact⟨rfl,cx7⟩
 .exact⟨rfl,cz1⟩
 .exact⟨rfl,cv7⟩⟩⟩
theorem bm8:DT ag1 P "weights" DV.af6 aF0:=⟨["machine", "makings"],["machine", "makings"],by walk_at "sc",rfl,rfl,λ _ _ _ _ _ _=>bd2 (λ _ _=>rfl),.inl (by decide +kernel)⟩
theorem aY9:DT ag1 P "unrolled" DV.ae7 aw0:=⟨["machine", "makings", "n"],["machine", "makings", "n"],by walk_at "sc",rfl,rfl,λ _ _ _ _ _ _=>bd3 (λ _ _ _=>rfl),.inl (by decide +kernel)⟩
theorem aI1:DT ag1 P "last_table" DV.ac8 al9:=⟨["machine", "steps"],["machine", "steps"],by walk_at "sc",rfl,rfl,λ _ _ _ _ _ _=>bd2 (λ _ _=>rfl),.inr ⟨by decide,[("last_table.0",DV.ab9,["letter"],["machine"])],by decide +kernel,by decide +kernel,λ p h=>by
 simp only[aB,aW,or_false]at h
 rcases h with rfl
 .exact⟨rfl,cv7⟩⟩⟩
theorem an3:DT ag1 P "table_unrolled" DV.ac0 ag9:=⟨["machine", "makings", "n"],["machine", "makings", "n"],by walk_at "sc",rfl,rfl,λ _ _ _ _ _ _=>bd3 (λ _ _ _=>rfl),.inl (by decide +kernel)⟩
theorem aV0:DT ag1 P "_law_box" DV.ai8 av5:=⟨["_law_script", "_law_at", "_law_cell", "_law_number", "_law_j", "_law_part"],["_law_script", "_law_at"],by walk_at "sc",rfl,rfl,λ _ _ _ _ _ _=>bd2 (λ _ _=>rfl),.inl (by decide +kernel)⟩
theorem aL3:DT ag1 P "_law_draw" DV.af5 ar6:=⟨["_law_box_here", "_law_many", "_law_found"],["_law_box_here", "_law_many"],by walk_at "sc",rfl,rfl,λ _ _ _ _ _ _=>bd2 (λ _ _=>rfl),.inl (by decide +kernel)⟩
theorem at8:DT ag1 P "_law_product" DV.ab2 ai6:=⟨["_law_one", "_law_other", "_law_found", "_law_line", "_law_new", "_law_k"],["_law_one", "_law_other"],by walk_at "sc",rfl,rfl,λ _ _ _ _ _ _=>bd2 (λ _ _=>rfl),.inl (by decide +kernel)⟩
theorem au1:DT ag1 P "_law_machine" DV.ad4 ai5:=⟨["_law_box_here", "_law_letters", "_law_rooms", "_law_many", "_law_high", "_law_doors", "_law_k", "_law_start", "_law_goal", "_law_letter", "_law_bits", "_law_begins", "_law_ends"],["_law_box_here"],by walk_at "sc",rfl,rfl,λ _ _ _ _ _ _=>bd1 (λ _=>rfl),.inl (by decide +kernel)⟩
theorem jN:DT ag1 P "_law_letter_signs" DV.aa9 s__law_letter_signs:=⟨["_law_machine_here", "_law_letter", "_law_rooms", "_law_lines", "_law_start", "_law_sign", "_law_goal", "_law_cost"],["_law_machine_here", "_law_letter"],by walk_at "sc",rfl,rfl,λ _ _ _ _ _ _=>bd2 (λ _ _=>rfl),.inl (by decide +kernel)⟩
theorem aF3:DT ag1 P "_law_sharp" DV.ae6 am1:=⟨["_law_signs", "_law_size", "_law_found", "_law_i", "_law_line", "_law_j", "_law_best", "_law_k", "_law_here"],["_law_signs"],by walk_at "sc",rfl,rfl,λ _ _ _ _ _ _=>bd1 (λ _=>rfl),.inl (by decide +kernel)⟩
theorem au7:DT ag1 P "_law_makings" DV.af3 ai2:=⟨["_law_box_here", "_law_machine_here", "_law_most", "_law_sharps", "_law_steps", "_law_tables", "_law_steady", "_law_k", "_law_way", "_law_one", "_law_other", "_law_letter"],["_law_box_here", "_law_machine_here", "_law_most", "_law_sharps"],by walk_at "sc",rfl,rfl,λ _ _ _ _ _ _=>bd4 (λ _ _ _ _=>rfl),.inl (by decide +kernel)⟩
theorem aM6:DT ag1 P "_law_goes" DV.ak0 ar7:=⟨["_law_table", "_law_signs", "_law_n", "_law_weight", "_law_line", "_law_row", "_law_cost", "_law_sign"],["_law_table", "_law_signs", "_law_n", "_law_weight"],by walk_at "sc",rfl,rfl,λ _ _ _ _ _ _=>bd4 (λ _ _ _ _=>rfl),.inl (by decide +kernel)⟩
theorem bE5:FnScope ["_law_script", "_law_k", "_law_box_here", "_law_machine_here", "_law_makings_here", "_law_signs", "_law_weight", "_law_great", "_law_n"] ["_law_script"] (defScope aI0):=by walk_at "sc"
theorem cg4:mSs ⟨["_law_script", "_law_k", "_law_box_here", "_law_machine_here", "_law_makings_here", "_law_signs", "_law_weight", "_law_great", "_law_n"],defScope aI0,λ _ _ _=>false⟩ DV.af4.body (qc aI0)=true:=by decide +kernel
theorem cj2:cw3 "law" aI0 ["_law_script"]:=λ _ _ _ _ _ _=>bd1 λ _=>rfl
theorem co3:DT ag1 P "law" DV.af4 aI0:=⟨_,_,bE5,rfl,rfl,cj2,.inl cg4⟩
theorem cr4:∀ p∈tb,DT ag1 P p.1 p.2.1 p.2.2:=by
 intro p h
 unfold tb at h
 simp only[aB,aW,or_false]at h
 rcases h with rfl|rfl|rfl|rfl|rfl|rfl|rfl|rfl|rfl|rfl|rfl|rfl|rfl|rfl|rfl|rfl|rfl|rfl|rfl|rfl|rfl|rfl|rfl|rfl|rfl|rfl|rfl|rfl|rfl|rfl|rfl|rfl|rfl|rfl|rfl|rfl|rfl|rfl|rfl|rfl|rfl|rfl|rfl|rfl
 .exact aC9
 .exact aW3
 .exact aU9
 .exact aX6
 .exact ax9
 .exact aN3
 .exact cc1
 .exact bv9
 .exact bS3
 .exact bH8
 .exact bG4
 .exact bl6
 .exact bQ0
 .exact at5
 .exact aD9
 .exact bc4
 .exact bn6
 .exact au8
 .exact aD2
 .exact aL0
 .exact ba2
 .exact aL1
 .exact aX7
 .exact an5
 .exact au5
 .exact aq2
 .exact aH4
 .exact ar9
 .exact aW2
 .exact bz4
 .exact bo3
 .exact bm8
 .exact aY9
 .exact aI1
 .exact an3
 .exact aV0
 .exact aL3
 .exact at8
 .exact au1
 .exact jN
 .exact aF3
 .exact au7
 .exact aM6
 .exact co3
theorem fmc {α:Type}{P:α->Prop}{a l}(h:P a)(t:∀ x∈l,P x):∀ x∈a::l,P x:=List.forall_mem_cons.mpr ⟨h,t⟩
theorem fmn {α:Type}{P:α->Prop}:∀ x∈([]:List α),P x:=λ _ h=>nomatch h
theorem cf3 {l:di}{mg:yC}(X:K.In h)(G:h.Ns aY mg)(a9:mg "law"=some (.ref fa))(hD:∀ p∈tb,cm9 K p.1 p.2.2)(hz:∀ x∈bNames,ci K aY x=some none)
  {a3:yI} {a4:yE} (gc_LETTERS:ci K aY "LETTERS"=some (some (.ref J))) (gl_LETTERS:K.lookup J=some ⟨.type "tuple",a3,.seq #[.str ⟨#[97]⟩ Z,.str ⟨#[98]⟩ a0,.str ⟨#[99]⟩ a1] a5,a4⟩)
  (gc_FREE:ci K aY "FREE"=some (some (.int (0) a6)))
  {a8:Tok} (gc_SOME:ci K aY "SOME"=some (some (.int (1) a8)))
  {a2:Tok} (gc_UNBOUND:ci K aY "UNBOUND"=some (some (.int (2) a2)))
  {a7:Tok} (gc_NONE:ci K aY "NONE"=some (some (.int (3) a7)))
  {Y:Tok} (gc_MOST_STEPS:ci K aY "MOST_STEPS"=some (some (.int (100) Y)))
  {y:Tok} (gc_LETTER_WEIGHT:ci K aY "LETTER_WEIGHT"=some (some (.int (3) y)))
  (hT:∀ x∈ag1,(bo K x).isSome=true) (tnd:decide (((bO6 ag1 K).map (·.1)).Nodup)=true)
  : ∃ fd:bJ,(∀(s:ah) (v:Value),kJ s fd ⟨[v],[]⟩ [("_law_script",v)])/\∀ base:Heap,K.In base->base.Ns aY mg->BM mg base->bT7 K ag1 base->FnOk l.prog w K mg base CX0 48 fa fd ["_law_script"] (spB ag1 K):=by
 have hP:PrOk (bk6 ag1 P K) (bL8 ag1 K) P mg w:=by
  refine⟨λ f d h=>aT0 (tbl:=tbl) (λ p hp=>?_) f d h,λ x d h=>bf1 (tbl:=co2) ?_ x d h,λ x hx=>PySem.W.mg_none_of X G (hz x hx),co9 X G,cn4,of_decide_eq_true tnd,λ _ _ h=>(by cases h),λ _ _ h=>(by cases h),λ _ h=>(by cases h),λ _ h=>(by cases h),λ _ _ _ _ h=>(by cases h),λ _ _ _ _ h=>(by cases h),λ _ _ h=>(by cases h),λ _ h=>(by cases h),λ _ _ h=>(by cases h),λ _ _ h=>(by cases h)⟩
  .obtain⟨r,hr,rfl⟩:=az.mp hp
   exact good_of X G hT (hD r hr) (cr4 r hr)
  .refine fmc ?_ (fmc ?_ (fmc ?_ (fmc ?_ (fmc ?_ (fmc ?_ (fmc ?_ (fmc ?_ (fmc ?_ fmn))))))))
   .exact bF8 (bU X G gc_LETTERS) gl_LETTERS rfl rfl (show 3<=1000 by decide) (.cons (.str _ _ (by decide)) (.cons (.str _ _ (by decide)) (.cons (.str _ _ (by decide)) (.nil))))
   .exact al7 (bU X G gc_FREE)
   .exact al7 (bU X G gc_SOME)
   .exact al7 (bU X G gc_UNBOUND)
   .exact al7 (bU X G gc_NONE)
   .exact al7 (bU X G gc_MOST_STEPS)
   .exact al7 (bU X G gc_LETTER_WEIGHT)
   .obtain⟨_,_,_,_,_,_,_,_,_,_,a,l,_⟩:=hD ("product",DV.ab4,ap3) (List.mem_of_getElem? (i:=11) rfl)
    exact bA3 X G a l
   .obtain⟨_,_,_,_,_,_,_,_,_,_,a,l,_⟩:=hD ("power",DV.af7,aL4) (List.mem_of_getElem? (i:=12) rfl)
    exact bA3 X G a l
 obtain⟨f,od,an,sl,oc,kV,dc,pm,cd,ct,a,l0,c,k⟩:=hD ("law",DV.af4,aI0) (List.mem_of_getElem? (i:=43) rfl)
 have e:=a9.symm.trans (bU X G a)
 cases e
 have F:=bD4 (st:=aI0) l0 c k
 refine⟨_,λ s v=>.of_eq rfl,λ base _ _ bm hk=>(cd5 hP (bC5 hT bm hk) 16 (aR5 hP (bC5 hT bm hk) (λ _=>rfl) 16) (d:=DV.af4) (f := "law") rfl ⟨F,bU X G a,F.binds cj2⟩ bE5 rfl rfl cg4 bf4).imp (λ vs H Q E q=>ce4 (λ ns h=>DV.cm6 (P:=P) 7 ns h) vs H Q E (by9 hT q))⟩
end My
end
open PySem PySem.W PyProof.Rows
set_option maxRecDepth 100000 in
set_option maxHeartbeats 0 in
theorem PySem.Challenge.cw_leasttolls_k33_whole_unrolled_words_go_w_holds : PySem.Challenge.rw_leasttolls_k33_whole_unrolled_words_go_w.Holds := by
 refine My.GT.2 ?_
 delta My.GT
 dsimp only
 k_fill
 refine L2.bg5 (l:=PySem.Challenge.rw_leasttolls_k33_whole_unrolled_words_go_w) (n:=63) (k:=48) (x := "_law_script") (sp:=L2.spB My.ag1) My.ag1 rfl (by decide) rfl ⟨rfl,by decide,by decide⟩ (λ w h Y=>⟨PySem.W.km_in_of Y,PySem.W.km_tabs_of Y⟩) (λ w=>?R) (λ w=>?NT) ?F (λ K H a ns hl hB hS hF=>L2.cd1 hl hB hS hF)
 case R=>kernel_rfl
 case NT=>kernel_rfl
 case F =>
  intro w mg fa h KX G hmg
  refine' My.cf3 KX G hmg ?hD ?hz ?gc_LETTERS ?gl_LETTERS ?gc_FREE ?gc_SOME ?gc_UNBOUND ?gc_NONE ?gc_MOST_STEPS ?gc_LETTER_WEIGHT ?hT ?tnd
  case hD=>unfold My.tb;repeat' first|exact My.fmn|refine My.fmc ?_ ?_|walk_at "df"
  case hz=>unfold L2.bNames;repeat' first|exact My.fmn|refine My.fmc ?_ ?_|k_is
  (case gc_LETTERS=>k_is)
  (case gl_LETTERS=>k_is)
  (case gc_FREE=>k_is)
  (case gc_SOME=>k_is)
  (case gc_UNBOUND=>k_is)
  (case gc_NONE=>k_is)
  (case gc_MOST_STEPS=>k_is)
  (case gc_LETTER_WEIGHT=>k_is)
  case hT=>unfold My.ag1;repeat' first|exact My.fmn|refine My.fmc ?_ ?_|kernel_rfl
  (case tnd=>kernel_rfl)
