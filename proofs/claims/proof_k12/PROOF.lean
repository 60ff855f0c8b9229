import PyProof.Rows.All
import Wide.All
import OpenK.AllK
import Wide.FinOn
import PyProof.EqAt
import PyProof.EqKinds
import PyProof.TupleCall
import PyProof.MinMaxWalk
import PyProof.WalkInts
import PyProof.NeKinds
import PyProof.SliceStr2
import PyProof.StrBlockI
import PyProof.MaxThree
import PyProof.ZipIter
import PyProof.Draws
import PyProof.EnumMake
import PyProof.ListMulRoad
import PyProof.Rows.StrRev
import PyProof.DictItems
import PyProof.ListRange
import PyProof.AutoIntG2
import PyProof.FactsAll.int_6
import KE.KMinKey
import PyProof.Rows.TupDisplay
import PyProof.Rows.CatchBare
import KE.KTryMore
import PyProof.RulesAs
import PyProof.StrOps
import KE.KDictList
import PyProof.Rows.SortShell
import KE.KDictLaws
import KE.KDictSum
import KE.IntBitsLaws
import KE.KIntText
import PyProof.CallStr
import PyProof.StrBlockL
import PyProof.StrLawsChain
import PyProof.StrLawsTight
import PyProof.Rows.StrItems
import PySem.Challenge.RW_leasttolls_k12_whole_least_tolls
set_option bootstrap.genMatcherCode false
set_option genSizeOf false
set_option compiler.extract_closed false
set_option Elab.async false
set_option linter.all false
set_option maxRecDepth 100000
set_option maxHeartbeats 4000000
open List renaming getElem?_eq_some_iff->ac,getElem?_eq_getElem->ag,size_toArray->aq,mem_cons_of_mem->ar,mem_cons->av,length_map->ax,getElem?_map->ay,mem_cons_self->az,getElem?_set_ne->aB,replicate->aC,length_append->aD,range->aH,getElem?_set_self->aJ,mem_map->aK,length_cons->aL,append_assoc->aM,mem_of_getElem?->aN,getElem?_append_right->aP,getElem?_append_left->aQ,map_cons->aS,length_set->aU,mem_singleton->aV,all_eq_true->aZ,getD_eq_getElem?_getD->a7,mem_append->a8,filterMap_cons->a9,lookup_cons->be,getElem?_replicate->bj,not_mem_nil->bn,append_nil->bp,mem_filterMap->br,mem_map_of_mem->bw,mem_append_right->bD,length_take->bG,take_append_getElem->bI,length_singleton->bK,pairwise_cons->bR,take_length->bS,replicate_succ->bT,mem_range->cb,getElem?_toArray->cC,filterMap_map->cD,set_set->cE,length_eq_zero_iff->cI,nodup_cons->cJ,map_append->cM,getElem?_range->cN,map_map->cR,getElem?_eq_none->cZ,drop_eq_getElem_cons->c6,flatten_cons->c9,mem_iff_getElem->dg,length_filterMap_le->dk,getElem?_cons_succ->dz,map_nil->dE,foldl_cons->dI,find?_cons->dM,map->dN,all_cons->dP,take_zero->d7,map_congr_left->ee,of_mem_zip->eF,drop_zero->eZ,set_getElem_self->fe,set_append_right->fg,length_drop->fj,cons_append->fq,getElem?_of_mem->fF,mem_filter->fJ,nil_append->fL,length_nil->fO,range_succ->fR,take_left'->fU,length_pos_iff->fW,nodup_nil->gz,mem_or_eq_of_mem_set->gB,any_cons->gT,getElem_mem->g7,mem_flatMap->g8,take_of_length_le->io,drop_eq_nil_of_le->iq,set_append->iz,filterMap_append->iK,mem_append_left->iL,forIn_nil->iU,filterMap->iV,mem_of_mem_take->i4,filterMap_some->jw,flatMap_append->jx,getElem?_take->jS,map_filterMap->jU,nodup_append->j8,all_nil->ke,any_eq_true->kx,drop_length->kD,length->kE,forIn_cons->kL,foldl->kY,set_comm->lw,all_map->lI,lookup->lQ
open PySem renaming wpAny_bind->ae,Shared->ai,wpAny_pure->au,mem_of_lookup->aF,Program->aI,sizeLine->aO,cellsFrom->aR,Around->aX,starEach->bf,Arguments->bh,wpAny_newObj_type->bB,bootBuiltins->bC,mainGlobals->bE,argBest->bL,wpAny_truthy_bool->bP,FuncData->bQ,wpAny_mono->bU,NameKind->bV,wpAny_holding->cf,wpAny_tryCatch->cg,wpAny_Call_Name_kw->cj,wpAny_call_entry->cq,wpAny_callSpecial?_slot->cr,wpAny_field->cA,rawInt->cF,binaryOp->cG,codeAny_builtin->cK,wpAny_loadPart'->cL,plainId_quiet->cS,compareOp->cU,assignEach->cV,wpAny_seqItems->cX,wpAny_passesOwn->c8,behindInMarks->dh,codeAmong->dw,wpAny_letGo->dA,wpAny_setField_rec->dG,pushCells_keeps->dJ,wpAny_updateSeq->dL,backTo->dR,wpAny_pyIter_list->dT,foldedSetIterable->dW,bindArgs->d4,attributeBase->eB,isTrue->eG,sizeLine_eq->eJ,sliceBounds->eM,codeAny_mono->eR,sysModules->fh,pushCells->ft,seqItems?->fu,codeAny->fx,relabel->fy,Paired->fI,letOwnedTupleGo->fK,swapsWith->ga,pyNext->gh,recursionLimit->gi,newFunctionEnv->gu,wpAny_binaryOp_repeat_ref->gA,holding->gE,Keyword->gF,InCallC->gG,wpAny_Call_method->gJ,IsPart->gQ,wpAny_comprehension_free->gR,storeName->gW,noFill_tuple_add->gX,builtinsNs->g9,assign->hJ,name_of_addr->hV,getItem->hX,wpAny_typeOf->hZ,typeIs_int->ib,call_meets->ic,codeAny_compStart_list->ig,wpAny_rule->ii,wpAny_execs_nil->iu,wpAny_storeName_local->iA,wpAny_isTrue_Compare1->iB,codeAny_call_function->iC,wpAny_storeName_cell->iM,wpAny_loadName_local->iO,keywordEach->iR,strIterType->iW,IsEnum->iX,callerA->i8,TriplesOk->i9,valueAt->jl,wpAny_standAt->jz,swappedStores->jA,seq_tuple_add->jB,annotationsOf->jE,wpAny_Name->jI,wpAny_Constant_int->jJ,wpAny_pyIter_tuple->jK,wpAny_call->jM,wpAny_assign_Name->jW,concat_meets->jZ,wpAny_sequenceKey->j0,seqIndex_neg->j2,slot_list_getitem->j3,notedBy->j4,wpAny_pyIter_enum->j9,call_meetsIn->ka,ItemsOf->kb,pyIter->ki,Result->km,updateSeq->kt,seqSlot_of->kA,seqIndex_of->kF,wpAny_of_eq->kG,BindsTo->kO,Builtin->kP,call->kQ,IsTupleKey->kR,wpAny_load->kS,typeIs_str->kU,PlainAttrs->kW,backToKw->kX,defaultsOf->k6,qualnameIn->k7,KeyKind->lr,lastMarks->lz,seqIndex?->lA,IsEnumOut->lB,Within->lE
open PySem.Heap renaming get?_push_of_some->af,get?_push_size->aE,lt_size->aG,get?_update_other->aY,size_push->bN,SameBut->ci,get?_update_self->cB,get?_none_of_le->fB,get?_push_ne->gI,size_update->kC,ExtBut->kH
open PySem.W renaming Frag->ah,tabIn->bq,kla_fn->bv,CodeHd->bO,kia_one->b7,emptyDict->cw,kitOne->cx,keepIn->cH,fnX->cT,instObj->c7,findIn->dr,fnOf->dD,envX->dF,OpenLaw->dH,tabObj->eX,mg_of->fA,nsIn->fZ,codeIn->gk,methodObj->gC,cellsFrom_some->hU,lookIn->iP,kla_callFunE->iZ,kla_codeExpr->i0,kitx_tuple->jL,callWith_K->jN,specialIn->jX,kitx_list->jY,plainGet->kj,codeHdIn->kz,takesIn->kJ,exmOne->k9,TabsAt->lf,noTabs->lh,WalkO->ln,mroIn->ls
open Nat renaming le_refl->aj,le_trans->am,lt_of_lt_of_le->ao,ne_of_lt->aw,zero_add->bz,lt_irrefl->bF,ne_of_gt->cu,le_succ->db,lt_succ_self->du,le_of_lt->dC,zero_le->dZ,lt_succ_of_lt->eV,lt_trans->eW,le_of_succ_le->gH,lt_trichotomy->gK,add_comm->ie,pow_le_pow_right->i6,le_of_not_lt->kr,succ_ne_self->ku,mul_add->kI,le_of_eq->lF,mul_comm->lG,lt_or_ge->lL,add_zero->lN,sub_self->lO
open Bool renaming and_eq_true->ak,false_ne_true->aW,or_eq_true->b8,false_eq_true->cn,true_and->dQ,and_eq_true_iff->dX,and_true->eD,or_eq_false_iff->fC,eq_iff_iff->fT,not_eq_true'->gL,false_or->lu
open Option.some renaming inj->aA
open PySem.Str renaming ofString->bo
open PyProof.Rows renaming slot_tuple_getitem->bu,callWith_type1->dU,subscriptTail_builtinR->eU,kindOf->fi,envOfC->gj,AllBare->gD,IntsAre->i7,entry_tuple_getitem->jr,Constant_none->jy,tupleItemsOf_->jC,args_tuple_getitem->jO,seqObj->kB,Subscript_->kT
open PySem.F renaming plain_min_loop->bA,slot_tuple_iterator_next->cY,entry_min_loop->dv,slot_enumerate_next->dS,slot_NoneType_hash->dY,args_tuple_add_2->eA,slot_int_rmul->eI,entry_tuple_add->eK,plainAttrs_dict->eN,plainAttrs_list->eP,slot_tuple_add->eT,slot_tuple_mul->eY,args_tuple_iterator_next_1->fN,slot_dict_setdefault->fQ,entry_tuple_iterator_next->fY,slot_dict_update->gU,args_enumerate_next_1->gY,slot_tuple_rmul->gZ,plain_list_iadd->g6,entry_enumerate_next->ik,typeCall_enumerate_1->il,slot_list_append->iD,slot_list_extend->iE,newCall_enumerate_1->iG,entry_enumerate_new->iH,slot_dict_get->iI,args_int_rmul_2->iT,args_object_init_2->iY,slot_int_index->jt,entry_int_rmul->ju,fills_int_mul->jP,called_enumerate->jR
open Ne renaming symm->bH
open PySem.Builtin.Str renaming strSliceIndices->bJ,tooLong->lj
open False renaming elim->bM
open Option renaming isSome_some->bW,isSome_none->bZ,map_eq_some_iff->cy,map_some->fS,isSome_iff_exists->gP,getD_none->kq,map->lW
open PySem.Around renaming under_plainId->bX,frames_deeper->iQ
open PySem.Builtin.SmallTypes renaming nextOf->b9,ownedTupleHandOut->d9,ownedTupleIsFree->eC
open Int renaming toNat_natCast->cz,le_refl->dB,mul_le_mul_of_nonneg_left->fD,toNat_of_nonneg->fX,one_mul->gM,zero_add->ir,le_antisymm->iw,ofNat_lt->j7,le_trans->kg,add_zero->kh,natCast_mul->kM,sub_zero->lK,le_total->lM
open PySem.Calls renaming callWith_builtin->cO,spliced_cons->cW,evalArgs_plain->d6,spliced_nil->eQ,Name_function_global->gd
open PySem.Builtin.Builtins renaming bindParams->cQ
open PySem.Builtin.Slice renaming slicePlaces->c5,sliceAdjust->d8,sliceApplied->gm,slicePartIndex->kK,sliceFields->li
open PySem.Builtin.Tuple renaming tupleExact->di,tupleItemsOf->d5,tupleTooMany->gv,tupleIsExact->k8
open PySem.Builtin.List renaming listTooLong->dj
open Array renaming length_toList->dq,toList_append->ed,getElem?_toList->iJ,append_assoc->jH,toList->jV
open PySem.Paired renaming length->et,snoc->lS
open Classical renaming propDecidable->eO
open PySem.Builtin renaming bitNot->fc,bitOr->gO
open PySem.Obj renaming mapSeq->fm,data_mapFields->jQ
open List.Nodup renaming length_le_of_subset->fw
open PySem.SeqAt.EqAt renaming same->fG,none_int->jn,none_str->jo,int_none->jp,str_none->jq,int_str->jF,str_int->jG,of_refs->jT
open PySem.Txt renaming slice->fM
open Prod renaming fst->gy
open PySem.W.OpenLaw renaming wellSaid->gN
open PySem.SeqAt renaming EqAt->ip,RcNeAt->lJ,RcAt->lV
open PySem.PassesOwn renaming never->iy
open Iff renaming rfl->jm
open PySem.Heap.SameBut renaming update->jv
open PySem.CmpOf renaming ints_lt->jD
open PyProof.Rows.IsTup renaming new->ko
open List.cons renaming injEq->kN
open PySem.Walks renaming list->kZ
open PySem.Value renaming isStrOf->lq,isInt->lP
open Function renaming comp->lv
open List.Pairwise renaming imp_of_mem->lx,filter->lT
open PySem.Builtin.Range renaming rangeSize->ly
open PySem.StrLaws renaming found_one->lC
open PySem.W.OpenRow renaming toRowW->lD
open Nat.succ renaming inj->lH
open PySem.Heap.Ns renaming new->lR
open PySem.Heap.IsSliceOf renaming new->lU
abbrev yA:=List (PySem.Addr×PySem.Obj)
abbrev yB:=List (PySem.Str×PySem.Addr)
abbrev yC:=PySem.Str->Option PySem.Value
abbrev yD:=List (Option Nat)
abbrev yE:=Array (Option PySem.Value)
abbrev yF:=List (PySem.Addr×PySem.Addr)
abbrev yG:=List PySem.Value
abbrev yH:=List PySem.Str
abbrev yI:=Option PySem.Addr
abbrev yJ:=Array PySem.Value
abbrev yK:=List PySem.Expr
abbrev yL:=List PySem.Stmt
noncomputable section
namespace L2
open PySem PySem.Spec PyProof.Rows
theorem head_of {l:dH}{q:aI}{loose:yH}{H:PySem.W.Hook}{N:Nat}{d:DefRec}{h:List (Str×Expr)}
  (left:PySem.W.LeftO l.row.prog q loose (λ s=>PySem.W.xlAt q [] s&&PySem.W.recOk (PySem.W.RowW.records (lD l.row)) s) H.obs H.val N)
  (y:PySem.W.defOf q l.row.name=some (d,h)) (hp:l.row.prog.theDef l.row.name=some (d.params,d.body,d.scope)) (hk:PySem.W.kwWritten? d.params.kwonlyargs d.params.kw_defaults=some h) (z:(!l.row.writes||l.row.records.isEmpty)=true)
  (k1:l.row.wellSaid=true) (ok:(PySem.W.chainsOk q&&PySem.W.opensWell l.row.prog&&(PySem.W.frees l.row.toRowW&&l.row.within.isEmpty))=true) (hb:l.row.prog.bare) (hw:l.row.toRowW.promised)
  (call:ln q loose (PySem.W.XL q []) H.says l.row.toRowW d h λ f vs=>kQ f vs):l.row.Holds :=
 PySem.W.holds_open left H.of H.keeps (λ s e=>PySem.W.xl_of s (dX.mp e).1) PySem.W.XL.keeps y hp hk (λ s e=>PySem.W.recFacts_of (dX.mp e).2) z k1 ok hb hw call
end L2
end
noncomputable section
namespace My
open PySem L2
noncomputable def nmS:Stmt->Bool
 | .Assign [.Name x _] _ _=>decide (x=("__name__"))
 | _=>false
noncomputable def vq:aI:={ PySem.Challenge.pw_leasttolls_k12_whole_least_tolls with main:={ (PySem.Challenge.pw_leasttolls_k12_whole_least_tolls).main with body:=(PySem.Challenge.pw_leasttolls_k12_whole_least_tolls).main.body.filter λ s=>!nmS s } }
inductive IsL:dH->Prop|mk:IsL PySem.Challenge.rw_leasttolls_k12_whole_least_tolls
theorem bZ0 (h:IsL l):PySem.Challenge.rw_leasttolls_k12_whole_least_tolls=l:=by cases h;rfl
noncomputable def lwp:{ l:dH // IsL l }:=by
 refine⟨?p,?h⟩
 case h =>
  have e:PySem.Challenge.rw_leasttolls_k12_whole_least_tolls=?p:=by
   conv=>lhs;reduce
  exact e▸IsL.mk
theorem ws1:gN lwp.1=true:=by k_qdec
theorem ws:gN PySem.Challenge.rw_leasttolls_k12_whole_least_tolls=true:=by
 rw[bZ0 lwp.2];exact ws1
end My
end
section
open PySem PySem.W PyProof.Rows
local macro_rules | `(tactic| o_head $H) => `(tactic| refine L2.head_of (q := My.vq) (loose := []) (H := $H) (N := 4000) (λ w => by kernel_rfl) (by rfl) (by rfl) (by rfl) rfl (by assumption) (by decide +kernel) ⟨rfl, rfl, rfl, rfl, rfl, by decide +kernel⟩ ?_ ?_)
set_option maxRecDepth 100000 in
set_option maxHeartbeats 0 in
noncomputable def My.GT:{ G:Prop // G->PySem.Challenge.rw_leasttolls_k12_whole_least_tolls.Holds }:=by
 refine⟨?G,?h⟩
 case h =>
  intro g
  w_on;refine holds_law My.ws λ said=>?_;k_head;(focus w_witness2)
  exact g
end
noncomputable section
namespace L2
open PySem PySem.Spec PyProof.Rows
noncomputable abbrev Key:=Sum Int Str
noncomputable def aD0:Key->Value->Bool
 | .inl k,v=>lP k v
 | .inr x,v=>lq x v
noncomputable def cm5 (w:World):Key->Int
 | .inl k=>hashInt k
 | .inr x=>hashStr w x
theorem zq:∀ {k} {v},aD0 k v=true->(∃ i t,k=Sum.inl i/\v=Value.int i t)\/(∃ x t,k=Sum.inr x/\v=Value.str x t)
 | .inl i,v,h=>by
  obtain⟨t,e⟩:=Value.isInt_shape h
  exact .inl ⟨i,t,rfl,e⟩
 | .inr x,v,h=>by
  obtain⟨t,e⟩:=Value.isStrOf_shape h
  exact .inr ⟨x,t,rfl,e⟩
theorem ba2 i t :aD0 (.inl i) (.int i t)=true:=by simp[aD0,lP]
theorem aW4 x t :aD0 (.inr x) (.str x t)=true:=by simp[aD0,lq]
theorem bR9 a b :decide ((Sum.inl a:Key)=Sum.inl b)=(a==b):=by
 by_cases e:a=b
 .subst e;simp
 .have h:¬(Sum.inl a:Key)=Sum.inl b:=λ q=>e (Sum.inl.inj q)
  rw[decide_eq_false h]
  exact(beq_eq_false_iff_ne.mpr e).symm
theorem bU0 a b :decide ((Sum.inr a:Key)=Sum.inr b)=decide (a=b):=by
 by_cases e:a=b
 .subst e;simp
 .have h:¬(Sum.inr a:Key)=Sum.inr b:=λ q=>e (Sum.inr.inj q)
  rw[decide_eq_false h,decide_eq_false e]
theorem bQ6 a b :decide ((Sum.inl a:Key)=Sum.inr b)=false:=decide_eq_false (λ q=>nomatch q)
theorem bQ1 a b :decide ((Sum.inr a:Key)=Sum.inl b)=false:=decide_eq_false (λ q=>nomatch q)
noncomputable def zv prog w :lr prog w Key where
 is:=aD0
 hash:=cm5 w
 inj:=λ v a b ha hb=>by
  rcases zq ha with⟨i,t,rfl,rfl⟩|⟨x,t,rfl,rfl⟩
  .rcases zq hb with⟨j,u,rfl,e⟩|⟨y,u,rfl,e⟩
   .injection e with e1 _;rw[e1]
   .exact nomatch e
  .rcases zq hb with⟨j,u,rfl,e⟩|⟨y,u,rfl,e⟩
   .exact nomatch e
   .injection e with e1 _;rw[e1]
 byValue:=λ k v h=>by
  rcases zq h with⟨i,t,rfl,rfl⟩|⟨x,t,rfl,rfl⟩<;>rfl
 pyHash:=λ hv h=>by
  rcases zq hv with⟨i,t,rfl,rfl⟩|⟨x,t,rfl,rfl⟩
  .exact wpAny_pyHash_int h
  .exact wpAny_pyHash_str h
 eqBool:=λ hu hv h=>by
  rcases zq hu with⟨i,t,rfl,rfl⟩|⟨x,t,rfl,rfl⟩
  .rcases zq hv with⟨j,u,rfl,rfl⟩|⟨y,u,rfl,rfl⟩
   .rw[bR9]at h;exact wpAny_eqBool_int h
   .rw[bQ6]at h;exact jF i t y u _ _ _ _ h
  .rcases zq hv with⟨j,u,rfl,rfl⟩|⟨y,u,rfl,rfl⟩
   .rw[bQ1]at h;exact jG x t j u _ _ _ _ h
   .rw[bU0]at h;exact wpAny_eqBool_str h
 «strs»:=λ k x t v h=>by
  rcases zq h with⟨i,u,rfl,e⟩|⟨y,u,rfl,e⟩
  .exact nomatch e
  .injection e with e1 _
   subst e1
   cases v<;>rfl
theorem aF5 prog w i t :(zv prog w).is (.inl i) (.int i t)=true:=ba2 i t
theorem aG7 prog w x t :(zv prog w).is (.inr x) (.str x t)=true:=aW4 x t
noncomputable abbrev FK:=Option Key
noncomputable def fIs:FK->Value->Bool
 | none,v=>match v with|.none=>true|_=>false
 | some k,v=>aD0 k v
noncomputable def fH (w:World):FK->Int
 | none=>0xFCA86420
 | some k=>cm5 w k
theorem qv (h:fIs none v=true):v=.none:=by
 cases v with
 | none=>rfl
 | _=>exact nomatch h
theorem be0 (h:Q 0xFCA86420 { s with toks:=s.toks+1 }):wpAny (model P w) A (PySem.pyHash .none) Q E s:=by
 have hT:s.TypeIs .none "NoneType":=rfl
 unfold PySem.pyHash pyHashByItsType
 refine ae (wpAny_cRoomFor_byValue rfl ?_)
 refine ae (wpAny_specialOf hT dY.lookup ?_)
 rw[if_neg (by rw[beq_builtin_none];exact aW)]
 refine ae (wpAny_specialOf hT dY.lookup ?_)
 refine ae (wpAny_callSpecialIfBoundUnlessNone?_slot hT dY (cq dY hT F.entry_NoneType_hash
   (wpAny_ret_mkInt ?_) (F.args_NoneType_hash_1 _)))
 show wpAny _ _ (if _ then _ else _) Q E _
 rw[if_pos (by decide)]
 exact au h
noncomputable def aQ3 prog w :lr prog w FK where
 is:=fIs
 hash:=fH w
 inj:=λ v a b ha hb=>by
  cases a with
  | none =>
   cases qv ha
   cases b with
   | none=>rfl
   | some k=>rcases zq hb with⟨_,_,_,e⟩|⟨_,_,_,e⟩<;>exact nomatch e
  | some k =>
   cases b with
   | none=>cases qv hb;rcases zq ha with⟨_,_,_,e⟩|⟨_,_,_,e⟩<;>exact nomatch e
   | some j=>exact congrArg some ((zv prog w).inj v k j ha hb)
 byValue:=λ k v h=>by
  cases k with
  | none=>cases qv h;rfl
  | some k=>exact(zv prog w).byValue k v h
 pyHash:=λ {A E s k v Q} hv h=>by
  cases k with
  | none=>cases qv hv;exact be0 h
  | some k=>exact(zv prog w).pyHash hv h
 eqBool:=λ {A E s a b u v Q} hu hv h=>by
  cases a with
  | none =>
   cases qv hu
   cases b with
   | none=>cases qv hv;exact fG _ prog w E Q h
   | some k =>
    rcases zq hv with⟨i,t,rfl,rfl⟩|⟨x,t,rfl,rfl⟩
    .exact jn i t _ _ _ _ h
    .exact jo x t _ _ _ _ h
  | some k =>
   cases b with
   | none =>
    cases qv hv
    rcases zq hu with⟨i,t,rfl,rfl⟩|⟨x,t,rfl,rfl⟩
    .exact jp i t _ _ _ _ h
    .exact jq x t _ _ _ _ h
   | some j =>
    refine(zv prog w).eqBool hu hv ?_
    have e:decide (k=j)=decide (some k=some j):=by simp
    rw[e];exact h
 «strs»:=λ k x t v h=>by
  cases k with
  | none=>exact nomatch qv h
  | some k=>exact(zv prog w).strs k x t v h
noncomputable abbrev NI:=Sum FK (List FK)
section
variable (P:aI) (w:World)
noncomputable def NIs (h:Heap):NI->Value->Prop
 | .inl f,v=>fIs f v=true
 | .inr l,v=>∃ b,v=.ref b/\kR (aQ3 P w) h l b
def cj9 (h:Heap)(ks:List NI)(a:Addr):Prop:=∃ o its n,h.get? a=some o/\o.cls=.type "tuple"/\o.data=.seq its n/\fI (NIs P w h) ks its.toList
end
section
variable {P:aI} {w:World} {h h':Heap}
theorem NIs.inj (hx:NIs P w h x v)(hy:NIs P w h y v):x=y:=by
 cases x with
 | inl f =>
  cases y with
  | inl g=>exact congrArg Sum.inl ((aQ3 P w).inj v f g hx hy)
  | inr l =>
   obtain⟨b,rfl,_⟩:=hy
   exact absurd ((aQ3 P w).byValue f _ hx) (by nofun)
 | inr l =>
  obtain⟨b,rfl,hb⟩:=hx
  cases y with
  | inl g=>exact absurd ((aQ3 P w).byValue g _ hy) (by nofun)
  | inr m =>
   obtain⟨c,e,hc⟩:=hy
   cases e
   exact congrArg Sum.inr (hb.inj hc)
theorem NIs.all_inj:∀ {x y} {vs:yG},fI (NIs P w h) x vs->fI (NIs P w h) y vs->x=y
 | _,_,_,.nil,.nil=>rfl
 | _,_,_,.cons a p,.cons b q=>by rw[a.inj b,NIs.all_inj p q]
theorem cj9.inj (hx:cj9 P w h x a)(hy:cj9 P w h y a):x=y:=by
 obtain⟨o,i,n,e,_,d,p⟩:=hx
 obtain⟨G,J,Cc,e',_,d',z⟩:=hy
 rw[e]at e';cases e'
 rw[d]at d';cases d'
 exact NIs.all_inj p z
theorem NIs.keep (k:∀ b l,kR (aQ3 P w) h l b->kR (aQ3 P w) h' l b)(hx:NIs P w h x v):NIs P w h' x v:=by
 cases x with
 | inl f=>exact hx
 | inr l=>obtain⟨b,e,p⟩:=hx;exact⟨b,e,k _ _ p⟩
end
inductive V where
 | non|bl (b:Bool)|int (i:Int)|str (x:Str)|byt (b:Array UInt8)|flt (b:UInt64)|ref (a:Addr)|ty (n:String)
 deriving DecidableEq
noncomputable def RelV:V->Value->Prop
 | .non,u=>u=Value.none
 | .bl b,u=>u=Value.bool b
 | .int i,u=>∃ t,u=Value.int i t
 | .str x,u=>∃ t,u=Value.str x t
 | .byt b,u=>∃ t,u=Value.bytes b t
 | .flt b,u=>∃ t,u=Value.float b t
 | .ref a,u=>u=Value.ref a
 | .ty n,u=>u=Value.type n
abbrev Vals:List V->List Value->Prop:=fI RelV
theorem Vals.length {us:yG}(r:Vals h us):h.length=us.length:=et r
theorem Vals.get:∀ {h} {us:yG} {i:Nat} {x},Vals h us->h[i]?=some x->∃ u,us[i]?=some u/\RelV x u
 | _,_,_,_,.nil,e=>by simp at e
 | _,_,0,_,.cons r _,e=>by simp at e;subst e;exact⟨_,rfl,r⟩
 | _,_,i+1,x,.cons _ t,e=>by
  obtain⟨u,z,y⟩:=Vals.get t (by simpa using e)
  exact⟨u,by simpa using z,y⟩
theorem Vals.set (r:RelV x u):∀ {h} {us:yG} i ,Vals h us->Vals (h.set i x) (us.set i u)
 | _,_,_,.nil=>.nil
 | _,_,0,.cons _ t=>.cons r t
 | _,_,i+1,.cons q t=>.cons q (Vals.set r i t)
theorem Vals.append:∀ {h ys} {us ws:yG},Vals h us->Vals ys ws->Vals (h++ys) (us++ws)
 | _,_,_,_,.nil,s=>s
 | _,_,_,_,.cons r t,s=>.cons r (Vals.append t s)
theorem Vals.take:∀ {h} {us:yG} n ,Vals h us->Vals (h.take n) (us.take n)
 | _,_,0,_=>.nil
 | _,_,_+1,.nil=>.nil
 | _,_,n+1,.cons r t=>.cons r (Vals.take n t)
theorem Vals.drop:∀ {h} {us:yG} n ,Vals h us->Vals (h.drop n) (us.drop n)
 | _,_,0,r=>r
 | _,_,_+1,.nil=>.nil
 | _,_,n+1,.cons _ t=>Vals.drop n t
noncomputable def aS8:Option V->Option Value->Prop
 | some v,some u=>RelV v u
 | none,none=>True
 | _,_=>False
def KV :List (κ×V)->List (κ×Value)->Prop:=fI λ(p) (q)=>p.1=q.1/\RelV p.2 q.2
noncomputable def kV:Key->V
 | .inl i=>.int i
 | .inr x=>.str x
inductive HO where
 | lst (xs:List V)
 | tup (xs:List V)
 | dK (kvs:List (Key×V))
 | ins (Cc dx:Addr) (fs:List (Str×V))
 | own (x:Addr)
 | xd (fs:List (Str×V))
 | met (f x:Addr)
 | rng (lo hi:Int)
 | frz (o:Obj) (u:HO)
 | tbl (ps:yJ)
 | ext (C:Heap->Prop)
noncomputable abbrev Hp:=Addr->Option HO
noncomputable def fV:FK->V
 | none=>.non
 | some k=>kV k
noncomputable def NAt (H:Hp):NI->V->Prop
 | .inl f,v=>v=fV f
 | .inr l,v=>∃ c,v=.ref c/\H c=some (.tup (l.map fV))
def NK (H:Hp)(k:List NI)(b:Addr):Prop:=∃ xs,H b=some (.tup xs)/\fI (NAt H) k xs
theorem NAt.mono (z:∀ b y,H b=some (.tup y)->H' b=some (.tup y))(h:NAt H k v):NAt H' k v:=by
 cases k with
 | inl f=>exact h
 | inr l=>obtain⟨c,e,q⟩:=h;exact⟨c,e,z _ _ q⟩
theorem NK.mono (Cc:∀ b y,H b=some (.tup y)->H' b=some (.tup y))(h:NK H k b):NK H' k b:=let⟨y,e,p⟩:=h;⟨y,Cc _ _ e,Paired.mono (λ _ _ z=>z.mono Cc) p⟩
noncomputable def upd (H:Hp)(a:Addr)(o:HO):Hp:=λ b=>if b=a then some o else H b
theorem zd :upd H a o a=some o:=by unfold upd;rw[if_pos rfl]
theorem za (h:b≠a):upd H a o b=H b:=by unfold upd;rw[if_neg h]
theorem zu {H:Hp}(h:H a=some o)(h':H b=none):a≠b:=by
 intro e;subst e;rw[h]at h';cases h'
section
variable (P:aI) (w:World)
noncomputable def ab9 (H:Hp)(h:Heap)(a:Addr):HO->Prop
 | .lst xs=>xs.length<=aO/\∃ its   n ,Vals xs its/\h.get? a=some { cls:=.type "list",data:=.seq its.toArray n }
 | .tup xs=>xs.length<=aO/\∃ its,Vals xs its/\IsTup h a its.toArray
 | .dK kvs=>kvs.length<=aO/\(a==fh)=false/\∃ vs,KV kvs vs/\h.DictOf (zv P w) a vs
 | .ins Cc dx fs=>H dx=some (.own a)/\fs.length<=1000/\dx≠a/\h.get? a=some (c7 Cc dx) /\
   ∃ mA,h.Ns1 dx mA/\(∀ f,aS8 (fs.lookup f) (mA f))/\lE mA (fs.map (·.1))
 | .own _=>∃ o,h.get? a=some o
 | .xd fs=>∃ mA,h.Ns1 a mA/\∀ f,aS8 (fs.lookup f) (mA f)
 | .rng lo hi=>∃ t u v,h.get? a=some { cls:=.type "range",data:=.fields #[.int lo t,.int hi u,.int 1 v] }
 | .frz o u=>h.get? a=some o/\ab9 H h a u
 | .tbl ps=>h.get? a=some { cls:=.none,data:=.fields ps }
 | .met f x=>h.get? a=some (gC (.ref f) (.ref x))
 | .ext C=>C h/\(∃ o,h.get? a=some o)/\∀ h1 h2:Heap,C h1->(∀ o,h1.get? a=some o->h2.get? a=some o)->C h2
def HOk (H:Hp)(h:Heap):Prop:=∀ a o,H a=some o->ab9 P w H h a o
end
section
variable {P:aI} {w:World} {H H':Hp} {h h':Heap} {a:Addr} {o:HO}
theorem ab9.lt (x:ab9 P w H h a o):a<h.objs.size:=by
 cases o with
 | lst xs=>obtain⟨_,_,_,_,e⟩:=x;exact aG e
 | tup xs=>obtain⟨_,_,_,p⟩:=x;exact p.lt
 | dK kvs=>obtain⟨_,_,_,_,o,_,_,e,_⟩:=x;exact aG e
 | ins Cc dx fs=>obtain⟨_,_,_,e,_⟩:=x;exact aG e
 | own y=>obtain⟨_,e⟩:=x;exact aG e
 | xd fs=>obtain⟨_,⟨_,_,_,e,_⟩,_⟩:=x;exact aG e
 | rng lo hi=>obtain⟨_,_,_,e⟩:=x;exact aG e
 | frz ob u=>obtain⟨e,_⟩:=x;exact aG e
 | tbl ps=>exact aG (x)
 | met f y=>exact aG (x)
 | ext C=>obtain⟨_,⟨_,e⟩,_⟩:=x;exact aG e
theorem fI.mapP :∀ {h} {l₂},fI F h l₂->(∀ a b,F a b->G a b)->fI G h l₂
 | _,_,.nil,_=>.nil
 | _,_,.cons r t,f=>.cons (f _ _ r) (fI.mapP t f)
theorem ab9.stay (x:ab9 P w H h a o)(k:∀ b u,(b=a\/H b=some (.own a))->h.get? b=some u->h'.get? b=some u)
  (ho:∀ b,H b=some (.own a)->H' b=some (.own a)) (Y:∀ b G,H b=some (.tup G)->H' b=some (.tup G)):ab9 P w H' h' a o:=by
 induction o with
 | lst G=>obtain⟨z,its,n,r,e⟩:=x;exact⟨z,its,n,r,k _ _ (.inl rfl) e⟩
 | tup G=>obtain⟨z,its,r,ob,e,c⟩:=x;exact⟨z,its,r,ob,k _ _ (.inl rfl) e,c⟩
 | dK kvs=>obtain⟨z,y,vs,r,ob,es,ep,e,c⟩:=x;exact⟨z,y,vs,r,ob,es,ep,k _ _ (.inl rfl) e,c⟩
 | ins Cc dx fs =>
  obtain⟨d,z,ne,e,J,⟨od,es,ep,e2,c⟩,r⟩:=x
  exact⟨ho _ d,z,ne,k _ _ (.inl rfl) e,J,⟨od,es,ep,k _ _ (.inr d) e2,c⟩,r⟩
 | own y=>obtain⟨ob,e⟩:=x;exact⟨ob,k _ _ (.inl rfl) e⟩
 | xd fs=>obtain⟨J,⟨od,es,ep,e,c⟩,r⟩:=x;exact⟨J,⟨od,es,ep,k _ _ (.inl rfl) e,c⟩,r⟩
 | rng lo hi=>obtain⟨t,u,v,e⟩:=x;exact⟨t,u,v,k _ _ (.inl rfl) e⟩
 | frz ob u ih=>obtain⟨e,q⟩:=x;exact⟨k _ _ (.inl rfl) e,ih q⟩
 | tbl ps =>
  have e:=x
  exact k a _ (.inl rfl) e
 | met f y =>
  have e:=x
  exact k a _ (.inl rfl) e
 | ext C=>obtain⟨p,⟨o,e⟩,st⟩:=x;exact⟨st _ _ p λ o q=>k _ _ (.inl rfl) q,⟨o,k _ _ (.inl rfl) e⟩,st⟩
theorem HOk.lt (x:HOk P w H h)(e:H a=some o):a<h.objs.size:=(x a o e).lt
theorem HOk.fresh (x:HOk P w H h)(e:h.objs.size<=a):H a=none:=by
 cases q:H a with
 | none=>rfl
 | some u=>exact absurd (ao (x.lt q) e) (bF _)
theorem HOk.kept (x:HOk P w H h)(k:∀ b u,h.get? b=some u->h'.get? b=some u):HOk P w H h':=λ a o e =>
 (x a o e).stay (λ b u _ q=>k b u q) (λ _ q=>q) λ _ _ q=>q
theorem HOk.laid (x:HOk P w H h)(k:∀ b u,h.get? b=some u->h'.get? b=some u)(hp:h.objs.size<=a)(new:ab9 P w (upd H a o) h' a o):HOk P w (upd H a o) h':=λ b u e=>by
 have hn:=x.fresh hp
 by_cases hb:b=a
 .subst hb;rw[zd]at e;cases e;exact new
 .rw[za hb]at e
  exact(x b u e).stay (λ c v _ q=>k c v q) (λ c q=>by rw[za (zu q hn)];exact q) λ c y q=>by rw[za (zu q hn)];exact q
end
def Rd (H:Hp)(a:Addr)(u:HO):Prop:=H a=some u\/∃ o,H a=some (.frz o u)
theorem Rd.ok (r:Rd H a u)(x:HOk P w H h):ab9 P w H h a u:=by
 rcases r with r|⟨o,r⟩
 .exact x a u r
 .obtain⟨_,q⟩:=x a _ r
  exact q
noncomputable def Mut:Option HO->Prop
 | some (.lst _)=>True
 | some (.dK _)=>True
 | some (.ins _ _ _)=>True
 | some (.ext _)=>True
 | _=>False
section
variable {P:aI} {w:World} {H:Hp} {h h':Heap} {x e:Addr} {o':HO}
theorem HOk.write (ok:HOk P w H h)(mu:Mut (H x))(he:e=x\/H e=some (.own x))(k:∀ b u,b≠e->h.get? b=some u->h'.get? b=some u)(Y:∃ u,h'.get? e=some u)
  (new:ab9 P w (upd H x o') h' x o'):HOk P w (upd H x o') h':=λ b u q=>by
 have Cc:∀ c y,H c=some (.own y)->c≠x:=λ c y r z=>by subst z;rw[r]at mu;exact mu
 have G:∀ c J,H c=some (.tup J)->c≠x:=λ c J r z=>by subst z;rw[r]at mu;exact mu
 by_cases hb:b=x
 .subst hb;rw[zd]at q;cases q;exact new
 .rw[za hb]at q
  by_cases hbe:b=e
  .have Z:H b=some (.own x):=by
    rcases he with z|z
    .exact absurd (hbe.trans z) hb
    .rw[hbe];exact z
   rw[q]at Z;cases Z
   obtain⟨v,hv⟩:=Y
   exact⟨v,by rw[hbe];exact hv⟩
  .refine(ok b u q).stay (λ c v hc r=>k c v ?_ r) (λ c r=>by rw[za (Cc c b r)];exact r) λ c J r=>by rw[za (G c J r)];exact r
   rcases hc with rfl|hc
   .exact hbe
   .rintro rfl
    rcases he with z|z
    .exact Cc c b hc z
    .rw[hc]at z;cases z;exact hb rfl
end
structure Un (fs ex:List Addr)(H H':Hp)(h h':Heap):Prop where
 keep:∀ b o,h.get? b=some o->H b=none->b ∉ fs->b ∉ ex->h'.get? b=some o
 slot:∀ b o,h.get? b=some o->H b=none->b∈fs->b ∉ ex->∃ sl,h'.get? b=some { o with slots:=sl }
 free:∀ b o,h.get? b=some o->H b=none->b ∉ ex->H' b=none
 there:∀ b o,h.get? b=some o->b ∉ ex->∃ o',h'.get? b=some o'
 tups:∀ b xs,H b=some (.tup xs)->H' b=some (.tup xs)
 frzs:∀ b o u,H b=some (.frz o u)->H' b=some (.frz o u)
 tbls:∀ b ps,H b=some (.tbl ps)->∃ more,H' b=some (.tbl (ps++more))
section
variable {fs fs' ex ex':List Addr} {H H1 H2:Hp} {h h1 h2 h':Heap} {a x e:Addr} {o:HO}
theorem Un.any (u:Un fs ex H H1 h h1)(q:h.get? b=some ob)(n:H b=none)(hx:b ∉ ex):∃ sl,h1.get? b=some { ob with slots:=sl }:=by
 by_cases hb:b∈fs
 .exact u.slot b ob q n hb hx
 .exact⟨ob.slots,u.keep b ob q n hb hx⟩
theorem Un.kept (k:∀ b u,h.get? b=some u->h'.get? b=some u):Un fs ex H H h h' :=
 ⟨λ b ob q _ _ _=>k b ob q,λ b ob q _ _ _=>⟨ob.slots,k b ob q⟩,λ _ _ _ n _=>n,λ b ob q _=>⟨ob,k b ob q⟩,λ _ _ q=>q,λ _ _ _ q=>q,λ _ ps q=>⟨#[],by rw[q];simp⟩⟩
theorem Un.refl:Un fs ex H H h h:=Un.kept λ _ _ q=>q
theorem Un.laid (k:∀ b u,h.get? b=some u->h'.get? b=some u)(hp:h.objs.size<=a)(hn:H a=none):Un fs ex H (upd H a o) h h' where
 keep:=λ b u q _ _ _=>k b u q
 slot:=λ b u q _ _ _=>⟨u.slots,k b u q⟩
 free:=λ b u q n _=>by rw[za (aw (ao (aG q) hp))];exact n
 there:=λ b u q _=>⟨u,k b u q⟩
 tups:=λ b y q=>by rw[za (zu q hn)];exact q
 frzs:=λ b u y q=>by rw[za (zu q hn)];exact q
 tbls:=λ b ps q=>⟨#[],by rw[za (zu q hn),q];simp⟩
theorem Un.write (mu:Mut (H x))(he:e=x\/H e=some (.own x))(k:∀ b u,b≠e->h.get? b=some u->h'.get? b=some u)(y:∃ u,h'.get? e=some u):Un fs ex H (upd H x o) h h':=by
 have hx:∀ b,H b=none->b≠x:=λ b n z=>by subst z;rw[n]at mu;exact mu
 have hb:∀ b,H b=none->b≠e:=λ b n z=>by
  subst z
  rcases he with r|r
  .exact hx b n r
  .rw[n]at r;cases r
 have Cc:∀ b u,H b=some u->¬ Mut (some u)->b≠x:=λ b u q J z=>by subst z;rw[q]at mu;exact J mu
 refine⟨λ b u q n _ _=>k b u (hb b n) q,λ b u q n _ _=>⟨u.slots,k b u (hb b n) q⟩,λ b u q n _=>by rw[za (hx b n)];exact n,λ b u q _=>?_,
  λ b G q=>by rw[za (Cc b _ q λ z=>z)];exact q,λ b u G q=>by rw[za (Cc b _ q λ z=>z)];exact q,λ b ps q=>⟨#[],by rw[za (Cc b _ q λ z=>z),q];simp⟩⟩
 by_cases hbe:b=e
 .subst hbe;exact y
 .exact⟨u,k b u hbe q⟩
end
noncomputable def trk (h:Heap)(H:Hp):List Addr:=(aH h.objs.size).filter λ a=>(H a).isSome
noncomputable def bg0 (h:Heap)(H:Hp):Heap:=PySem.W.hideAll h (trk h H)
theorem aU7 h H :(bg0 h H).objs.size=h.objs.size:=PySem.W.hideAll_size _ _
theorem aj3 (e:h.get? b=some o)(n:H b=none):(bg0 h H).get? b=some o :=
 PySem.W.hideAll_get _ e λ y=>by
  have q:=(fJ.mp y).2
  rw[n]at q;simp at q
theorem bz7 (e:(bg0 h H).get? b=some o):h.get? b=some o/\H b=none:=by
 have e':=PySem.W.of_hideAll (trk h H) e
 refine⟨e',?_⟩
 cases q:H b with
 | none=>rfl
 | some x =>
  have y:b∈trk h H:=fJ.mpr ⟨cb.mpr (aG e'),by simp[q]⟩
  have z:(bg0 h H).get? b=none:=PySem.W.hideAll_none (trk h H) y
  rw[z]at e;cases e
noncomputable def bz9 (g h:Heap)(L:Addr):List (Addr×Obj):=(aH h.objs.size).filterMap λ a=>if a=L\/(g.get? a).isSome=true then none else(h.get? a).map λ o=>(a,o)
noncomputable def rest (g h:Heap)(L d:Addr):List (Addr×Obj):=(bz9 g h L).filter λ p=>decide (p.1≠d)
structure Mod (K:ah)(mg:yC)(base:Heap):Prop where
 kin:K.In base
 glob:base.Ns bE mg
 blt:∃ mb,base.Ns g9 mb/\∀ x:Str,x ≠ "__name__"->mb x=bC x
 nolimit:base.NoLimit
structure Cx where
 prog:aI
 w:World
 K:ah
 mg:Str->Option Value
 base:Heap
 A:aX
 N:List Str
 s₀:ai
 H₀:Hp
 env:Env
 outer:List Env
 stack:List Env
 ex:List Addr
 fn:Str->Bool
 calm:Bool
 pn:List (Addr×Obj)
 xe:Value->ai->Prop
noncomputable def frs (l:List Env):List Addr:=l.filterMap (·.frame)
noncomputable abbrev Cx.fs (X:Cx):List Addr:=frs X.outer
def Vis (sc:Scope)(x:Str):Prop:=sc.names.lookup x=some .local\/sc.names.lookup x=some .cell\/sc.names.lookup x=some .free
def Loc (sc:Scope)(x:Str):Prop:=sc.names.lookup x=some .local\/sc.names.lookup x=some .cell
def Look (env:Env)(h:Heap)(m:yC)(x:Str)(u:Value):Prop :=
 (env.kindOf x=some .local/\m x=some u)\/((env.kindOf x=some .cell\/env.kindOf x=some .free)/\∃ c,env.cells.lookup x=some c/\h.IsCell c (some u))
structure Cx.Ok (X:Cx):Prop where
 mod:Mod X.K X.mg X.base
 kind:X.env.scope.kind=.function
 glob:X.env.globals=bE
 blt:X.env.builtins=g9
 above:X.s₀.heap.objs.size<=X.env.locals
 inj:∀ x y c,X.env.cells.lookup x=some c->X.env.cells.lookup y=some c->x=y
 has:∀ x,(X.env.kindOf x=some .cell\/X.env.kindOf x=some .free)->∃ c,X.env.cells.lookup x=some c
 cab:∀ x c,X.fn x=true->X.env.cells.lookup x=some c->X.s₀.heap.objs.size<=c
 hd:X.calm=true->X.A.handled=none
 frames:X.A.frames=some X.stack
 stk:X.stack=X.outer\/(X.stack=X.env::X.outer/\X.env.frame=some X.env.locals)
 exf:∀ b∈X.ex,b≠X.env.locals/\∀ x c,X.env.cells.lookup x=some c->c≠b
 bs:∀ b o,X.base.get? b=some o->X.s₀.heap.get? b=some o/\X.H₀ b=none
 bsz:X.base.objs.size<=X.s₀.heap.objs.size
 noex:∀ b o,X.base.get? b=some o->b ∉ X.ex
 exfs:∀ b∈X.ex,b ∉ X.fs
 funs:X.s₀.heap.FunFrames X.base X.outer
 frf:∀ b∈X.fs,X.H₀ b=none
structure Inv (X:Cx)(pins:yA)(W:List (Option V))(H:Hp)(s:ai):Prop where
 ok:X.Ok
 os:s.os=X.s₀.os
 bare:gD s.gens
 base:Un X.fs X.ex X.H₀ H X.s₀.heap s.heap
 loc:∃ m,s.heap.Ns X.env.locals m/\∀(i:Nat) (x:Str) (v:V),X.N[i]?=some x->W[i]?=some (some v)->Vis X.env.scope x->∃ u,RelV v u/\Look X.env s.heap m x u
 cell:∀ x c,X.env.cells.lookup x=some c->∃ v,s.heap.IsCell c v
 free:H X.env.locals=none
 freeC:∀ x c,X.env.cells.lookup x=some c->H c=none
 pin:∀ p∈X.pn++pins,s.heap.get? p.1=some p.2/\H p.1=none/\p.1≠X.env.locals/\p.1 ∉ X.fs/\∀ v,p.2.data≠.cell v
 hok:HOk X.prog X.w H s.heap
 len:W.length=X.N.length
section
variable {X:Cx} {pins:yA} {W:List (Option V)} {H H':Hp} {s:ai} {h':Heap}
theorem Cx.Ok.nofr (ok:X.Ok)(e:X.base.get? b=some o):b ∉ X.fs:=λ hb=>by
 have:=(ok.funs.mem hb).1
 rw[e]at this;cases this
theorem Inv.bs (I:Inv X pins W H s):∀ b o,X.base.get? b=some o->s.heap.get? b=some o/\H b=none:=λ b o e =>
 ⟨I.base.keep b o (I.ok.bs b o e).1 (I.ok.bs b o e).2 (I.ok.nofr e) (I.ok.noex b o e),I.base.free b o (I.ok.bs b o e).1 (I.ok.bs b o e).2 (I.ok.noex b o e)⟩
theorem Inv.bk (I:Inv X pins W H s):∀ b o,X.base.get? b=some o->s.heap.get? b=some o:=λ b o e=>(I.bs b o e).1
theorem Inv.mod (I:Inv X pins W H s):Mod X.K X.mg X.base:=I.ok.mod
theorem Inv.kIn (I:Inv X pins W H s):X.K.In s.heap:=I.ok.mod.kin.keeps I.bk
theorem Inv.nolimit (I:Inv X pins W H s):s.heap.NoLimit:=I.ok.mod.nolimit.keeps I.bk
theorem Inv.lt (I:Inv X pins W H s):X.env.locals<s.heap.objs.size:=let⟨_,hn,_⟩:=I.loc;hn.lt
theorem Inv.sz (I:Inv X pins W H s):X.s₀.heap.objs.size<=s.heap.objs.size:=am I.ok.above (dC I.lt)
theorem Inv.nofs (I:Inv X pins W H s){a:Addr}(h:s.heap.objs.size<=a):a ∉ X.fs:=λ hb=>by
 obtain⟨_,o,ho,_⟩:=I.ok.funs.mem hb
 exact absurd (ao (aG ho) (am I.sz h)) (bF _)
theorem Inv.cne (I:Inv X pins W H s):∀ x c,X.env.cells.lookup x=some c->c≠X.env.locals:=λ x c e z=>by
 obtain⟨v,o,ho,hd⟩:=I.cell x c e
 obtain⟨m,⟨Cc,es,ep,h,y,_⟩,_⟩:=I.loc
 rw[z,h]at ho;cases ho;rw[y]at hd;cases hd
theorem Inv.funs (I:Inv X pins W H s):s.heap.FunFrames X.base X.outer:=by
 have all:∀ l ,(∀ b∈frs l,b∈X.fs)->X.s₀.heap.FunFrames X.base l->s.heap.FunFrames X.base l:=by
  intro l
  induction l with
  | nil=>intro _ _;trivial
  | cons env r ih =>
   intro hs hl
   obtain⟨hk,⟨L,o,h,hn,ho,hd⟩,y⟩:=hl
   have hL:=hs L (by unfold frs;rw[a9,h];exact az)
   obtain⟨sl,e⟩:=I.base.slot L o ho (I.ok.frf L hL) hL λ z=>I.ok.exfs L z hL
   exact⟨hk,⟨L,_,h,hn,e,hd⟩,ih (λ b hb=>hs b (by unfold frs;rw[a9,h];exact ar _ hb)) y⟩
 exact all X.outer (λ _ hb=>hb) I.ok.funs
theorem Inv.stack (I:Inv X pins W H s):s.heap.FunFrames X.base X.stack:=by
 rcases I.ok.stk with e|⟨e,h⟩
 .rw[e];exact I.funs
 .rw[e]
  obtain⟨m,hn,_⟩:=I.loc
  refine .cons (by rw[I.ok.kind];decide) h hn ?_ I.funs
  exact fB (am I.ok.bsz I.ok.above)
theorem Inv.stkSub (I:Inv X pins W H s):∀ b∈frs X.stack,b∈X.env.locals::X.fs:=λ b hb=>by
 rcases I.ok.stk with e|⟨e,h⟩
 .rw[e]at hb;exact ar _ hb
 .rw[e]at hb
  unfold frs at hb
  rw[a9,h]at hb
  exact hb
theorem Inv.stkFree (I:Inv X pins W H s):∀ b∈frs X.stack,H b=none:=λ b hb=>by
 rcases av.mp (I.stkSub b hb)with e|hb
 .rw[e];exact I.free
 .obtain⟨_,o,ho,_⟩:=I.ok.funs.mem hb
  exact I.base.free b o ho (I.ok.frf b hb) λ z=>I.ok.exfs b z hb
theorem Inv.step {ch:List Addr}(I:Inv X pins W H s)
  (h:∀ b∈ch,(b∈X.ex\/X.s₀.heap.objs.size<=b)/\b≠X.env.locals/\(∀ x c,X.env.cells.lookup x=some c->c≠b)/\∀ p∈X.pn++pins,p.1≠b)
  (keep:∀ b o,b≠X.env.locals->b ∉ X.fs->b ∉ ch->s.heap.get? b=some o->H b=none->h'.get? b=some o)
  (slot:∀ b o,b≠X.env.locals->b∈X.fs->b ∉ ch->s.heap.get? b=some o->H b=none->∃ sl,h'.get? b=some { o with slots:=sl }) (free:∀ b o,b ∉ ch->s.heap.get? b=some o->H b=none->H' b=none)
  (there:∀ b o,b ∉ ch->s.heap.get? b=some o->∃ o',h'.get? b=some o')
  (tups:∀ b J,H b=some (.tup J)->H' b=some (.tup J)) (frzs:∀ b o u,H b=some (.frz o u)->H' b=some (.frz o u)) (tbls:∀ b ps,H b=some (.tbl ps)->∃ Y,H' b=some (.tbl (ps++Y)))
  (ns:∀ m,s.heap.Ns X.env.locals m->h'.Ns X.env.locals m) (hok:HOk X.prog X.w H' h') (hg:gD g') :
  Inv X pins W H' { s with heap:=h',gens:=g',drawn:=d',toks:=t' }:=by
 have Z:∀ b o,X.s₀.heap.get? b=some o->b≠X.env.locals:=λ b o e=>aw (ao (aG e) I.ok.above)
 have G:∀ b o,X.s₀.heap.get? b=some o->b ∉ X.ex->b ∉ ch:=λ b o e hx hb=>by
  rcases(h b hb).1 with z|z
  .exact hx z
  .exact absurd (ao (aG e) z) (bF _)
 have y:∀ x c,X.env.cells.lookup x=some c->∀ v,s.heap.IsCell c v->h'.IsCell c v:=λ x c e v ⟨o,ho,hd⟩=>by
  have Cc:c ∉ ch:=λ z=>(h c z).2.2.1 x c e rfl
  by_cases hc:c∈X.fs
  .obtain⟨sl,q⟩:=slot c o (I.cne x c e) hc Cc ho (I.freeC x c e)
   exact⟨_,q,hd⟩
  .exact⟨o,keep c o (I.cne x c e) hc Cc ho (I.freeC x c e),hd⟩
 refine⟨I.ok,I.os,hg,⟨λ b o e n hb hx=>?_,λ b o e n hb hx=>?_,λ b o e n hx=>?_,λ b o e hx=>?_,λ b J e=>tups b J (I.base.tups b J e),λ b o J e=>frzs b o J (I.base.frzs b o J e),λ b ps e=>?_⟩,?_,λ x c e=>?_,?_,λ x c e=>?_,λ p hp=>?_,hok,I.len⟩
 .exact keep b o (Z b o e) hb (G b o e hx) (I.base.keep b o e n hb hx) (I.base.free b o e n hx)
 .obtain⟨sl,e1⟩:=I.base.slot b o e n hb hx
  obtain⟨a0,e2⟩:=slot b _ (Z b o e) hb (G b o e hx) e1 (I.base.free b o e n hx)
  exact⟨a0,e2⟩
 .obtain⟨o',e1⟩:=I.base.there b o e hx
  exact free b o' (G b o e hx) e1 (I.base.free b o e n hx)
 .obtain⟨o',e1⟩:=I.base.there b o e hx
  exact there b o' (G b o e hx) e1
 .obtain⟨m1,e1⟩:=I.base.tbls b ps e
  obtain⟨m2,e2⟩:=tbls b _ e1
  exact⟨m1++m2,by rw[e2,jH]⟩
 .obtain⟨m,hn,hl⟩:=I.loc
  refine⟨m,ns m hn,λ i x v e1 e2 e3=>?_⟩
  obtain⟨u,r,l⟩:=hl i x v e1 e2 e3
  refine⟨u,r,?_⟩
  rcases l with l|⟨k,c,e,z⟩
  .exact .inl l
  .exact .inr ⟨k,c,e,y x c e _ z⟩
 .obtain⟨v,z⟩:=I.cell x c e
  exact⟨v,y x c e v z⟩
 .obtain⟨m,⟨o,_,_,ho,_⟩,_⟩:=I.loc
  exact free _ o (λ z=>(h _ z).2.1 rfl) ho I.free
 .obtain⟨v,o,ho,hd⟩:=I.cell x c e
  exact free c o (λ z=>(h c z).2.2.1 x c e rfl) ho (I.freeC x c e)
 .obtain⟨e,n,ne,nf,d⟩:=I.pin p hp
  have Cc:p.1 ∉ ch:=λ z=>(h p.1 z).2.2.2 p hp rfl
  exact⟨keep p.1 p.2 ne nf Cc e n,free p.1 p.2 Cc e n,ne,nf,d⟩
theorem Inv.un (I:Inv X pins W H s)(u:Un X.fs [] H H' s.heap h')(hok:HOk X.prog X.w H' h'):Inv X pins W H' { s with heap:=h',toks:=t' }:=by
 obtain⟨m,⟨o,es,ep,ho,r⟩,_⟩:=id I.loc
 obtain⟨sl,hL⟩:=u.any ho I.free (by simp)
 exact I.step (ch:=[]) (λ _ z=>nomatch z) (λ b o _ hb _ e n=>u.keep b o e n hb (by simp)) (λ b o _ hb _ e n=>u.slot b o e n hb (by simp)) (λ b o _ e n=>u.free b o e n (by simp)) (λ b o _ e=>u.there b o e (by simp)) u.tups u.frzs u.tbls (λ m' J=>by
  obtain⟨Y,Cc,y,h,G⟩:=J
  rw[ho]at h;cases h
  exact⟨_,Cc,y,hL,G⟩) hok I.bare
theorem Inv.call (I:Inv X pins W H s)(u:Un (frs X.stack) ch H H' s.heap h')(hok:HOk X.prog X.w H' h')(hg:gD g')
  (y:∀ b∈ch,(b∈X.ex\/X.s₀.heap.objs.size<=b)/\b≠X.env.locals/\(∀ x c,X.env.cells.lookup x=some c->c≠b)/\∀ p∈X.pn++pins,p.1≠b) :
  Inv X pins W H' { s with heap:=h',gens:=g',drawn:=d',toks:=t' }:=by
 obtain⟨m,⟨o,es,ep,ho,r⟩,_⟩:=id I.loc
 obtain⟨sl,hL⟩:=u.any ho I.free λ z=>(y _ z).2.1 rfl
 exact I.step y (λ b o hL hb hc e n=>u.keep b o e n (λ z=>(av.mp (I.stkSub b z)).elim hL hb) hc) (λ b o _ _ hc e n=>u.any e n hc) (λ b o hc e n=>u.free b o e n hc) (λ b o hc e=>u.there b o e hc) u.tups u.frzs u.tbls (λ m' Y=>by
  obtain⟨Z,Cc,G,h,J⟩:=Y
  rw[ho]at h;cases h
  exact⟨_,Cc,G,hL,J⟩) hok hg
theorem Inv.turned (I:Inv X pins W H s)(k:∀ b o,b≠it->s.heap.get? b=some o->h'.get? b=some o)(hn:H it=none)(hL:it≠X.env.locals)
  (G:it∈X.ex\/X.s₀.heap.objs.size<=it) (Cc:∀ x c,X.env.cells.lookup x=some c->c≠it) (y:∀ p∈X.pn++pins,p.1≠it):Inv X pins W H { s with heap:=h',toks:=t' }:=by
 have h:∀ b u,H b=some u->b≠it:=λ b u e z=>by rw[z,hn]at e;cases e
 refine I.step (ch:=[it]) (λ b hb=>?_) (λ b o _ _ hc e _=>k b o (λ z=>hc (by simp[z])) e) (λ b o _ _ hc e _=>⟨o.slots,k b o (λ z=>hc (by simp[z])) e⟩) (λ _ _ _ _ n=>n)
  (λ b o hc e=>⟨o,k b o (λ z=>hc (by simp[z])) e⟩) (λ _ _ e=>e) (λ _ _ _ e=>e) (λ b ps e=>⟨#[],by rw[e];simp⟩) (λ m J=>?_) (λ b u e=>?_) I.bare
 .have e:=by simpa using hb
  subst e
  exact⟨G,hL,Cc,y⟩
 .obtain⟨o,es,ep,ho,r⟩:=J
  exact⟨o,es,ep,k _ o (bH hL) ho,r⟩
 .refine(I.hok b u e).stay (λ c v hc q=>k c v ?_ q) (λ _ q=>q) λ _ _ q=>q
  rcases hc with z|z
  .rw[z];exact h b u e
  .exact h c _ z
theorem Inv.tok (I:Inv X pins W H s) t :Inv X pins W H { s with toks:=t }:=I.un Un.refl I.hok
theorem Inv.kept (I:Inv X pins W H s)(k:∀ b u,s.heap.get? b=some u->h'.get? b=some u):Inv X pins W H { s with heap:=h',toks:=t' }:=I.un (Un.kept k) (I.hok.kept k)
theorem Inv.laid {a:Addr}(I:Inv X pins W H s)(k:∀ b u,s.heap.get? b=some u->h'.get? b=some u)(hp:s.heap.objs.size<=a)(new:ab9 X.prog X.w (upd H a o) h' a o) :
  Inv X pins W (upd H a o) { s with heap:=h',toks:=t' }:=I.un (Un.laid k hp (I.hok.fresh hp)) (I.hok.laid k hp new)
theorem Inv.write (I:Inv X pins W H s)(mu:Mut (H x))(he:e=x\/H e=some (.own x))(k:∀ b u,b≠e->s.heap.get? b=some u->h'.get? b=some u)(h:∃ u,h'.get? e=some u)
  (new:ab9 X.prog X.w (upd H x o) h' x o):Inv X pins W (upd H x o) { s with heap:=h',toks:=t' }:=I.un (Un.write mu he k h) (I.hok.write mu he k h new)
theorem Inv.pins_of (I:Inv X pins W H s)(h:∀ p∈y,s.heap.get? p.1=some p.2/\H p.1=none/\p.1≠X.env.locals/\p.1 ∉ X.fs/\∀ v,p.2.data≠.cell v):Inv X y W H s :=
 ⟨I.ok,I.os,I.bare,I.base,I.loc,I.cell,I.free,I.freeC,λ p hp=>(a8.mp hp).elim (λ z=>I.pin p (iL _ z)) (h p),I.hok,I.len⟩
theorem aN9 {N:yH}(hN:N.Nodup){ j:Nat}(a:N[i]?=some x)(b:N[j]?=some x):i=j:=by
 obtain⟨y,e1⟩:=ac.mp a
 obtain⟨h,e2⟩:=ac.mp b
 exact(List.getElem_inj hN).mp (e1.trans e2.symm)
theorem ax2 (I:Inv X pins W H s)(hN:X.N.Nodup)(Z:X.N[i]?=some x)(hx:Loc X.env.scope x)(r:RelV v u)
  (h:∀ s',Inv X pins (W.set i (some v)) H s'->(∃ a,ci a s.heap s'.heap/\(a=X.env.locals\/X.env.cells.lookup x=some a))->Q () s') (hf:X.fn x=true\/X.env.scope.names.lookup x=some .local:=by first|exact .inl rfl|exact .inr rfl|assumption):wpAny M A (gW X.env x u) Q E s:=by
 obtain⟨m,hn,hl⟩:=id I.loc
 have a1:(X.env.scope.kind==.class||(X.env.scope.kind==.module&&X.env.locals != X.env.globals))=false:=by rw[I.ok.kind];rfl
 have Y:i < W.length:=by rw[I.len];exact(ac.mp Z).1
 have cne:=I.cne
 have Cc:∀ {a} {h'},(∃ o,s.heap.get? a=some o/\H a=none)->ci a s.heap h'->HOk X.prog X.w H h':=λ {a h'} ha hs b ob e=>by
  obtain⟨_,_,G⟩:=ha
  refine(I.hok b ob e).stay (λ c w' hc q=>(hs.2 c ?_).trans q) (λ _ q=>q) λ _ _ q=>q
  rintro rfl
  rcases hc with rfl|hc
  .rw[G]at e;cases e
  .rw[G]at hc;cases hc
 rcases hx with hk|hk
 .refine iA hk hn (λ h' a4 hs=>?_) a1
  obtain⟨oL,_,_,a5,_⟩:=id hn
  refine h _ ⟨I.ok,I.os,I.bare,⟨λ b o e n hb hx=>?_,λ b o e n hb hx=>?_,I.base.free,λ b o e hx=>?_,I.base.tups,I.base.frzs,I.base.tbls⟩,⟨_,a4,λ j y v' e1 e2 e3=>?_⟩,λ y c e=>?_,I.free,I.freeC,λ p hp=>?_,Cc ⟨oL,a5,I.free⟩ hs,by simpa using I.len⟩ ⟨_,hs,.inl rfl⟩
  .exact(hs.2 b (aw (ao (aG e) I.ok.above))).trans (I.base.keep b o e n hb hx)
  .obtain⟨sl,e1⟩:=I.base.slot b o e n hb hx
   exact⟨sl,(hs.2 b (aw (ao (aG e) I.ok.above))).trans e1⟩
  .obtain⟨o',e1⟩:=I.base.there b o e hx
   exact⟨o',(hs.2 b (aw (ao (aG e) I.ok.above))).trans e1⟩
  .by_cases hj:j=i
   .subst hj
    rw[Z]at e1;cases e1
    rw[aJ Y]at e2
    cases e2
    exact⟨u,r,.inl ⟨hk,by simp⟩⟩
   .rw[aB (bH hj)]at e2
    obtain⟨u',r',q⟩:=hl j y v' e1 e2 e3
    refine⟨u',r',?_⟩
    rcases q with⟨k,e⟩|⟨k,c,e,z⟩
    .refine .inl ⟨k,?_⟩
     have:y≠x:=λ e=>hj (aN9 hN e1 (e▸Z))
     simp[this,e]
    .exact .inr ⟨k,c,e,z.sameBut hs (cne y c e)⟩
  .obtain⟨w',z⟩:=I.cell y c e
   exact⟨w',z.sameBut hs (cne y c e)⟩
  .obtain⟨e,n,ne,nf,d⟩:=I.pin p hp
   exact⟨(hs.2 p.1 ne).trans e,n,ne,nf,d⟩
 .have J:X.fn x=true:=by
   rcases hf with z|z
   .exact z
   .rw[z]at hk;cases hk
  obtain⟨c,hc⟩:=I.ok.has x (.inl hk)
  obtain⟨w',z⟩:=I.cell x c hc
  refine iM I.ok.kind hk hc z (λ h' a3 hs=>?_)
  obtain⟨oc,a2,a0⟩:=id z
  refine h { s with heap:=h' } ⟨I.ok,I.os,I.bare,⟨λ b o e n hb hx=>?_,λ b o e n hb hx=>?_,I.base.free,λ b o e hx=>?_,I.base.tups,I.base.frzs,I.base.tbls⟩,⟨m,hn.sameBut hs (bH (cne x c hc)),λ j y v' e1 e2 e3=>?_⟩,λ y c' e=>?_,I.free,I.freeC,λ p hp=>?_,Cc ⟨oc,a2,I.freeC x c hc⟩ hs,by simpa using I.len⟩ ⟨c,hs,.inr hc⟩
  .exact(hs.2 b (aw (ao (aG e) (I.ok.cab x c J hc)))).trans (I.base.keep b o e n hb hx)
  .obtain⟨sl,e1⟩:=I.base.slot b o e n hb hx
   exact⟨sl,(hs.2 b (aw (ao (aG e) (I.ok.cab x c J hc)))).trans e1⟩
  .obtain⟨o',e1⟩:=I.base.there b o e hx
   exact⟨o',(hs.2 b (aw (ao (aG e) (I.ok.cab x c J hc)))).trans e1⟩
  .by_cases hj:j=i
   .subst hj
    rw[Z]at e1;cases e1
    rw[aJ Y]at e2
    cases e2
    exact⟨u,r,.inr ⟨.inl hk,c,hc,a3⟩⟩
   .rw[aB (bH hj)]at e2
    obtain⟨u',r',q⟩:=hl j y v' e1 e2 e3
    refine⟨u',r',?_⟩
    rcases q with q|⟨k,c',e,z'⟩
    .exact .inl q
    .refine .inr ⟨k,c',e,z'.sameBut hs ?_⟩
     rintro rfl
     exact hj (aN9 hN e1 (I.ok.inj _ _ _ e hc▸Z))
  .by_cases hcc:c'=c
   .subst hcc;exact⟨_,a3⟩
   .obtain⟨w2,z2⟩:=I.cell y c' e
    exact⟨w2,z2.sameBut hs hcc⟩
  .obtain⟨e,n,ne,nf,d⟩:=I.pin p hp
   refine⟨(hs.2 p.1 ?_).trans e,n,ne,nf,d⟩
   intro q
   rw[q,a2]at e
   have q':=aA e
   exact d w' (by rw[<-q'];exact a0)
theorem av5 (I:Inv X pins W H s)(hN:X.N.Nodup)(y:X.N[i]?=some x)(hx:Loc X.env.scope x)(r:RelV v u)
  (h:∀ s',Inv X pins (W.set i (some v)) H s'->Q () s') (z:X.fn x=true\/X.env.scope.names.lookup x=some .local:=by first|exact .inl rfl|exact .inr rfl|assumption):wpAny M A (gW X.env x u) Q E s :=
 ax2 I hN y hx r (λ s' Cc _=>h s' Cc) z
theorem Inv.call' (I:Inv X pins W H s)(ho:s'.os=s.os)(u:Un (frs X.stack) ch H H' s.heap s'.heap)(hok:HOk X.prog X.w H' s'.heap)(hg:gD s'.gens)
  (h:∀ b∈ch,(b∈X.ex\/X.s₀.heap.objs.size<=b)/\b≠X.env.locals/\(∀ x c,X.env.cells.lookup x=some c->c≠b)/\∀ p∈X.pn++pins,p.1≠b):Inv X pins W H' s':=by
 obtain⟨h',g',d',t',y⟩:=s'
 have e:=ho
 subst e
 exact I.call u hok hg h
end
abbrev XK:=Value->Option Addr->Hp->Prop
noncomputable abbrev St:=List (Option V)
abbrev VK:=V->Hp->Prop
abbrev TE:=St->Hp->VK->Prop
abbrev TT:=St->Hp->(Bool->Hp->Prop)->Prop
abbrev TA:=St->Hp->(List V->Hp->Prop)->Prop
structure Ends where
 nx:St->Hp->Prop
 rt:VK
 bk:St->Hp->Prop:=λ _ _=>False
 ct:St->Hp->Prop:=λ _ _=>False
abbrev TS:=Ends->St->Hp->Prop
def EP (X:Cx)(pins:yA)(W:St)(Q:VK)(u:Value)(s':ai):Prop:=∃ v H',Inv X pins W H' s'/\RelV v u/\Q v H'
def TP (X:Cx)(pins:yA)(W:St)(Q:Bool->Hp->Prop)(b:Bool)(s':ai):Prop:=∃ H',Inv X pins W H' s'/\Q b H'
def AP (X:Cx)(pins:yA)(W:St)(Q:List V->Hp->Prop)(us:yG)(s':ai):Prop:=∃ vs H',Inv X pins W H' s'/\Vals vs us/\Q vs H'
def SP (X:Cx)(pins:yA)(D:Ends)(f:Flow)(s':ai):Prop :=
 match f with
 | .next=>∃ W' H',Inv X pins W' H' s'/\D.nx W' H'
 | .brk=>∃ W' H',Inv X pins W' H' s'/\D.bk W' H'
 | .cont=>∃ W' H',Inv X pins W' H' s'/\D.ct W' H'
 | .ret u=>∃ v W' H',Inv X pins W' H' s'/\RelV v u/\D.rt v H'
def PE (X:Cx)(e:Expr)(t:TE):Prop :=
 ∀ pins s (W:St) H Q ,Inv X pins W H s->t W H Q->wpAny (model X.prog X.w) X.A (eval e X.env) (EP X pins W Q) X.xe s
def PT (X:Cx)(e:Expr)(t:TT):Prop :=
 ∀ pins s (W:St) H Q ,Inv X pins W H s->t W H Q->wpAny (model X.prog X.w) X.A (eG e X.env (eval e X.env)) (TP X pins W Q) X.xe s
def PW (X:Cx)(e:Expr)(t:TT):Prop :=
 ∀ whole pins s (W:St) H Q ,Inv X pins W H s->t W H Q->wpAny (model X.prog X.w) X.A (eG e X.env whole) (TP X pins W Q) X.xe s
theorem PW.pt (h:PW X e t):PT X e t:=h _
def PA (X:Cx)(es:yK)(t:TA):Prop :=
 ∀ pos pins s (W:St) H Q ,Inv X pins W H s->t W H Q->wpAny (model X.prog X.w) X.A (spliced (dR pos (bf es X.env))) (AP X pins W Q) X.xe s
def PS (X:Cx)(st:Stmt)(t:TS):Prop :=
 ∀ pins s (W:St) H D ,Inv X pins W H s->t D W H->wpAny (model X.prog X.w) X.A (exec st X.env) (SP X pins D) X.xe s
def PSs (X:Cx)(st:yL)(t:TS):Prop :=
 ∀ pins s (W:St) H D ,Inv X pins W H s->t D W H->wpAny (model X.prog X.w) X.A (execs st X.env) (SP X pins D) X.xe s
theorem thn {M}{A}{E}{s}(h:wpAny M A t Q E s)(z:∀ a s,Q a s->y a s):wpAny M A t y E s:=bU h z λ _ _ x=>x
section
variable {X:Cx}
theorem bin (ha:PE X a G)(hb:PE X b tb){W:St}{R:V->V->Hp->Prop}(I:Inv X z W H s)(h:G W H λ x Cc=>tb W Cc λ y H2=>R x y H2)
  {f:Value->Value->Sem α}
  (hf:∀ v u s2 x y H2,Inv X z W H2 s2->RelV x v->RelV y u->R x y H2->wpAny (model X.prog X.w) X.A (f v u) Q X.xe s2) :
  wpAny (model X.prog X.w) X.A (eval a X.env) (λ v s₁=>wpAny (model X.prog X.w) X.A (eval b X.env) (λ u s₂=>wpAny (model X.prog X.w) X.A (f v u) Q X.xe s₂) X.xe s₁) X.xe s:=by
 refine thn (ha z s W H _ I h) λ v s1 ⟨x,Cc,Y,r1,Z⟩=>?_
 refine thn (hb z s1 W Cc _ Y Z) λ u s2 ⟨y,H2,I2,J,q2⟩=>?_
 exact hf v u s2 x y H2 I2 r1 J q2
def bt4 (i:Nat):TE:=λ W H Q=>∃ v,W[i]?=some (some v)/\Q v H
def tC (v:V):TE:=λ _ H Q=>Q v H
theorem aT8 {pos}(hN:X.N[i]?=some x)(hv:Vis X.env.scope x)(hd:(x==("__debug__":Str))=false:=by decide)(z:(x==("__classdict__":Str))=false:=by decide):PE X (.Name x pos) (bt4 i):=by
 intro y s W H Q I h
 obtain⟨v,e,h⟩:=h
 obtain⟨m,hn,hl⟩:=I.loc
 obtain⟨u,r,l⟩:=hl i x v hN e hv
 have fin:EP X y W Q u s:=⟨v,H,I,r,h⟩
 rcases l with⟨hk,Cc⟩|⟨hk,c,hc,hcell⟩
 .exact jI (iO I.ok.kind hk hn Cc fin) hd
 .rcases hk with hk|hk
  .exact jI (wpAny_loadName_cell I.ok.kind hk hc hcell fin) hd
  .exact jI (wpAny_loadName_free I.ok.kind hk hc hcell fin z) hd
theorem bR3 :PE X (.Constant (.int i) j pos) (tC (.int i)):=λ _ _ _ H _ I h=>jJ ⟨.int i,H,I.tok _,⟨_,rfl⟩,h⟩
theorem ce9 :PE X (.Constant (.bool b) j pos) (tC (.bl b)):=λ _ _ _ H _ I h=>Constant_bool ⟨.bl b,H,I,rfl,h⟩
theorem cc1 :PE X (.Constant .none j pos) (tC .non):=λ _ _ _ H _ I h=>jy ⟨.non,H,I,rfl,h⟩
theorem bW6 :PE X (.Constant (.str x) j pos) (tC (.str x)):=λ _ _ _ H _ I h=>Calls.Constant_str ⟨.str x,H,I.tok _,⟨_,rfl⟩,h⟩
def Gl (X:Cx)(x:Str):Prop:=X.env.kindOf x=some .globalImplicit
theorem at7 {W:St}(I:Inv X y W H s)(hg:Gl X x)(z:X.mg x=some u)(h:Q u s)
  (hd:(x==("__debug__":Str))=false:=by decide):wpAny (model X.prog X.w) X.A (eval (.Name x pos) X.env) Q E s :=
 gd I.ok.kind hg (Calls.loadGlobal_global (by rw[I.ok.glob];exact I.mod.glob.keeps I.bk) z h) hd
theorem am7 {E}{W:St}{pos}(I:Inv X y W H s)(hg:Gl X x)(G:X.mg x=none)(hv:bC x=some u)(h:Q u s)
  (hn:x ≠ "__name__":=by decide) (hd:(x==("__debug__":Str))=false:=by decide):wpAny (model X.prog X.w) X.A (eval (.Name x pos) X.env) Q E s:=by
 obtain⟨J,Cc,z⟩:=I.mod.blt
 exact gd I.ok.kind hg (Calls.loadGlobal_builtin (by rw[I.ok.glob];exact I.mod.glob.keeps I.bk) G (by rw[I.ok.blt];exact Cc.keeps I.bk) ((z x hn).trans hv) h) hd
theorem bF3 (hg:Gl X x)(y:X.mg x=some u)(r:RelV v u)(hd:(x==("__debug__":Str))=false:=by decide):PE X (.Name x pos) (tC v) :=
 λ _ _ _ H _ I h=>at7 I hg y ⟨v,H,I,r,h⟩ hd
theorem bI6 {pos}(hg:Gl X x)(y:X.mg x=none)(hv:bC x=some u)(r:RelV v u)(hn:x ≠ "__name__":=by decide)(hd:(x==("__debug__":Str))=false:=by decide):PE X (.Name x pos) (tC v) :=
 λ _ _ _ H _ I h=>am7 I hg y hv ⟨v,H,I,r,h⟩ hn hd
variable {a b:Expr} {ta tb:TE} {pos:Pos}
def PC (X:Cx)(op:CmpOp)(a b:Expr)(t:TE):Prop :=
 ∀ pins s (W:St) H Q ,Inv X pins W H s->t W H Q ->
  wpAny (model X.prog X.w) X.A (eval a X.env) (λ v s₁=>wpAny (model X.prog X.w) X.A (eval b X.env) (λ u s₂=>wpAny (model X.prog X.w) X.A (cU op v u) (EP X pins W Q) X.xe s₂) X.xe s₁) X.xe s
theorem aJ0 b (h:op≠.In)(y:op≠.NotIn):dh op b=false:=by
 have e1:(op==CmpOp.In)=false:=by cases op<;>first|rfl|exact absurd rfl h
 have e2:(op==CmpOp.NotIn)=false:=by cases op<;>first|rfl|exact absurd rfl y
 cases b<;>simp[dh,e1,e2]
def cn3 (ta:TE):TE:=λ W H Q=>ta W H λ x H1=>Q (.bl (decide (x=.non))) H1
def bS1 (ta:TE):TE:=λ W H Q=>ta W H λ x H1=>Q (.bl (!decide (x=.non))) H1
theorem RelV.none_iff (r:RelV x v):(v==Value.none)=decide (x=.non):=by
 cases x with
 | non=>cases r;rfl
 | bl _=>cases r;rfl
 | int _=>obtain⟨t,rfl⟩:=r;rfl
 | str _=>obtain⟨t,rfl⟩:=r;rfl
 | byt _=>obtain⟨t,rfl⟩:=r;rfl
 | flt _=>obtain⟨t,rfl⟩:=r;rfl
 | ref _=>cases r;rfl
 | ty _=>cases r;rfl
theorem bu1 (ha:PE X a ta):PC X .Is a (.Constant .none j pos') (cn3 ta):=by
 intro y s W H Q I h
 refine thn (ha y s W H _ I h) λ v s1 ⟨x,G,z,r1,Cc⟩=>?_
 exact jy (is_none_gen ⟨.bl _,G,z,by rw[r1.none_iff];rfl,Cc⟩)
theorem bc8 (ha:PE X a ta):PC X .IsNot a (.Constant .none j pos') (bS1 ta):=by
 intro y s W H Q I h
 refine thn (ha y s W H _ I h) λ v s1 ⟨x,G,z,r1,Cc⟩=>?_
 exact jy (isnot_none_gen ⟨.bl _,G,z,by rw[r1.none_iff];rfl,Cc⟩)
def tB (t:TE):TT:=λ W H Q=>t W H λ x H1=>∃ c,x=.bl c/\Q c H1
theorem bv7 (h:PC X op a b t)(z:dh op b=false:=by first|exact aJ0 _ (by decide) (by decide)|rfl):PE X (.Compare a [op] [b] pos) t:=λ y s W H Q I hw=>wpAny_Compare1 (h y s W H Q I hw) z
theorem bu6 (h:PC X op a b t)(z:dh op b=false:=by first|exact aJ0 _ (by decide) (by decide)|rfl):PT X (.Compare a [op] [b] pos) (tB t):=by
 intro y s W H Q I hw
 refine iB (thn (h y s W H _ I hw) λ v s1 z=>thn z λ u s2 Cc=>thn Cc λ c s3 ⟨x,Y,G,r1,J⟩=>?_) z
 obtain⟨d,rfl,q⟩:=J
 cases r1
 exact bP ⟨Y,G,q⟩
theorem bQ8 (h:PE X e t)(he:∀ y,eG e X.env y=(do let v <- y;standAt e.pos;gE [v] (truthy v)):=by intro _;rfl):PT X e (tB t):=by
 intro z s W H Q I hw
 refine isTrue_plain (thn (h z s W H _ I hw) λ v s1 ⟨x,J,Cc,r1,G⟩=>?_) (he _)
 obtain⟨d,rfl,q⟩:=G
 cases r1
 exact bP ⟨J,Cc,q⟩
variable {tA tB':TT} {rest:yK}
def cn1 (t u:TT):TT:=λ W H Q=>t W H λ c H1=>if c=true then u W H1 Q else Q false H1
def tOr (t u:TT):TT:=λ W H Q=>t W H λ c H1=>if c=true then Q true H1 else u W H1 Q
def cm6 (t:TT):TT:=λ W H Q=>t W H λ c H1=>Q (!c) H1
theorem bL3 (ha:PT X a tA):PW X (.BoolOp .And [a] pos) tA:=by
 intro z y s W H Q I h
 refine isTrue_and (thn (ha y s W H Q I h) λ c s1 e=>?_)
 cases c with
 | true=>exact isTrue_and_nil e
 | false=>exact e
theorem bR4 (ha:PT X a tA):PW X (.BoolOp .Or [a] pos) tA:=by
 intro z y s W H Q I h
 refine isTrue_or (thn (ha y s W H Q I h) λ c s1 e=>?_)
 cases c with
 | false=>exact isTrue_or_nil e
 | true=>exact e
theorem bs9 (ha:PT X a tA)(hb:PW X (.BoolOp .And (b::rest) pos) tB'):PW X (.BoolOp .And (a::b::rest) pos) (cn1 tA tB'):=by
 intro J y s W H Q I h
 refine isTrue_and (thn (ha y s W H _ I h) λ c s1 ⟨G,z,Cc⟩=>?_)
 cases c with
 | true=>exact hb J y s1 W G Q z Cc
 | false=>exact⟨G,z,Cc⟩
theorem bN9 (ha:PT X a tA)(hb:PW X (.BoolOp .Or (b::rest) pos) tB'):PW X (.BoolOp .Or (a::b::rest) pos) (tOr tA tB'):=by
 intro J y s W H Q I h
 refine isTrue_or (thn (ha y s W H _ I h) λ c s1 ⟨G,z,Cc⟩=>?_)
 cases c with
 | true=>exact⟨G,z,Cc⟩
 | false=>exact hb J y s1 W G Q z Cc
theorem bU7 (ha:PT X a tA):PT X (.UnaryOp .Not a pos) (cm6 tA):=by
 intro y s W H Q I h
 exact isTrue_not (ha y s W H (λ c z=>Q (!c) z) I h)
def bS5 (ta tb:TE):TE:=λ W H Q=>ta W H λ x H1=>∃ c,x=.bl c/\if c=true then tb W H1 Q else Q (.bl false) H1
def cm1 (ta tb:TE):TE:=λ W H Q=>ta W H λ x H1=>∃ c,x=.bl c/\if c=true then Q (.bl true) H1 else tb W H1 Q
def bM9 (ta:TE):TE:=λ W H Q=>ta W H λ x H1=>∃ c,x=.bl c/\Q (.bl (!c)) H1
theorem bt2 (h:PE X a t):PE X (.BoolOp op [a] pos) t:=λ y s W H Q I hw=>BoolOp_one (h y s W H Q I hw)
theorem bv8 (ha:PE X a ta)(hb:PE X (.BoolOp .And (b::rest) pos) tb):PE X (.BoolOp .And (a::b::rest) pos) (bS5 ta tb):=by
 intro y s W H Q I h
 refine BoolOp_and (thn (ha y s W H _ I h) λ v s1 ⟨x,G,Cc,r1,z⟩=>?_)
 obtain⟨c,rfl,z⟩:=z
 cases r1
 refine bP ?_
 cases c with
 | true=>exact hb y s1 W G Q Cc z
 | false=>exact⟨.bl false,G,Cc,rfl,z⟩
theorem bZ7 (ha:PE X a ta)(hb:PE X (.BoolOp .Or (b::rest) pos) tb):PE X (.BoolOp .Or (a::b::rest) pos) (cm1 ta tb):=by
 intro y s W H Q I h
 refine BoolOp_or (thn (ha y s W H _ I h) λ v s1 ⟨x,G,Cc,r1,z⟩=>?_)
 obtain⟨c,rfl,z⟩:=z
 cases r1
 refine bP ?_
 cases c with
 | false=>exact hb y s1 W G Q Cc z
 | true=>exact⟨.bl true,G,Cc,rfl,z⟩
theorem cb8 (ha:PE X a ta):PE X (.UnaryOp .Not a pos) (bM9 ta):=by
 intro y s W H Q I h
 refine UnaryOp_ (thn (ha y s W H _ I h) λ v s1 ⟨x,G,Cc,r1,z⟩=>?_)
 obtain⟨c,rfl,z⟩:=z
 cases r1
 exact not_of (bP ⟨.bl (!c),G,Cc,rfl,z⟩)
def tIf (t:TT)(ta tb:TE):TE:=λ W H Q=>t W H λ c H1=>if c=true then ta W H1 Q else tb W H1 Q
theorem bo2 (hc:PT X c tA)(ha:PE X a ta)(hb:PE X b tb):PE X (.IfExp c a b pos) (tIf tA ta tb):=by
 intro y s W H Q I h
 refine wpAny_IfExp (thn (hc y s W H _ I h) λ d s1 ⟨G,z,Cc⟩=>?_)
 cases d with
 | true=>exact ha y s1 W G Q z Cc
 | false=>exact hb y s1 W G Q z Cc
end
def SqL (K:ah)(H:Hp)(a:Addr)(xs:List V):Prop :=
 Rd H a (.lst xs) \/
  ∃(o:Obj) (its:yJ) (n:Nat),K.lookup a=some o/\o.cls=.type "list"/\o.dict=none/\o.data=.seq its n/\its.size<=aO/\Vals xs its.toList
def SqT (K:ah)(H:Hp)(a:Addr)(xs:List V):Prop :=
 Rd H a (.tup xs) \/
  ∃(o:Obj) (its:yJ) (n:Nat),K.lookup a=some o/\o.cls=.type "tuple"/\o.data=.seq its n/\its.size<=aO/\Vals xs its.toList
noncomputable def cq7:Value->Option V
 | .none=>some .non
 | .bool b=>some (.bl b)
 | .int i _=>some (.int i)
 | .str x _=>some (.str x)
 | .bytes b _=>some (.byt b)
 | .float b _=>some (.flt b)
 | .ref a=>some (.ref a)
 | .type n=>some (.ty n)
 | _=>none
theorem RelV.abs (r:RelV x u):cq7 u=some x:=by
 cases x with
 | non=>cases r;rfl
 | bl _=>cases r;rfl
 | int _=>obtain⟨t,rfl⟩:=r;rfl
 | str _=>obtain⟨t,rfl⟩:=r;rfl
 | byt _=>obtain⟨t,rfl⟩:=r;rfl
 | flt _=>obtain⟨t,rfl⟩:=r;rfl
 | ref _=>cases r;rfl
 | ty _=>cases r;rfl
theorem RelV.inj (r:RelV x u)(q:RelV y u):x=y:=aA (r.abs.symm.trans q.abs)
theorem Vals.inj:∀ {h ys} {us:yG},Vals h us->Vals ys us->h=ys
 | _,_,_,.nil,.nil=>rfl
 | _,_,_,.cons r t,.cons r' t'=>by rw[r.inj r',Vals.inj t t']
section
variable {X:Cx} {pins:yA} {W:St} {H:Hp} {s:ai} {a:Addr} {xs ys:List V}
theorem SqL.of {K}(h:H a=some (.lst xs)):SqL K H a xs:=.inl (.inl h)
theorem SqT.of {K}(h:H a=some (.tup xs)):SqT K H a xs:=.inl (.inl h)
theorem Inv.list (I:Inv X pins W H s)(h:SqL X.K H a xs):∃ its,Vals xs its/\PlainL s.heap a its.toArray/\xs.length<=aO:=by
 rcases h with h|⟨o,its,n,hk,hc,hd,hs,hz,r⟩
 .obtain⟨z,its,n,r,e⟩:=h.ok I.hok
  exact⟨its,r,⟨_,n,e,rfl,rfl,rfl⟩,z⟩
 .refine⟨its.toList,r,⟨o,n,I.kIn a o hk,hc,hd,by simpa using hs⟩,?_⟩
  have e:=r.length
  simp only[dq]at e
  lia
theorem Inv.tuple (I:Inv X pins W H s)(h:SqT X.K H a xs):∃ its,Vals xs its/\IsTup s.heap a its.toArray/\xs.length<=aO:=by
 rcases h with h|⟨o,its,n,hk,hc,hs,hz,r⟩
 .obtain⟨z,its,r,p⟩:=h.ok I.hok
  exact⟨its,r,p,z⟩
 .refine⟨its.toList,r,⟨o,I.kIn a o hk,hc,n,by simpa using hs⟩,?_⟩
  have e:=r.length
  simp only[dq]at e
  omega
theorem Inv.list_inj (I:Inv X pins W H s)(h:SqL X.K H a xs)(h':SqL X.K H a ys):xs=ys:=by
 obtain⟨its,r,⟨o,n,e,_,_,d⟩,_⟩:=I.list h
 obtain⟨its',y,⟨Cc,z,e',_,_,d'⟩,_⟩:=I.list h'
 rw[e]at e';cases e'
 rw[d]at d'
 injection d' with d1 _
 have:=by simpa using congrArg jV d1
 subst this
 exact r.inj y
theorem Inv.tuple_inj (I:Inv X pins W H s)(h:SqT X.K H a xs)(h':SqT X.K H a ys):xs=ys:=by
 obtain⟨its,r,⟨o,e,_,n,d⟩,_⟩:=I.tuple h
 obtain⟨its',y,⟨Cc,e',_,z,d'⟩,_⟩:=I.tuple h'
 rw[e]at e';cases e'
 rw[d]at d'
 injection d' with d1 _
 have:=by simpa using congrArg jV d1
 subst this
 exact r.inj y
end
noncomputable abbrev Cx.wish (X:Cx)(E:Value->ai->Prop):Cx:={ X with xe:=E }
noncomputable abbrev Cx.nox (X:Cx):Cx:=X.wish λ _ _=>False
theorem Cx.Ok.wish {X:Cx}(ok:X.Ok)(E:Value->ai->Prop):(X.wish E).Ok :=
 ⟨ok.mod,ok.kind,ok.glob,ok.blt,ok.above,ok.inj,ok.has,ok.cab,ok.hd,ok.frames,ok.stk,ok.exf,ok.bs,ok.bsz,ok.noex,ok.exfs,ok.funs,ok.frf⟩
theorem Cx.Ok.unwish {X:Cx}(ok:(X.wish E).Ok):X.Ok :=
 ⟨ok.mod,ok.kind,ok.glob,ok.blt,ok.above,ok.inj,ok.has,ok.cab,ok.hd,ok.frames,ok.stk,ok.exf,ok.bs,ok.bsz,ok.noex,ok.exfs,ok.funs,ok.frf⟩
section
variable {X:Cx} {pins:yA} {W:St} {H:Hp} {s:ai} {E:Value->ai->Prop}
theorem Inv.wish (I:Inv X pins W H s) E :Inv (X.wish E) pins W H s:=⟨I.ok.wish E,I.os,I.bare,I.base,I.loc,I.cell,I.free,I.freeC,I.pin,I.hok,I.len⟩
theorem Inv.unwish (I:Inv (X.wish E) pins W H s):Inv X pins W H s:=⟨I.ok.unwish,I.os,I.bare,I.base,I.loc,I.cell,I.free,I.freeC,I.pin,I.hok,I.len⟩
theorem SP.unwish (h:SP (X.wish E) pins D f s'):SP X pins D f s':=by
 cases f with
 | next=>obtain⟨W',H',I,q⟩:=h;exact⟨W',H',I.unwish,q⟩
 | brk=>obtain⟨W',H',I,q⟩:=h;exact⟨W',H',I.unwish,q⟩
 | cont=>obtain⟨W',H',I,q⟩:=h;exact⟨W',H',I.unwish,q⟩
 | ret u=>obtain⟨v,W',H',I,r,q⟩:=h;exact⟨v,W',H',I.unwish,r,q⟩
theorem PSs.nox {st}(h:PSs X.nox st t):PSs X st t:=λ y s W H D I hw =>
 bU (h y s W H D (I.wish _) hw) (λ _ _ q=>q.unwish) λ _ _ z=>bM z
end
section
variable {X:Cx} {st:Stmt} {rest:yL} {t u:TS} {e:Expr} {te:TE} {pos:Pos}
def ca1:TS:=λ D W H=>D.nx W H
noncomputable def co0 (t u:TS):TS:=λ D W H=>t { D with nx:=u D } W H
theorem aF2:PSs X [] ca1:=λ _ _ W H _ I h=>iu ⟨W,H,I,h⟩
theorem aj1 (Cc:PS X st t)(z:PSs X rest u):PSs X (st::rest) (co0 t u):=by
 intro y s W H D I h
 refine wpAny_execs_cons (thn (Cc y s W H { D with nx:=u D } I h) λ f s1 q=>?_)
 cases f with
 | next =>
  obtain⟨W',H',G,q⟩:=q
  exact z y s1 W' H' D G q
 | ret v=>exact q
 | brk=>exact q
 | cont=>exact q
def cc3:TS:=λ D W H=>D.ct W H
theorem aG8:PS X (.Continue pos) cc3:=λ _ _ W H _ I h=>wpAny_Continue ⟨W,H,I,h⟩
theorem Inv.quiet {W:St}(I:Inv X h W H s):interactive X.env=false:=by simp[interactive,I.ok.kind]
def bY1 (te:TE):TS:=λ D W H=>te W H λ _ H1=>D.nx W H1
theorem bG3 (he:PE X e te)(hs:ga e none pos.line X.env=pure false:=by rfl):PS X (.Expr e pos) (bY1 te):=by
 intro y s W H D I h
 exact wpAny_Expr_any (thn (he y s W H _ I h) λ v s1 ⟨x,G,z,r1,Cc⟩=>⟨W,G,z,Cc⟩) I.quiet hs
def cl7 (te:TE):TS:=λ D W H=>te W H D.rt
theorem bc6 (he:PE X e te):PS X (.Return (some e) pos) (cl7 te):=by
 intro y s W H D I h
 exact wpAny_Return_some (thn (he y s W H _ I h) λ v s1 ⟨x,G,z,r1,Cc⟩=>⟨x,W,G,z,r1,Cc⟩)
def cl5 (c:TT)(t u:TS):TS:=λ D W H=>c W H λ b H1=>if b=true then t D W H1 else u D W H1
theorem ci3 (hc:PT X c J)(ha:PSs X a t)(hb:PSs X b u):PS X (.If c a b pos) (cl5 J t u):=by
 intro y s W H D I h
 refine wpAny_If (thn (hc y s W H _ I h) λ d s1 ⟨G,z,Cc⟩=>?_)
 cases d with
 | true=>exact ha y s1 W G D z Cc
 | false=>exact hb y s1 W G D z Cc
end
abbrev TG:=V->St->Hp->(St->Hp->Prop)->Prop
abbrev TGs:=List V->St->Hp->(St->Hp->Prop)->Prop
def PG (X:Cx)(target:Expr)(t:TG):Prop :=
 ∀ pins s (W:St) H v u Q ,Inv X pins W H s->RelV v u->t v W H Q ->
  wpAny (model X.prog X.w) X.A (hJ target X.env u) (λ _ s'=>∃ W' H',Inv X pins W' H' s'/\Q W' H') X.xe s
def PGs (X:Cx)(ts:yK)(t:TGs):Prop :=
 ∀ pins s (W:St) H vs (us:yG) Q ,Inv X pins W H s->Vals vs us->t vs W H Q ->
  wpAny (model X.prog X.w) X.A (assignInOrder ((cV ts X.env).map (·.2)) us) (λ _ s'=>∃ W' H',Inv X pins W' H' s'/\Q W' H') X.xe s
abbrev cd9:=V->V->V->Hp->(Hp->Prop)->Prop
def ch7 (X:Cx)(t:cd9):Prop :=
 ∀ pins s (W:St) H o i v ov iv u Q ,Inv X pins W H s->RelV o ov->RelV i iv->RelV v u->t o i v H Q ->
  wpAny (model X.prog X.w) X.A (setItem ov iv u) (λ _ s'=>∃ H',Inv X pins W H' s'/\Q H') X.xe s
section
variable {X:Cx} {pos:Pos}
def ay2 (i:Nat):TG:=λ v W H Q=>Q (W.set i (some v)) H
theorem aW8 (hN:X.N.Nodup)(z:X.N[i]?=some x)(hx:Loc X.env.scope x)(Cc:X.fn x=true\/X.env.scope.names.lookup x=some .local:=by first|exact .inl rfl|exact .inr rfl|assumption):PG X (.Name x pos) (ay2 i):=by
 intro y s W H v u Q I r h
 exact jW (av5 I hN z hx r (λ s' G=>⟨_,H,G,h⟩) Cc)
def co1:TGs:=λ vs W H Q=>vs=[]/\Q W H
def bX6 (t:TG)(u:TGs):TGs:=λ vs W H Q=>∃ v r,vs=v::r/\t v W H λ W' H'=>u r W' H' Q
theorem bx9:PGs X [] co1:=by
 intro y s W H vs us Q I r h
 obtain⟨e,h⟩:=h
 subst e
 cases r
 exact assignInOrder_nil ⟨W,H,I,h⟩
theorem bq4 (Y:PG X e t)(Cc:PGs X es u)
  (hs:(cV (e::es) X.env).map (·.2)=hJ e X.env::(cV es X.env).map (·.2):=by rfl):PGs X (e::es) (bX6 t u):=by
 intro y s W H vs us Q I r h
 obtain⟨v,Z,e1,h⟩:=h
 subst e1
 cases r with
 | cons r rr =>
  rw[hs]
  refine assignInOrder_cons (thn (Y y s W H _ _ _ I r h) λ _ s1 ⟨W1,z,G,J⟩=>?_)
  exact Cc y s1 W1 z _ _ Q G rr J
def ch2 (K:ah)(n:Nat)(t:TGs):TG:=λ v W H Q=>∃ a xs,v=.ref a/\SqT K H a xs/\xs.length=n/\t xs W H Q
theorem bU8 {k}(hc:X.calm=true)(h:PGs X es t)
  (hn:(cV es X.env).length=n:=by rfl) (z:(cV es X.env).findIdx? (·.1)=none:=by rfl):PG X (.Tuple es k pos) (ch2 X.K n t):=by
 intro y s W H v u Q I r hw
 obtain⟨a,J,e1,hq,hl,hw⟩:=hw
 subst e1
 cases r
 obtain⟨its,rv,G,hz⟩:=I.tuple hq
 refine assign_Tuple_tuple (I.ok.hd hc) G (by simp[hn,<-hl,rv.length]) z λ h' hx=>?_
 have Cc:=I.kept (t':=s.toks) λ b o e=>hx b o (aw (aG e)) e
 exact h y _ W H J _ Q Cc (by simpa using rv) hw
def cl3 (to ti:TE)(t:cd9):TG:=λ v W H Q=>to W H λ o H1=>ti W H1 λ i H2=>t o i v H2 λ H3=>Q W H3
theorem cc0 (ho:PE X o G)(Y:PE X i J)(hs:ch7 X t)
  (ha:∀ v,hJ (.Subscript o i pos) X.env v=(do
   let Cc <- gE [v] (eval o X.env)
   let iv <- gE [v,Cc] (eval i X.env)
   standAt pos
   gE [v,Cc,iv] (setItem Cc iv v)
   release [v,Cc,iv] []):=by intro _;rfl):PG X (.Subscript o i pos) (cl3 G J t):=by
 intro z s W H v u Q I r h
 rw[ha]
 refine ae (cf (thn (ho z s W H _ I h) λ Cc s1 ⟨x,H1,I1,r1,q1⟩=>?_))
 refine ae (cf (thn (Y z s1 W H1 _ I1 q1) λ iv s2 ⟨y,H2,I2,r2,q2⟩=>?_))
 refine ae (jz (ae (cf (thn (hs z s2 W H2 x y v Cc iv u _ I2 r1 r2 r q2) λ _ s3 ⟨H3,Z,q3⟩=>?_))))
 exact wpAny_release ⟨W,H3,Z,q3⟩
def bm7 (te:TE)(g:TG):TS:=λ D W H=>te W H λ x H1=>g x W H1 D.nx
theorem bu4 (he:PE X e z)(hg:PG X tg g)(hs:swapsWithSole [tg] e pos.line X.env=pure false:=by rfl)(hw:jA [tg] e X.env=pure none:=by rfl)
  (J:(cV [tg] X.env).map (·.2)=[hJ tg X.env]:=by rfl):PS X (.Assign [tg] e pos) (bm7 z g):=by
 intro y s W H D I h
 refine wpAny_Assign_stores (thn (he y s W H _ I h) λ v s1 ⟨x,Y,Cc,r1,G⟩=>?_) hs hw
 rw[J]
 exact thn (hg y s1 W Y x v _ Cc r1 G) λ _ s2 q=>q
theorem bw1 (hN:X.N.Nodup)(Y:X.N[i]?=some x)(hx:Loc X.env.scope x)(he:PE X e G)(hs:ga e (some (.Name x z)) pos.line X.env=pure false:=by rfl)(hf:X.fn x=true\/X.env.scope.names.lookup x=some .local:=by first|exact .inl rfl|exact .inr rfl|assumption) :
  PS X (.Assign [.Name x z] e pos) (bm7 G (ay2 i)):=by
 intro Cc s W H D I h
 refine wpAny_Assign_Name (thn (he Cc s W H _ I h) λ v s1 ⟨y,H1,J,r1,Z⟩=>?_) hs
 exact av5 J hN Y hx r1 (λ s2 I2=>⟨_,H1,I2,Z⟩) hf
end
section
variable {X:Cx} {pos:Pos}
def bu8 (c:TT)(tb:TS):TS:=λ D W H=>∃ Ww:Nat->St->Hp->Prop,(∃ m,Ww m W H)/\∀ m W H,Ww m W H ->
 c W H λ b H1=>if b=true then ∃ N,(∀ W' H',N W' H'->∃ m',m'<m/\Ww m' W' H')/\tb { D with nx:=N,ct:=N,bk:=D.nx } W H1 else D.nx W H1
theorem bh9 (hp:PassesOwn (model X.prog X.w) X.A X.env X.xe)(hc:PT X c tc)(hb:PSs X body tb):PS X (.While c body [] pos) (bu8 tc tb):=by
 intro y s W H D I h
 obtain⟨Ww,⟨m0,w0⟩,turn⟩:=h
 refine wpAny_While (codeAny_whileLoop (λ n s'=>∃ W' H',Inv X y W' H' s'/\Ww n W' H') ?_ m0 ⟨W,H,I,w0⟩)
 rintro n s1 ⟨W1,Z,I1,w1⟩
 refine c8 hp (thn (hc y s1 W1 Z _ I1 (turn n W1 Z w1)) λ b s2 ⟨H2,I2,q2⟩=>?_)
 cases b with
 | true =>
  obtain⟨N,hN,q2⟩:=q2
  rw[if_pos rfl]
  refine c8 hp (thn (hb y s2 W1 H2 _ I2 q2) λ f s3 q3=>?_)
  cases f with
  | next =>
   obtain⟨W3,z,Cc,Y⟩:=q3
   obtain⟨m',J,G⟩:=hN W3 z Y
   exact⟨m',J,W3,z,Cc,G⟩
  | cont =>
   obtain⟨W3,z,Cc,Y⟩:=q3
   obtain⟨m',J,G⟩:=hN W3 z Y
   exact⟨m',J,W3,z,Cc,G⟩
  | brk=>exact q3
  | ret v=>exact q3
 | false =>
  rw[if_neg aW]
  exact iu ⟨W1,H2,I2,q2⟩
end
structure It where
 go:Nat->Hp->Prop
 yld:Nat->Hp->V->Hp->Prop
 stop:Nat->Hp->Prop
def FpOk (X:Cx)(pins:yA)(H:Hp)(b:Addr):Prop :=
 H b=none/\b≠X.env.locals/\b ∉ X.fs/\(b∈X.ex\/X.s₀.heap.objs.size<=b)/\(∀ x c,X.env.cells.lookup x=some c->c≠b)/\∀ p∈X.pn++pins,p.1≠b
theorem Inv.fpOk {W:St}{b:Addr}(I:Inv X h W H s)(hb:s.heap.objs.size<=b)(hn:H' b=none):FpOk X h H' b:=by
 refine⟨hn,cu (ao I.lt hb),I.nofs hb,.inr (am I.sz hb),λ x c e z=>?_,λ p hp z=>?_⟩
 .obtain⟨v,q⟩:=I.cell x c e
  exact absurd (ao q.lt (by rw[z];exact hb)) (bF _)
 .exact absurd (ao (aG (I.pin p hp).1) (by rw[z];exact hb)) (bF _)
structure Turn (P:aI)(w:World)(K:ah)(tg:Expr)(J:It)(fp:List Addr)(it:Addr)(tn:Nat->Heap->Prop):Prop where
 mem:it∈fp
 obj:∀ i h,tn i h->∀ b∈fp,∃ o,h.get? b=some o/\∀ v,o.data≠.cell v
 keep:∀ i h h',tn i h->(∀ b∈fp,∀ o,h.get? b=some o->h'.get? b=some o)->tn i h'
 item:∀(X:Cx),X.prog=P->X.w=w->X.K=K->X.calm=true->∀(i:Nat) (pins:yA) (s:ai) (W:St) (H:Hp) (E:Value->ai->Prop),Inv X pins W H s->(∀ b∈fp,FpOk X pins H b)->tn i s.heap->J.go i H ->
  wpAny (model P w) X.A (gh (.ref it)) (λ r s1=>∃ u,r=some u /\
   wpAny (model P w) X.A (fK tg (.ref it) u) (λ _ s2=>∃ x H',Inv X pins W H' s2/\RelV x u/\J.yld i H x H'/\tn (i+1) s2.heap/\∀ b∈fp,H' b=none) E s1) E s
 done:∀(X:Cx),X.prog=P->X.w=w->X.K=K->X.calm=true->∀(i:Nat) (pins:yA) (s:ai) (W:St) (H:Hp) (E:Value->ai->Prop),Inv X pins W H s->(∀ b∈fp,FpOk X pins H b)->tn i s.heap->J.stop i H ->
  wpAny (model P w) X.A (gh (.ref it)) (λ r s1=>r=none/\Inv X pins W H s1) E s
 self:∀(A:aX) (i:Nat) (s:ai) (Q:Value->ai->Prop) (E:Value->ai->Prop),tn i s.heap->Q (.ref it) s->wpAny (model P w) A (ki (.ref it)) Q E s
abbrev TI:=St->Hp->(It->Hp->Prop)->Prop
def PIE (X:Cx)(pins:yA)(W:St)(tg:Expr)(R:It->Hp->Prop)(itv:Value)(s2:ai):Prop :=
 ∃(it:Addr) (fp:List Addr) (tn:Nat->Heap->Prop) (J:It) (H':Hp),itv=.ref it/\Inv X pins W H' s2/\Turn X.prog X.w X.K tg J fp it tn/\tn 0 s2.heap/\(∀ b∈fp,FpOk X pins H' b)/\R J H'
def PI (X:Cx)(tg iter:Expr)(wi:TI):Prop :=
 ∀ pins s (W:St) H R ,Inv X pins W H s->wi W H R ->
  wpAny (model X.prog X.w) X.A (eval iter X.env) (λ v s1=>wpAny (model X.prog X.w) X.A (ki v) (PIE X pins W tg R) X.xe s1) X.xe s
theorem be5 (ho : s.heap.get? it = some o) (hc : o.cls = .type n) (hd : o.data = .fields vs)
    (hn : ["enumerate", "zip", "dict_itemiterator", "dict_reverseitemiterator", "odict_iterator", "itertools.zip_longest", "itertools.pairwise"].contains n = false) (hQ : Q () s) : wpAny M A (fK tg (.ref it) u) Q E s := by
  unfold fK
  cases tg <;> first
    | exact au hQ
    | (cases u <;> first
        | exact au hQ
        | (refine ae (kS ho ?_)
           rw[hc, hd]
           show wpAny M A (if(["enumerate", "zip", "dict_itemiterator", "dict_reverseitemiterator", "odict_iterator", "itertools.zip_longest", "itertools.pairwise"].contains n && vs[0]? == some (cF _)) = true then _ else _) Q E s
           rw[if_neg (by intro h; rw[hn, Bool.false_and]at h; cases h)]
           exact au hQ))
noncomputable def Itl (K:ah)(a:Addr):It :=
 ⟨λ i H=>∃ xs x,SqL K H a xs/\xs[i]?=some x,λ i H x H'=>H'=H/\∀ xs,SqL K H a xs->xs[i]?=some x,λ i H=>∃ xs,SqL K H a xs/\xs.length<=i⟩
noncomputable def Itt (K:ah)(a:Addr):It :=
 ⟨λ i H=>∃ xs x,SqT K H a xs/\xs[i]?=some x,λ i H x H'=>H'=H/\∀ xs,SqT K H a xs->xs[i]?=some x,λ i H=>∃ xs,SqT K H a xs/\xs.length<=i⟩
noncomputable def Itr (lo:Int)(n:Nat):It:=⟨λ i _=>i<n,λ i H x H'=>H'=H/\x=.int (lo+i),λ i _=>n<=i⟩
theorem bf7 {K} a it :Turn P w K tg (Itl K a) [it] it (λ i h=>h.IsListIter it a i) where
 mem:=by simp
 obj:=λ i h st b hb=>by
  have e:=by simpa using hb
  subst e
  obtain⟨o,e,c,d⟩:=st
  exact⟨o,e,λ v z=>by rw[d]at z;cases z⟩
 keep:=λ i h h' st k=>st.at λ o e=>k it (by simp) o e
 item:=by
  intro X hP hw Z hc i y s W H E I G st hg
  subst hP hw Z
  obtain⟨xs,x,hq,hx⟩:=hg
  obtain⟨its,rv,p,hz⟩:=I.list hq
  obtain⟨u,hu,ru⟩:=rv.get hx
  obtain⟨J,f1,f2,f3,Y,f5⟩:=G it (by simp)
  refine wpAny_pyNext_list_item st p.isList (by simpa using hu) λ h' Cc sb=>?_
  have I1:=I.turned (t':=s.toks) (λ b o hb e=>(sb.2 b hb).trans e) J f1 f3 Y f5
  obtain⟨o,e,c,d⟩:=id Cc
  exact⟨u,rfl,be5 e c d (by decide) ⟨x,H,I1,ru,⟨rfl,λ ys hy=>by rw[I.list_inj hy hq];exact hx⟩,Cc,λ b hb=>(G b hb).1⟩⟩
 done:=by
  intro X hP hw Z hc i y s W H E I G st hg
  subst hP hw Z
  obtain⟨xs,hq,hx⟩:=hg
  obtain⟨its,rv,p,hz⟩:=I.list hq
  obtain⟨J,f1,f2,f3,Y,f5⟩:=G it (by simp)
  have hl:=rv.length
  exact wpAny_pyNext_list_end (I.ok.hd hc) st p.isList (by simp;lia) λ h' eb=>⟨rfl,I.turned (λ b o hb e=>eb b o hb e) J f1 f3 Y f5⟩
 self:=λ _ _ _ _ _ st h=>wpAny_pyIter_listiter st h
theorem aQ6 {K} a it :Turn P w K tg (Itt K a) [it] it (λ i h=>h.IsTupleIter it a i) where
 mem:=by simp
 obj:=λ i h st b hb=>by
  have e:=by simpa using hb
  subst e
  obtain⟨o,e,c,d⟩:=st
  exact⟨o,e,λ v z=>by rw[d]at z;cases z⟩
 keep:=λ i h h' st k=>st.at λ o e=>k it (by simp) o e
 item:=by
  intro X hP hw Z hc i y s W H E I G st hg
  subst hP hw Z
  obtain⟨xs,x,hq,hx⟩:=hg
  obtain⟨its,rv,p,hz⟩:=I.tuple hq
  obtain⟨u,hu,ru⟩:=rv.get hx
  obtain⟨J,f1,f2,f3,Y,f5⟩:=G it (by simp)
  refine wpAny_pyNext_tuple_item st (p) (by simpa using hu) λ h' Cc sb=>?_
  have I1:=I.turned (t':=s.toks) (λ b o hb e=>(sb.2 b hb).trans e) J f1 f3 Y f5
  obtain⟨o,e,c,d⟩:=id Cc
  exact⟨u,rfl,be5 e c d (by decide) ⟨x,H,I1,ru,⟨rfl,λ ys hy=>by rw[I.tuple_inj hy hq];exact hx⟩,Cc,λ b hb=>(G b hb).1⟩⟩
 done:=by
  intro X hP hw Z hc i y s W H E I G st hg
  subst hP hw Z
  obtain⟨xs,hq,hx⟩:=hg
  obtain⟨its,rv,p,hz⟩:=I.tuple hq
  obtain⟨J,f1,f2,f3,Y,f5⟩:=G it (by simp)
  have hl:=rv.length
  exact wpAny_pyNext_tuple_end (I.ok.hd hc) st (p) (by simp;omega) λ h' eb=>⟨rfl,I.turned (λ b o hb e=>eb b o hb e) J f1 f3 Y f5⟩
 self:=λ _ _ _ _ _ st h=>wpAny_pyIter_tupleiter st h
theorem aR2 {K} it J n :Turn P w K tg (Itr J n) [it] it (λ i h=>IsRangeIter h it (J+(i)*1) ((n) - (i)) 1) where
 mem:=by simp
 obj:=λ i h st b hb=>by
  have e:=by simpa using hb
  subst e
  exact⟨_,st,λ v z=>by
   have z':=z
   cases z'⟩
 keep:=λ i h h' st k=>k it (by simp) _ st
 item:=by
  intro X hP hw hK hc i y s W H E I G st hg
  subst hP hw hK
  obtain⟨Y,f1,f2,f3,Z,f5⟩:=G it (by simp)
  have Ww:=Walks.range (prog:=X.prog) (w:=X.w) (I.ok.hd hc) it J 1 n
  refine Ww.item i s _ _ hg st λ v h' tk hv Cc kk=>?_
  obtain⟨t,rfl⟩:=hv
  have I1:Inv X y W H { s with heap:=h',toks:=tk }:=I.turned (λ b o hb e=>kk b o (by simpa using hb) e) Y f1 f3 Z f5
  refine⟨_,rfl,be5 Cc rfl rfl (by decide) ⟨.int (J+i),H,I1,⟨t,?_⟩,⟨rfl,rfl⟩,Cc,λ b hb=>(G b hb).1⟩⟩
  rw[Int.mul_one]
 done:=by
  intro X hP hw hK hc i y s W H E I G st hg
  subst hP hw hK
  obtain⟨Y,f1,f2,f3,Z,f5⟩:=G it (by simp)
  exact wpAny_pyNext_range_end (I.ok.hd hc) st (by have:n<=i:=hg;lia) λ h' eb=>⟨rfl,I.turned (λ b o hb e=>eb b o hb e) Y f1 f3 Z f5⟩
 self:=λ _ _ _ _ _ st h=>wpAny_pyIter_rangeiter st h
section
variable {X:Cx} {tg:Expr}
def bM6 (K:ah)(tl:TE):TI:=λ W H R=>tl W H λ x H1=>∃ a,x=.ref a/\(∃ xs,SqL K H1 a xs)/\R (Itl K a) H1
def cj2 (K:ah)(tl:TE):TI:=λ W H R=>tl W H λ x H1=>∃ a,x=.ref a/\(∃ xs,SqT K H1 a xs)/\R (Itt K a) H1
theorem bz1 (hl:PE X l Cc):PI X tg l (bM6 X.K Cc):=by
 intro y s W H R I h
 refine thn (hl y s W H _ I h) λ v s1 ⟨x,G,z,r1,J⟩=>?_
 obtain⟨a,e,⟨Y,hq⟩,q⟩:=J
 subst e
 cases r1
 obtain⟨its,rv,p,hz⟩:=z.list hq
 refine dT p.isList ?_
 refine⟨s1.heap.objs.size,[s1.heap.objs.size],_,_,G,rfl,z.kept λ b o e=>af _ e,bf7 a _,⟨_,aE _ rfl,rfl,rfl⟩,λ b hb=>?_,q⟩
 have e:=by simpa using hb
 subst e
 exact z.fpOk (aj _) (z.hok.fresh (aj _))
theorem bW9 (hl:PE X l Cc):PI X tg l (cj2 X.K Cc):=by
 intro y s W H R I h
 refine thn (hl y s W H _ I h) λ v s1 ⟨x,G,z,r1,J⟩=>?_
 obtain⟨a,e,⟨Y,hq⟩,q⟩:=J
 subst e
 cases r1
 obtain⟨its,rv,p,hz⟩:=z.tuple hq
 refine jK (p) ?_
 refine⟨s1.heap.objs.size,[s1.heap.objs.size],_,_,G,rfl,z.kept λ b o e=>af _ e,aQ6 a _,⟨_,aE _ rfl,rfl,rfl⟩,λ b hb=>?_,q⟩
 have e:=by simpa using hb
 subst e
 exact z.fpOk (aj _) (z.hok.fresh (aj _))
theorem bo1 {W:St}(I:Inv X z W H s)(Y:-(2^62)<=h)(J:h<2^62)(G:-(2^62)<=y)(h4:y<2^62)
  (q:R (Itr h (y - h).toNat) H):wpAny (model X.prog X.w) X.A (ki (.ref s.heap.objs.size)) (PIE X z W tg R) E { s with heap:=s.heap.push { cls:=.type "range",data:=.fields #[.int h t,.int y u,.int 1 v] },toks:=tk }:=by
 refine wpAny_pyIter_range (IsRange.new ..) (small_one Y J G h4) ?_
 have Cc:Inv X z W H { s with heap:=s.heap.push { cls:=.type "range",data:=.fields #[.int h t,.int y u,.int 1 v] },toks:=tk }:=I.kept λ b o e=>af _ e
 refine⟨(s.heap.push { cls:=.type "range",data:=.fields #[.int h t,.int y u,.int 1 v] }).objs.size,[(s.heap.push { cls:=.type "range",data:=.fields #[.int h t,.int y u,.int 1 v] }).objs.size],_,_,H,rfl,
  Cc.kept λ b o e=>af _ e,aR2 _ h (y - h).toNat,?_,λ b hb=>?_,q⟩
 .have e1:h+((0:Nat):Int)*1=h:=by simp
  have e2:(((y - h).toNat:Nat):Int) - ((0:Nat):Int)=ly h y 1:=by rw[rangeSize_one];split<;>lia
  show IsRangeIter _ _ (h+((0:Nat):Int)*1) ((((y - h).toNat:Nat):Int) - ((0:Nat):Int)) 1
  rw[e1,e2]
  exact aE _ rfl
 .have e:b=(s.heap.push { cls:=.type "range",data:=.fields #[.int h t,.int y u,.int 1 v] }).objs.size:=by simpa using hb
  subst e
  exact Cc.fpOk (aj _) (Cc.hok.fresh (aj _))
def bN1 (ta:TA):TI:=λ W H R=>ta W H λ vs H1=>∃ j,vs=[.int j]/\-(2^62)<=j/\j<2^62/\R (Itr 0 j.toNat) H1
theorem aY6 (hg:Gl X "range")(J:X.mg "range"=none)(ha:PA X [a] Cc)(hs:bf [a] X.env=[(false,eval a X.env)]:=by rfl):PI X tg (.Call (.Name "range" p) [a] [] pos) (bN1 Cc):=by
 intro y s W H R I h
 refine Call_ (am7 I hg J boot_range (dU (thn (ha pos y s W H _ I h) λ us s1 ⟨vs,Y,G,r1,z⟩=>?_) hs rfl))
 obtain⟨j,e,z,q2,q⟩:=z
 subst e
 cases r1 with
 | cons r rr =>
  cases rr
  obtain⟨t,rfl⟩:=r
  exact call_range_1 (bo1 G (by lia) (by lia) z q2 (by simpa using q))
def cj8 (wi:TI)(g:TG)(tb:TS):TS:=λ D W H=>wi W H λ J H1=>∃ Ww:Nat->Nat->St->Hp->Prop,(∃ m,Ww 0 m W H1)/\∀ i m W H,Ww i m W H ->
 (J.stop i H/\D.nx W H)\/(J.go i H/\∃ N,(∀ W' H',N W' H'->∃ m',m'<m/\Ww (i+1) m' W' H')/\∀ x H',J.yld i H x H'->g x W H' λ W2 H2=>tb { D with nx:=N,ct:=N,bk:=D.nx } W2 H2)
noncomputable def az2 (fp:List Addr)(h:Heap):List (Addr×Obj):=fp.filterMap λ b=>(h.get? b).map λ o=>(b,o)
theorem qP (hb:b∈y)(e:h.get? b=some o):(b,o)∈az2 y h:=br.mpr ⟨b,hb,by rw[e];rfl⟩
theorem aY7 (hp:p∈az2 y h):p.1∈y/\h.get? p.1=some p.2:=by
 obtain⟨b,hb,e⟩:=br.mp hp
 cases q:h.get? b with
 | none=>rw[q]at e;cases e
 | some o =>
  rw[q]at e
  have e':=aA e
  subst e'
  exact⟨hb,q⟩
theorem Inv.pinned {W:St}(I:Inv X h W H s)(Cc:∀ b∈y,FpOk X h H b)(ho:∀ b∈y,∃ o,s.heap.get? b=some o/\∀ v,o.data≠.cell v):Inv X (h++az2 y s.heap) W H s :=
 I.pins_of λ p hp=>(a8.mp hp).elim (λ z=>I.pin p (bD _ z)) λ z=>by
  obtain⟨hb,e⟩:=aY7 z
  obtain⟨J,G,Y,_⟩:=Cc p.1 hb
  obtain⟨o,e',d⟩:=ho p.1 hb
  rw[e]at e';cases e'
  exact⟨e,J,G,Y,d⟩
theorem Inv.unpinned {W:St}(I:Inv X (h++y) W H s):Inv X h W H s:=I.pins_of λ p hp=>I.pin p (bD _ (iL _ hp))
theorem br8 (hp:PassesOwn (model X.prog X.w) X.A X.env X.xe)(hc:X.calm=true)(hi:PI X tg iter wi)(hg:PG X tg g)(hb:PSs X body tb)
  (hs:∀ x,dW iter X.env x=pure x:=by intro _;rfl):PS X (.For tg iter body [] pos) (cj8 wi g tb):=by
 intro y s W H D I h
 refine wpAny_For (thn (hi y s W H _ I h) λ v s1 h1=>thn h1 λ a6 s2 h2=>?_) hs
 obtain⟨it,fp,tn,J,H2,e,I2,T,a4,f2,Ww,⟨m0,w0⟩,turn⟩:=h2
 subst e
 have G:∀ {H'},(∀ b∈fp,H' b=none)->∀ b∈fp,FpOk X y H' b:=λ hn b hb=>⟨hn b hb,(f2 b hb).2⟩
 refine codeAny_forLoop_any (λ n s'=>∃ i W' H',Inv X y W' H' s'/\tn i s'.heap/\(∀ b∈fp,H' b=none)/\Ww i n W' H') ?_ m0 ⟨0,W,H2,I2,a4,λ b hb=>(f2 b hb).1,w0⟩
 rintro n s3 ⟨i,W3,H3,I3,a1,a2,w3⟩
 rcases turn i n W3 H3 w3 with⟨stop,qn⟩|⟨go,N,hN,step⟩
 .refine c8 hp (thn (T.done X rfl rfl rfl hc i y s3 W3 H3 X.xe I3 (G a2) a1 stop) λ r s4 ⟨hr,I4⟩=>?_)
  subst hr
  exact iu ⟨W3,H3,I4,qn⟩
 .refine c8 hp (thn (T.item X rfl rfl rfl hc i y s3 W3 H3 X.xe I3 (G a2) a1 go) λ r s4 ⟨u,hr,h4⟩=>?_)
  subst hr
  refine c8 hp (thn h4 λ _ s5 ⟨x,H5,I5,r5,y5,a0,a5⟩=>?_)
  have a3:=I5.pinned (G a5) (T.obj _ _ a0)
  refine c8 hp (thn (hg _ s5 W3 H5 x u _ a3 r5 (step x H5 y5)) λ _ s6 ⟨W6,H6,I6,q6⟩=>?_)
  refine c8 hp (thn (hb _ s6 W6 H6 _ I6 q6) λ f s7 Z=>?_)
  have Cc:∀ {W7} {Y},Inv X (y++az2 fp s5.heap) W7 Y s7->N W7 Y->∃ m,m<n/\∃ i W' H',Inv X y W' H' s7/\tn i s7.heap/\(∀ b∈fp,H' b=none)/\Ww i m W' H':=λ {W7 Y} z n7=>by
   obtain⟨m',hm,w7⟩:=hN W7 Y n7
   refine⟨m',hm,i+1,W7,Y,z.unpinned,T.keep _ _ _ a0 λ b hb o e=>(z.pin (b,o) (bD _ (bD _ (qP hb e)))).1,λ b hb=>?_,w7⟩
   obtain⟨o,e,d⟩:=T.obj _ _ a0 b hb
   exact(z.pin (b,o) (bD _ (bD _ (qP hb e)))).2.1
  cases f with
  | next=>obtain⟨W7,Y,z,n7⟩:=Z;exact Cc z n7
  | cont=>obtain⟨W7,Y,z,n7⟩:=Z;exact Cc z n7
  | brk=>obtain⟨W7,Y,z,Z⟩:=Z;exact⟨W7,Y,z.unpinned,Z⟩
  | ret v=>obtain⟨x7,W7,Y,z,r7,Z⟩:=Z;exact⟨x7,W7,Y,z.unpinned,r7,Z⟩
end
abbrev R2:=V->V->Hp->VK->Prop
def OpR (X:Cx)(f:Value->Value->Sem Value)(r:R2):Prop :=
 ∀ pins s (W:St) H x y v u Q ,Inv X pins W H s->RelV x v->RelV y u->r x y H Q ->
  wpAny (model X.prog X.w) X.A (f v u) (EP X pins W Q) X.xe s
def ac2 (X:Cx)(f:Value)(r:List V->Hp->VK->Prop):Prop :=
 ∀ pins s (W:St) H xs (us:yG) Q ,Inv X pins W H s->Vals xs us->r xs H Q ->
  wpAny (model X.prog X.w) X.A (call f us) (EP X pins W Q) X.xe s
def tOp (r:R2)(ta tb:TE):TE:=λ W H Q=>ta W H λ x H1=>tb W H1 λ y H2=>r x y H2 Q
def rI (Cc:Int->Int->Prop)(g:Int->Int->V):R2:=λ x y H Q=>∃ i j,x=.int i/\y=.int j/\Cc i j/\Q (g i j) H
def rI0 (g:Int->Int->V):R2:=λ x y H Q=>∃ i j,x=.int i/\y=.int j/\Q (g i j) H
section
variable {X:Cx} {a b c:Expr} {ta tb tc:TE} {pos:Pos}
theorem ck2 (ha:PE X a ta)(hb:PE X b tb){W:St}{R:V->V->Hp->Prop}(I:Inv X z W H s)
  (h:ta W H λ x Cc=>tb W Cc λ y H2=>R x y H2) {f:Value->Value->Sem Value}
  (Z:∀ v u s2 x y H2,Inv X z W H2 s2->RelV x v->RelV y u->R x y H2->wpAny (model X.prog X.w) X.A (f v u) Q X.xe s2) :
  wpAny (model X.prog X.w) X.A (eval a X.env) (λ v s₁=>wpAny (model X.prog X.w) X.A (eval b X.env) (λ u s₂=>wpAny (model X.prog X.w) X.A (f v u) Q X.xe s₂) X.xe s₁) X.xe s:=by
 refine thn (ha z s W H _ I h) λ v s1 ⟨x,Cc,J,r1,Y⟩=>?_
 refine thn (hb z s1 W Cc _ J Y) λ u s2 ⟨y,H2,I2,G,q2⟩=>?_
 exact Z v u s2 x y H2 I2 r1 G q2
theorem cg3 (ho:OpR X (cG op) r)(ha:PE X a ta)(hb:PE X b tb):PE X (.BinOp a op b pos) (tOp r ta tb):=by
 intro z s W H Q I h
 exact wpAny_BinOp (ck2 ha hb I h λ v u s2 x y H2 I2 G Cc q=>ho z s2 W H2 x y v u Q I2 G Cc q)
theorem opI {g:Int->Int->Int}
  (rule:∀(i j:Int) (t u:Tok) (s:ai) (Q:Value->ai->Prop) (E:Value->ai->Prop),Cc i j->Q (.int (g i j) s.toks) { s with toks:=s.toks+1 }->wpAny (model X.prog X.w) X.A (f (.int i t) (.int j u)) Q E s) :
  OpR X f (rI Cc λ i j=>.int (g i j)):=by
 intro z s W H x y v u Q I G J h
 obtain⟨i,j,rfl,rfl,hc,q⟩:=h
 obtain⟨t,rfl⟩:=G
 obtain⟨t',rfl⟩:=J
 exact rule i j t t' s _ _ hc ⟨.int (g i j),H,I.tok _,⟨_,rfl⟩,q⟩
theorem cn6 {g:Int->Int->Int}
  (rule:∀(i j:Int) (t u:Tok) (s:ai) (Q:Value->ai->Prop) (E:Value->ai->Prop),Q (.int (g i j) s.toks) { s with toks:=s.toks+1 }->wpAny (model X.prog X.w) X.A (f (.int i t) (.int j u)) Q E s) :
  OpR X f (rI0 λ i j=>.int (g i j)):=by
 intro z s W H x y v u Q I G Cc h
 obtain⟨i,j,rfl,rfl,q⟩:=h
 obtain⟨t,rfl⟩:=G
 obtain⟨t',rfl⟩:=Cc
 exact rule i j t t' s _ _ ⟨.int (g i j),H,I.tok _,⟨_,rfl⟩,q⟩
theorem cj0 {g:Int->Int->Bool}
  (rule:∀(i j:Int) (t u:Tok) (s:ai) (Q:Value->ai->Prop) (E:Value->ai->Prop),Q (.bool (g i j)) s->wpAny (model X.prog X.w) X.A (f (.int i t) (.int j u)) Q E s) :
  OpR X f (rI0 λ i j=>.bl (g i j)):=by
 intro z s W H x y v u Q I G Cc h
 obtain⟨i,j,rfl,rfl,q⟩:=h
 obtain⟨t,rfl⟩:=G
 obtain⟨t',rfl⟩:=Cc
 exact rule i j t t' s _ _ ⟨.bl (g i j),H,I,rfl,q⟩
def cq1 (i j:Int):Prop:=0<=j/\j<=1000000/\i.natAbs<2^64
def cd7 (i j:Int):Prop:=(-(2^64)<i/\i<2^64)\/(-(2^64)<j/\j<2^64)
theorem cd7.ok (h:cd7 i j):IntMulOk i j:=by
 rcases h with⟨y,z⟩|⟨y,z⟩
 .exact .of_left (intBits_le_64 y z)
 .exact .of_right (intBits_le_64 y z)
theorem bX7:OpR X (cG .Add) (rI0 λ i j=>.int (i+j)):=cn6 λ _ _ _ _ _ _ _ q=>add_int q
theorem cb4:OpR X (cG .Mod) (rI (λ _ j=>0<j) λ i j=>.int (i % j)):=opI λ i j _ _ _ _ _ hc q=>by
 have h:=hc
 exact mod_int' (by lia) (by rw[Int.fmod_eq_emod_of_nonneg i (by lia)];exact q)
theorem ca6:OpR X (cG .Pow) (rI cq1 λ i j=>.int (i^j.toNat)):=opI λ _ _ _ _ _ _ _ hc q=>pow_int_small hc.1 hc.2.1 hc.2.2 q
theorem ck9:OpR X (cG .BitOr) (rI0 λ i j=>.int (gO i j)):=cn6 λ _ _ _ _ _ _ _ q=>or_int q
end
section
variable {X:Cx} {a b c:Expr} {ta tb tc:TE} {pos:Pos}
theorem cg1:OpR X (cU .Lt) (rI0 λ i j=>.bl (decide (i<j))):=cj0 λ _ _ _ _ _ _ _ q=>lt_int q
theorem ce8:OpR X (cU .LtE) (rI0 λ i j=>.bl (decide (i<=j))):=cj0 λ _ _ _ _ _ _ _ q=>le_int q
theorem ci6:OpR X (cU .Gt) (rI0 λ i j=>.bl (decide (j<i))):=cj0 λ _ _ _ _ _ _ _ q=>gt_int q
theorem bD2 (ho:OpR X (cU op) r)(ha:PE X a ta)(hb:PE X b tb)(J:dh op b=false):PE X (.Compare a [op] [b] pos) (tOp r ta tb):=by
 intro z s W H Q I h
 exact wpAny_Compare1 (ck2 ha hb I h λ v u s2 x y H2 I2 G Cc q=>ho z s2 W H2 x y v u Q I2 G Cc q) J
def bC5 (t:TE):TT:=λ W H Q=>t W H λ x H'=>∃ k,x=.bl k/\Q k H'
theorem bE9 (ho:OpR X (cU op) r)(ha:PE X a ta)(hb:PE X b tb)(hm:dh op b=false):PT X (.Compare a [op] [b] pos) (bC5 (tOp r ta tb)):=by
 intro Cc s W H Q I h
 refine iB (thn (ha Cc s W H _ I h) λ v s1 ⟨x,Y,I1,r1,q1⟩=>thn (hb Cc s1 W Y _ I1 q1) λ u s2 ⟨y,H2,I2,J,q2⟩ =>
  thn (ho Cc s2 W H2 x y v u _ I2 r1 J q2) λ c s3 ⟨z,Z,G,r3,k,e,q3⟩=>?_) hm
 subst e
 cases r3
 exact bP ⟨Z,G,q3⟩
def ba5 (r r':R2)(ta tb tc:TE):TE:=λ W H Q=>ta W H λ x H1=>tb W H1 λ y H2=>r x y H2 λ z H3=>∃ k,z=.bl k /\
 (if k=true then tc W H3 λ w' H4=>r' y w' H4 Q else Q (.bl false) H3)
theorem bj1 (ho:OpR X (cU op) r)(J:OpR X (cU G) r')(ha:PE X a ta)(hb:PE X b tb)(hc:PE X c tc)
  (hm:lz [op,G] [b,c]=false:=by with_unfolding_all rfl):PE X (.Compare a [op,G] [b,c] pos) (ba5 r r' ta tb tc):=by
 intro Cc s W H Q I h
 refine Compare_chain (thn (ha Cc s W H _ I h) λ v s1 ⟨x,H1,I1,r1,q1⟩=>chain_link (thn (hb Cc s1 W H1 _ I1 q1) λ u s2 ⟨y,H2,I2,Z,q2⟩ =>
  thn (ho Cc s2 W H2 x y v u _ I2 r1 Z q2) λ d s3 ⟨z,H3,Y,r3,k,e,q3⟩=>?_)) hm
 subst e
 cases r3
 refine bP ?_
 cases k with
 | false=>exact ite_ff ⟨.bl false,H3,Y,rfl,q3⟩
 | true=>exact ite_tt (chain_last (thn (hc Cc s3 W H3 _ Y q3) λ w' s4 ⟨z',H4,I4,r4,q4⟩=>J Cc s4 W H4 y z' u w' Q I4 Z r4 q4))
theorem bk0 (ho:OpR X (cU op) r)(J:OpR X (cU G) r')(ha:PE X a ta)(hb:PE X b tb)(hc:PE X c tc)
  (hm:lz [op,G] [b,c]=false:=by with_unfolding_all rfl):PT X (.Compare a [op,G] [b,c] pos) (bC5 (ba5 r r' ta tb tc)):=by
 intro Cc s W H Q I h
 refine isTrue_chain (thn (ha Cc s W H _ I h) λ v s1 ⟨x,H1,I1,r1,q1⟩=>test_link (thn (hb Cc s1 W H1 _ I1 q1) λ u s2 ⟨y,H2,I2,Z,q2⟩ =>
  thn (ho Cc s2 W H2 x y v u _ I2 r1 Z q2) λ d s3 ⟨z,H3,Y,r3,k,e,q3⟩=>?_)) hm
 subst e
 cases r3
 refine bP ?_
 cases k with
 | false =>
  obtain⟨k',e',q'⟩:=q3
  cases e'
  exact ite_ff ⟨H3,Y,q'⟩
 | true =>
  refine ite_tt (test_last (thn (hc Cc s3 W H3 _ Y q3) λ w' s4 ⟨z',H4,I4,r4,q4⟩=>thn (J Cc s4 W H4 y z' u w' _ I4 Z r4 q4) λ d' s5 ⟨z2,H5,I5,r5,k2,e2,q5⟩=>?_))
  subst e2
  cases r5
  exact bP ⟨H5,I5,q5⟩
theorem ai2:(aO)<2^63:=by rw[eJ];decide
theorem aR9:OpR X (cG .Add) (λ x y H Q=>∃ i j,x=.str i/\y=.str j/\i.length+j.length<=aO/\Q (.str (i++j)) H):=by
 intro z s W H x y v u Q I G Cc h
 obtain⟨i,j,rfl,rfl,hz,q⟩:=h
 obtain⟨t,rfl⟩:=G
 obtain⟨t',rfl⟩:=Cc
 exact add_str (λ t' tk=>⟨.str (i++j),H,I.tok _,⟨_,rfl⟩,q⟩) hz
theorem qX {us:yG}(r:Vals [x] us):∃ u,us=[u]/\RelV x u:=by
 cases r with
 | cons r1 r2=>cases r2;exact⟨_,rfl,r1⟩
theorem bT4 {us:yG}(r:Vals [x,y] us):∃ u w',us=[u,w']/\RelV x u/\RelV y w':=by
 cases r with
 | cons r1 r2 =>
  cases r2 with
  | cons r3 r4=>cases r4;exact⟨_,_,rfl,r1,r3⟩
theorem bn6:ac2 X (.builtin "abs") (λ y H Q=>∃ i,y=[.int i]/\Q (.int (if i<0 then -i else i)) H):=by
 intro z s W H y us Q I r h
 obtain⟨i,rfl,q⟩:=h
 obtain⟨u,rfl,t,rfl⟩:=qX r
 exact call_abs_int λ u tk=>⟨.int (if i<0 then -i else i),H,I.tok _,⟨_,rfl⟩,q⟩
theorem ba0 (hc:X.calm=true):ac2 X (.builtin "min") (λ y H Q=>∃ i j,y=[.int i,.int j]/\Q (.int (if j<i then j else i)) H):=by
 intro z s W H y us Q I r h
 obtain⟨i,j,rfl,q⟩:=h
 obtain⟨u,w',rfl,⟨t,rfl⟩,⟨t',rfl⟩⟩:=bT4 r
 refine min_two_ints (I.ok.hd hc) λ h' tk k=>⟨_,H,I.kept k,?_,q⟩
 by_cases hj:j<i
 .rw[if_pos hj,if_pos hj];exact⟨_,rfl⟩
 .rw[if_neg hj,if_neg hj];exact⟨_,rfl⟩
theorem aZ2:ac2 X (.type "int") (λ y H Q=>(∃ i,y=[.int i]/\Q (.int i) H)\/∃ k,y=[.bl k]/\Q (.int (if k then 1 else 0)) H):=by
 intro z s W H y us Q I r h
 rcases h with⟨i,rfl,q⟩|⟨k,rfl,q⟩
 .obtain⟨u,rfl,t,rfl⟩:=qX r
  exact call_int_int ⟨.int i,H,I,⟨_,rfl⟩,q⟩
 .obtain⟨u,rfl,r1⟩:=qX r
  cases r1
  exact call_int_bool ⟨.int (if k then 1 else 0),H,I.tok _,⟨_,rfl⟩,q⟩
end
structure ObjM (h:Heap)(x dx Cc:Addr)(mA:yC):Prop where
 obj:h.get? x=some (c7 Cc dx)
 ns:h.Ns1 dx mA
 ne:dx≠x
theorem bd8 {h:Heap}{J:yC}(n:h.Ns1 G J):∃ od,h.get? G=some od/\∀ name,iP name od=some (J name):=by
 obtain⟨o,es,ep,ho,hd,hk,_,Z⟩:=n
 refine⟨o,ho,λ name=>?_⟩
 have e:=Z name
 unfold nsFind findBy at e
 rw[<-Array.find?_toList]at e
 unfold iP
 rw[hd]
 dsimp only
 split
 .rename_i y q
  rw[q]at e
  exact congrArg some e
 .rename_i q
  rw[q]at e
  have a:es.toList.any (·.refKey)=false:=by
   rw[List.any_eq_false]
   intro y hy
   obtain⟨z,t,Cc⟩:=hk y (Array.mem_toList_iff.mp hy)
   simp[DictEntry.refKey,Cc]
  have Y:¬ es.toList.any (·.refKey)=true:=by rw[a];exact aW
  rw[if_neg Y]
  exact congrArg some e
theorem ObjM.look (I:ObjM h x y Cc z):∃ od,PySem.W.InstAt h x (c7 Cc y) Cc (some od)/\∀ name,iP name od=some (z name) :=
 let⟨od,ho,hl⟩:=bd8 I.ns
 ⟨od,⟨I.obj,rfl,rfl,ho⟩,hl⟩
section
variable {prog:aI} {w:World} {A:aX} {E:Value->ai->Prop} {s:ai} {K:ah} {x dx Cc f:Addr} {mA:yC} {name:Str} {v:Value}
end
theorem aS8.some_of (r:aS8 (some v) o):∃ u,o=some u/\RelV v u:=by
 cases o with
 | none=>exact(r).elim
 | some u=>exact⟨u,rfl,r⟩
section
variable {P:aI} {w:World} {H H':Hp} {h h':Heap} {a Cc dx:Addr} {fs fs':List (Str×V)}
theorem bI0 (hok:HOk P w H h)(e:H a=some (.ins Cc dx fs)):∃ y,ObjM h a dx Cc y/\(∀ f,aS8 (fs.lookup f) (y f))/\lE y (fs.map (·.1))/\fs.length<=1000/\H dx=some (.own a):=by
 obtain⟨d,z,ne,ob,y,n,r,q⟩:=(hok a _ e)
 exact⟨y,⟨ob,n,ne⟩,r,q,z,d⟩
end
structure Cls (K:ah)(Cc:Addr):Prop where
 pg:kj K Cc Str.empty=true
 hd:PySem.W.hasDictIn K Cc=true
 po:PySem.W.plainOver K Cc=true
 sa:dr K (.ref Cc) "__setattr__"=some (some (.builtin "object.__setattr__"))
theorem Cls.get {K}(c:Cls K Cc) f :kj K Cc f=true:=c.pg
def ca2 (K:ah)(Cc:Addr)(f:Str):Prop:=dr K (.ref Cc) f=some none
section
variable {X:Cx} {pins:yA} {W:St} {H:Hp} {s:ai} {a Cc dx:Addr} {fs:List (Str×V)} {f:Str} {v:V} {A:aX} {E:Value->ai->Prop}
theorem Inv.made (I:Inv X pins W H s):Inv X pins W (upd (upd H s.heap.objs.size (.own (s.heap.objs.size+1))) (s.heap.objs.size+1) (.ins Cc s.heap.objs.size []))
  { s with heap:=(s.heap.push cw).push (c7 Cc s.heap.objs.size) }:=by
 have e1:(s.heap.push cw).get? s.heap.objs.size=some cw:=aE s.heap rfl
 have e2:=by
  have:=aE (s.heap.push cw) (o:=c7 Cc s.heap.objs.size) rfl
  rwa [bN]at this
 have z:(s.heap.push cw).Ns s.heap.objs.size (λ _=>none):=⟨cw,#[],_,e1,rfl,(λ e he=>absurd he (by simp)),λ _=>rfl⟩
 have h:=I.laid (o:=.own (s.heap.objs.size+1)) (t':=s.toks) (λ b u q=>af _ q) (aj _) ⟨_,e1⟩
 refine h.laid (λ b u q=>af _ q) (lF (bN _ _)) ?_
 have ne:s.heap.objs.size≠s.heap.objs.size+1:=aw (du _)
 refine⟨by rw[za ne,zd],dZ _,ne,e2,λ _=>none,(Heap.Ns1.of_empty z).at λ o q=>af _ q,λ _=>True.intro,λ y hy=>absurd rfl hy⟩
end
section
variable {X:Cx} {o e value:Expr} {f:Str} {pos pos' tpos:Pos} {ta tv:TE}
end
section
variable {X:Cx} {pins:yA} {W:St} {H:Hp} {s:ai} {A:aX} {E:Value->ai->Prop} {Q:Value->ai->Prop} {c:Value} {b:Bool}
inductive TyOf (K:ah)(H:Hp):V->Value->Prop where
 | non:TyOf K H .non (.type "NoneType")
 | bl (x:Bool):TyOf K H (.bl x) (.type "bool")
 | int (i:Int):TyOf K H (.int i) (.type "int")
 | str (x:Str):TyOf K H (.str x) (.type "str")
 | flt (x:UInt64):TyOf K H (.flt x) (.type "float")
 | lst {a:Addr} {xs:List V} (e:H a=some (.lst xs)):TyOf K H (.ref a) (.type "list")
 | frz {a:Addr} {o:Obj} {xs:List V} (e:H a=some (.frz o (.lst xs))):TyOf K H (.ref a) (.type "list")
 | tup {a:Addr} {xs:List V} (e:H a=some (.tup xs)):TyOf K H (.ref a) (.type "tuple")
 | dK {a:Addr} {kvs:List (Key×V)} (e:H a=some (.dK kvs)):TyOf K H (.ref a) (.type "dict")
 | ins {a Cc dx:Addr} {fs:List (Str×V)} (e:H a=some (.ins Cc dx fs)) (cl:Cls K Cc) (ha:dr K (.ref Cc) "__class__"=some (some (.builtin "object.__class__")))
   (hn:jX K (.builtin "object.__class__") "__get__"=some (some (.builtin "getset_descriptor.__get__"))) (htk:kJ K (.builtin "object.__class__")=some true)
   (hm:ls K Cc (.type "object")=some true):TyOf K H (.ref a) (.ref Cc)
theorem qG (I:Inv X pins W H s)(G:RelV x u)(ty:TyOf X.K H x t)(e:cx X.K t c=some b)(h:∀ tk,Q (.bool b) { s with toks:=tk }) :
  wpAny (model X.prog X.w) A (call (.builtin "isinstance") [u,c]) Q E s:=by
 cases ty with
 | non=>cases(show u=Value.none from G);exact b7 PySem.W.kitx_none I.kIn True.intro e (λ z=>nomatch z) h
 | bl y=>cases(show u=Value.bool y from G);exact b7 PySem.W.kitx_bool I.kIn True.intro e (λ z=>nomatch z) h
 | int i=>obtain⟨t,q⟩:=(show ∃ t,u=Value.int i t from G);cases q;exact b7 PySem.W.kitx_int I.kIn True.intro e (λ z=>nomatch z) h
 | str y=>obtain⟨t,q⟩:=(show ∃ t,u=Value.str y t from G);cases q;exact b7 PySem.W.kitx_str I.kIn True.intro e (λ z=>nomatch z) h
 | flt y=>obtain⟨t,q⟩:=(show ∃ t,u=Value.float y t from G);cases q;exact b7 PySem.W.kitx_float I.kIn True.intro e (λ z=>nomatch z) h
 | @lst a xs ea =>
  cases(show u=Value.ref a from G)
  obtain⟨_,_,n,_,Y⟩:=(show ab9 X.prog X.w H s.heap a (.lst xs)from I.hok a _ ea)
  exact b7 jY I.kIn ⟨_,Y,rfl⟩ e (λ z=>nomatch z) h
 | @frz a ob xs ea =>
  cases(show u=Value.ref a from G)
  obtain⟨_,_,_,n,_,Y⟩:=(show ab9 X.prog X.w H s.heap a (.frz ob (.lst xs))from I.hok a _ ea)
  exact b7 jY I.kIn ⟨_,Y,rfl⟩ e (λ z=>nomatch z) h
 | @tup a xs ea =>
  cases(show u=Value.ref a from G)
  obtain⟨_,_,_,p⟩:=(show ab9 X.prog X.w H s.heap a (.tup xs)from I.hok a _ ea)
  obtain⟨o,Y,Z,_⟩:=p
  exact b7 jL I.kIn ⟨o,Y,Z⟩ e (λ z=>nomatch z) h
 | @dK a kvs ea =>
  cases(show u=Value.ref a from G)
  obtain⟨_,_,vs,_,p⟩:=(show ab9 X.prog X.w H s.heap a (.dK kvs)from I.hok a _ ea)
  obtain⟨o,es,ep,Y,Z,_⟩:=p
  exact b7 PySem.W.kitx_dict I.kIn ⟨o,Y,Z.1⟩ e (λ z=>nomatch z) h
 | @ins a Cc dx fs ea cl ha hn htk hm =>
  cases(show u=Value.ref a from G)
  obtain⟨mA,O,_⟩:=bI0 I.hok ea
  obtain⟨od,J,_⟩:=O.look
  exact b7 (PySem.W.kitx_own (cl.get _) cl.hd ha hn htk hm) I.kIn J e (λ z=>nomatch z) h
end
structure Room (k:Nat)(A:aX):Prop where
 hd:A.handled=none
 dp:A.depth+3*k+5<gi
 un:A.units+16*k+200<cLine
theorem Room.mono (r:Room k A)(h:j<=k):Room j A:=⟨r.hd,by have:=r.dp;lia,by have:=r.un;lia⟩
theorem Room.deeper (r:Room (k+1) A) env :Room k (A.deeper env) :=
 ⟨r.hd,by have:=r.dp;show A.depth+1+3*k+5<_;lia,by have:=r.un;show A.units+3+16*k+200<_;lia⟩
theorem Room.in1 (r:Room (k+1) A):Room k A.in1 :=
 ⟨r.hd,by have:=r.dp;show A.depth+3*k+5<_;lia,by have:=r.un;show A.units+1+16*k+200<_;lia⟩
theorem Room.depth (r:Room k A):A.depth<gi:=by have:=r.dp;lia
theorem Room.units (r:Room k A):A.units+64<cLine:=by have:=r.un;lia
theorem Room.units0 (r:Room k A):A.units<cLine:=by have:=r.un;lia
def bf0:TA:=λ _ H Q=>Q [] H
def an7 (ta:TE)(tr:TA):TA:=λ W H Q=>ta W H λ x H1=>tr W H1 λ xs H2=>Q (x::xs) H2
section
variable {X:Cx} {e:Expr} {es:yK} {te:TE} {t:TA} {pos:Pos}
theorem ad4:PA X [] bf0:=λ _ _ _ _ H Q I h=>eQ ⟨[],H,I,.nil,h⟩
theorem zC (ha:PE X e te)(Z:PA X es t)(hs:bf (e::es) X.env=(false,eval e X.env)::bf es X.env:=by rfl):PA X (e::es) (an7 te t):=by
 intro pos y s W H Q I h
 rw[hs]
 refine cW (thn (ha y s W H _ I h) λ u s1 ⟨x,Y,z,r1,G⟩=>?_)
 exact thn (Z pos y s1 W Y _ z G) λ us s2 ⟨Cc,H2,I2,J,q2⟩=>⟨x::Cc,H2,I2,.cons r1 J,q2⟩
def cm2 (t:TA):TE:=λ W H Q=>t W H λ xs H1=>xs.length<=aO/\∀ p,H1 p=none->Q (.ref p) (upd H1 p (.tup xs))
def cq3 (t:TA):TE:=λ W H Q=>t W H λ xs H1=>xs.length<=aO/\∀ p,H1 p=none->Q (.ref p) (upd H1 p (.lst xs))
theorem bW2 (h:PA X es t):PE X (.Tuple es x1 pos) (cm2 t):=by
 intro y s W H Q I hq
 refine wpAny_Tuple_spliced (thn (h pos y s W H _ I hq) λ us s1 ⟨J,G,Cc,r,z,q⟩=>⟨by rw[<-r.length];exact z,?_⟩)
 have Y:=Cc.hok.fresh (aj _)
 refine⟨.ref s1.heap.objs.size,upd G s1.heap.objs.size (.tup J),Cc.laid (λ b u e=>af _ e) (aj _) ?_,rfl,q _ Y⟩
 exact⟨z,us,r,⟨_,aE _ rfl,rfl,_,rfl⟩⟩
theorem bs1 (h:PA X es t):PE X (.List es pos) (cq3 t):=by
 intro y s W H Q I hq
 refine wpAny_List_spliced (thn (h pos y s W H _ I hq) λ us s1 ⟨J,G,Cc,r,z,q⟩=>⟨by rw[<-r.length];exact z,?_⟩)
 have Y:=Cc.hok.fresh (aj _)
 refine⟨.ref s1.heap.objs.size,upd G s1.heap.objs.size (.lst J),Cc.laid (λ b u e=>af _ e) (aj _) ?_,rfl,q _ Y⟩
 exact⟨z,us,0,r,aE _ rfl⟩
end
abbrev Sp:=List V->Hp->VK->XK->Prop
abbrev CXT:=List Env->Hp->ai->XK->Value->ai->Prop
structure Env0 (P:aI)(w:World)(K:ah)(mg:yC)(base:Heap)(A:aX)(outer:List Env)(s:ai)(H:Hp):Prop where
 frames:A.frames=some outer
 mod:Mod K mg base
 bs:∀ b o,base.get? b=some o->s.heap.get? b=some o/\H b=none
 bsz:base.objs.size<=s.heap.objs.size
 funs:s.heap.FunFrames base outer
 frf:∀ b∈frs outer,H b=none
 hok:HOk P w H s.heap
 bare:gD s.gens
def CE (outer:List Env)(P:aI)(w:World)(H:Hp)(s:ai)(Q:VK)(u:Value)(s':ai):Prop :=
 ∃ v H',s'.os=s.os/\gD s'.gens/\Un (frs outer) [] H H' s.heap s'.heap/\HOk P w H' s'.heap/\RelV v u/\Q v H'
def CR (CX:CXT)(outer:List Env)(P:aI)(w:World)(H:Hp)(s:ai)(Q:VK)(E:XK)(r:km)(s':ai):Prop :=
 match r with
 | .ok (.ret u)=>CE outer P w H s Q u s'
 | .ok _=>False
 | .error e=>CX outer H s E e s'
structure FnOk (P:aI)(w:World)(K:ah)(mg:yC)(base:Heap)(CX:CXT)(k:Nat)(f:Addr)(fd:bQ)(ps:yH)(sp:Sp):Prop where
 len:∀ vs H Q E,sp vs H Q E->vs.length=ps.length
 run:∀(A:aX) (outer:List Env) (s:ai) (H:Hp) (args:Args) (us:yG) (vs:List V) (Q:VK) (E:XK),Room k A->Env0 P w K mg base A outer s H->kO s fd args (ps.zip us)->Vals vs us->sp vs H Q E ->
  fx (model P w) A (.call (.ref f) args) (CR CX outer P w H s Q E) s
theorem FnOk.imp {K}(F:FnOk P w K mg base G k f Cc ps sp)
  (h:∀ vs H Q E,z vs H Q E->sp vs H Q E):FnOk P w K mg base G k f Cc ps z :=
 ⟨λ vs H Q E q=>F.len vs H Q E (h _ _ _ _ q),λ A y s H args us vs Q E J he hb hv hs=>F.run A y s H args us vs Q E J he hb hv (h _ _ _ _ hs)⟩
section
variable {X:Cx} {pins:yA} {W:St} {H:Hp} {s s':ai}
theorem Inv.env0 (I:Inv X pins W H s):Env0 X.prog X.w X.K X.mg X.base X.A X.stack s H :=
 ⟨I.ok.frames,I.ok.mod,I.bs,am I.ok.bsz I.sz,I.stack,I.stkFree,I.hok,I.bare⟩
theorem Inv.after (I:Inv X pins W H s)(h:CE X.stack X.prog X.w H s Q u s'):EP X pins W Q u s':=by
 obtain⟨v,H',os,bare,un,hok,r,q⟩:=h
 obtain⟨Cc,g,d,t,y⟩:=s'
 obtain rfl:y=s.os:=os
 exact⟨v,H',I.call un hok bare (λ b z=>absurd z (by simp)),r,q⟩
end
def aS4 (sp:Sp)(dvs:List V)(E:XK)(t:TA):TE:=λ W H Q=>t W H λ vs H1=>sp (vs++dvs) H1 Q E
def Binds (K:ah)(fd:bQ)(ps:yH)(ds:yG):Prop :=
 ∀ s us ,K.In s.heap->(us++ds).length=ps.length->kO s fd ⟨us,[]⟩ (ps.zip (us++ds))
theorem Binds.all {K}(h:∀ us:List Value,us.length=ps.length->d4 y ⟨us,[]⟩=pure (ps.zip us)):Binds K y ps []:=λ s us _ hl=>by
 rw[bp]at hl ⊢
 exact .of_eq (h us hl)
def aL7 (CX:CXT)(X:Cx)(E:XK):Prop:=∀ pins (W:St) H s e s' ,Inv X pins W H s->CX X.stack H s E e s'->X.xe e s'
section
variable {X:Cx} {CX:CXT} {k:Nat} {f Cc:Addr} {fd:bQ} {ps:yH} {sp:Sp} {dvs:List V} {ds:yG} {E:XK} {x m:Str} {p pos apos:Pos} {e o:Expr} {es:yK} {ta:TE} {t:TA}
theorem bu9 {W:St}{us:yG}(F:FnOk X.prog X.w X.K X.mg X.base CX k f fd ps sp)(Cc:Room k X.A)(hb:Binds X.K fd ps ds)(hd:Vals dvs ds)(hx:aL7 CX X E)
  (I:Inv X y W H s) (r:Vals vs us) (h:sp (vs++dvs) H Q E):wpAny (model X.prog X.w) X.A (call (.ref f) us) (EP X y W Q) X.xe s:=by
 have z:=r.append hd
 have hl:(us++ds).length=ps.length:=by rw[<-z.length];exact F.len _ _ _ _ h
 refine jM (eR (F.run X.A X.stack s H ⟨us,[]⟩ (us++ds) (vs++dvs) Q E Cc I.env0 (hb s us I.kIn hl) z h) λ r s' hq=>?_)
 cases r with
 | error e=>exact hx y W H s e s' I hq
 | ok fl =>
  cases fl with
  | ret u=>exact I.after hq
  | next=>exact bM hq
  | brk=>exact bM hq
  | cont=>exact bM hq
theorem by3 (F:FnOk X.prog X.w X.K X.mg X.base CX k f fd ps sp)(G:Room k X.A)(hg:Gl X x)(J:X.mg x=some (.ref f))(hk:cH X.K (.ref f)=true)(hb:Binds X.K fd ps ds)(hd:Vals dvs ds)(hx:aL7 CX X E)
  (ha:PA X (e::es) t) (z:(x==("__debug__":Str))=false:=by decide) (he:bf (e::es) X.env=(false,eval e X.env)::bf es X.env:=by rfl) (hpl:(dR pos (bf es X.env)).any (·.1)=false:=by rfl) :
  PE X (.Call (.Name x p) (e::es) [] pos) (aS4 sp dvs E t):=by
 intro y s W H Q I h
 refine cj (at7 I hg J ?_ z)
 refine jN I.ok.mod.kin hk (thn (ha pos y s W H _ I h) λ us s1 ⟨vs,Y,Cc,r,q⟩=>⟨Cc.kIn,?_⟩) he hpl
 exact bu9 F G hb hd hx Cc r q
theorem bk1 (F:FnOk X.prog X.w X.K X.mg X.base CX k f fd ps sp)(Cc:Room k X.A)(hg:Gl X x)(G:X.mg x=some (.ref f))(hk:cH X.K (.ref f)=true)(hb:Binds X.K fd ps ds)(hd:Vals dvs ds)(hx:aL7 CX X E)
  (y:(x==("__debug__":Str))=false:=by decide):PE X (.Call (.Name x p) [] [] pos) (aS4 sp dvs E bf0):=by
 intro z s W H Q I h
 refine cj (at7 I hg G ?_ y)
 exact PySem.W.callWith_K0 I.kIn hk (bu9 F Cc hb hd hx I .nil h)
structure Mk (K:ah)(Cc f:Addr):Prop where
 makes:PySem.W.makesIn K Cc=true
 init:dr K (.ref Cc) "__init__"=some (some (.ref f))
 fn:PySem.W.isFn K (.ref f)=true
 kp:cH K (.ref Cc)=true
end
section
variable {X:Cx} {CX:CXT} {k:Nat} {f Cc:Addr} {fd:bQ} {ps ks:yH} {sp:Sp} {E:XK} {x m:Str} {p pos apos kpos:Pos} {e o:Expr} {es:yK} {kws:List gF} {te ta:TE} {t tk:TA} {nm:Option Str}
variable {g:List Value->List Value->List Value} {gV:List V->List V->List V}
end
structure FnScope (N P:yH)(sc:Scope):Prop where
 kind:sc.kind=.function
 co:sc.isCoroutine=false
 gen:sc.isGenerator=false
 nd:N.Nodup
 pre:N.take P.length=P
 par:∀ x∈P,sc.names.lookup x=some .local\/sc.names.lookup x=some .cell
 nofree:∀ y∈sc.names,y.2≠.free
theorem aA9 {fi}:∀ {binds} {m:yC},(∀ v,(x,v) ∉ binds)->bindL fi binds m x=m x
 | [],_,_=>rfl
 | (n,v)::r,m,h=>by
  unfold bindL
  rw[aA9 λ w hw=>h w (ar _ hw)]
  split
  .have:x≠n:=by rintro rfl;exact h v az
   simp[this]
  .rfl
theorem aA6 {fi}:∀ {binds} {m:yC},(∀ v,(x,v) ∉ binds)->bindC fi binds m x=m x
 | [],_,_=>rfl
 | (n,v)::r,m,h=>by
  unfold bindC
  rw[aA6 λ w hw=>h w (ar _ hw)]
  split
  .rfl
  .have:x≠n:=by rintro rfl;exact h v az
   simp[this]
theorem af9 {fi}:∀ {P:yH} {vs:yG} {i:Nat} {m:yC},P.Nodup->P[i]?=some x->vs[i]?=some v->fi x=some .local ->
  bindL fi (P.zip vs) m x=some v
 | [],_,_,_,_,h,_,_=>by simp at h
 | _::_,[],_,_,_,_,h,_=>by simp at h
 | p::P,w::vs,0,m,nd,h1,h2,hk=>by
  simp at h1 h2;subst h1;subst h2
  show bindL fi ((p,w)::P.zip vs) m p=_
  unfold bindL
  rw[aA9 λ v hv=>(cJ.mp nd).1 (eF hv).1,if_pos hk]
  simp
 | p::P,w::vs,i+1,m,nd,h1,h2,hk=>by
  unfold bindL
  exact af9 (cJ.mp nd).2 (by simpa using h1) (by simpa using h2) hk
theorem an3 {fi}:∀ {P:yH} {vs:yG} {i:Nat} {m:yC},P.Nodup->P[i]?=some x->vs[i]?=some v->fi x≠some .local ->
  bindC fi (P.zip vs) m x=some v
 | [],_,_,_,_,h,_,_=>by simp at h
 | _::_,[],_,_,_,_,h,_=>by simp at h
 | p::P,w::vs,0,m,nd,h1,h2,hk=>by
  simp at h1 h2;subst h1;subst h2
  show bindC fi ((p,w)::P.zip vs) m p=_
  unfold bindC
  rw[aA6 λ v hv=>(cJ.mp nd).1 (eF hv).1,if_neg hk]
  simp
 | p::P,w::vs,i+1,m,nd,h1,h2,hk=>by
  unfold bindC
  exact an3 (cJ.mp nd).2 (by simpa using h1) (by simpa using h2) hk
noncomputable def ah3 (N:yH)(vs:List V):St:=vs.map some++aC (N.length - vs.length) none
noncomputable def bk8 (CX:CXT)(P:aI)(w:World)(K:ah)(mg:yC)(base:Heap)(N:yH)(qual:Str)(scope:Scope)(f:Addr)(cd:Value)(A:aX)(outer:List Env)(s:ai)(H:Hp)(E:XK):Cx where
 prog:=P
 w:=w
 K:=K
 mg:=mg
 base:=base
 A:=A.deeper (gj qual scope s.heap.objs.size f cd)
 N:=N
 s₀:=s
 H₀:=H
 env:=gj qual scope s.heap.objs.size f cd
 outer:=outer
 stack:=gj qual scope s.heap.objs.size f cd::outer
 ex:=[]
 calm:=true
 fn:=λ _=>true
 pn:=[]
 xe:=λ e s'=>wpAny (model P w) (A.deeper (gj qual scope s.heap.objs.size f cd)) (leaving (gj qual scope s.heap.objs.size f cd) e) (λ _ s''=>CX outer H s E e s'') (λ e' s''=>CX outer H s E e' s'') s'
theorem zS {sc:Scope}(h:sc.names.lookup x=some .cell):∃ c,(aR n sc.names []).lookup x=some c:=by
 have q:=hU sc.names n [] (.inl h)
 exact gP.mp q
theorem be9 {K:ah}{us:yG}{vs:List V}
  (S:FnScope N ps scope) (hd:A.handled=none) (J:Env0 P w K mg base A Cc s H) (hl:vs.length=ps.length) (r:Vals vs us)
  (x:gG s s.heap.objs.size (bindL (gj qual scope s.heap.objs.size f cd).kindOf (ps.zip us) λ _=>none) (aR (s.heap.objs.size+1) scope.names []) (bindC (gj qual scope s.heap.objs.size f cd).kindOf (ps.zip us) λ _=>none) s1) :
  Inv (bk8 CX P w K mg base N qual scope f cd A Cc s H E) [] (ah3 N vs) H s1:=by
 have hpl:ps.length<=N.length:=by have:=congrArg kE S.pre;rw[bG]at this;lia
 obtain⟨h1,tk,rfl,hk⟩:=x.done
 have Y:∀ b:Addr,b ∉ (bk8 CX P w K mg base N qual scope f cd A Cc s H E).ex:=λ b z=>absurd (show b∈([]:List Addr)from z) (by simp)
 refine⟨⟨J.mod,S.kind,rfl,rfl,aj _,λ y z c h1 G=>?_,λ y hy=>?_,λ y c _ h=>?_,λ _=>hd,iQ J.frames,.inr ⟨rfl,rfl⟩,λ b z=>absurd z (Y b),J.bs,J.bsz,λ b _ _=>Y b,λ b z=>absurd z (Y b),J.funs,J.frf⟩,
  rfl,J.bare,Un.kept hk,⟨_,x.toInCall.ns,λ i y v h1 G h3=>?_⟩,λ y c h=>⟨_,x.cell y c h⟩,J.hok.fresh (aj _),λ y c h=>?_,λ p hp=>absurd (show p∈([]:yA)from hp) (by simp),J.hok.kept hk,?_⟩
 .exact hV x.apart (aF h1) (aF G)
 .have hy:scope.names.lookup y=some .cell\/scope.names.lookup y=some .free:=hy
  rcases hy with hy|hy
  .exact zS hy
  .exact absurd rfl (S.nofree _ (aF hy))
 .exact dC (x.above y c (aF h))
 .have hi:i<vs.length:=by
   unfold ah3 at G
   by_cases hi:i<vs.length
   .exact hi
   .rw[aP (by simpa using hi)]at G
    rw[bj]at G
    split at G<;>cases G
  have ha:vs[i]?=some v:=by
   unfold ah3 at G
   rw[aQ (by simpa using hi),ay]at G
   cases e:vs[i]? with
   | none=>rw[e]at G;cases G
   | some a=>rw[e]at G;cases G;rfl
  obtain⟨u,hu,rv⟩:=r.get ha
  have hp:ps[i]?=some y:=by
   rw[<-S.pre,List.getElem?_take_of_lt (by lia)];exact h1
  have Z:ps.Nodup:=by rw[<-S.pre];exact S.nd.sublist (List.take_sublist _ _)
  refine⟨u,rv,?_⟩
  rcases S.par y (aN hp)with k|k
  .exact .inl ⟨k,af9 Z hp hu k⟩
  .obtain⟨c,e⟩:=zS (n:=s.heap.objs.size+1) k
   refine .inr ⟨.inl k,c,e,?_⟩
   have q:=x.cell y c e
   rw[an3 Z hp hu (by show scope.names.lookup y≠_;rw[k];decide)]at q
   exact q
 .exact J.hok.fresh (dC (x.above y c (aF h)))
 .unfold ah3
  show _=N.length
  rw[aD,ax,List.length_replicate]
  lia
theorem bT2 {K:ah}{body:yL}{ kV :Value}{an od:yI}
  {a3:yE} (lk:K.lookup f=some ⟨oc,od,.func (dD name qual params body scope dV kV a0 pm an z ct),a3⟩) (a2:gk K z qual=true) (S:FnScope N ps scope)
  (len:∀ vs H Q E,sp vs H Q E->vs.length=ps.length)
  (Cc:∀(A:aX) (h:List Env) (s:ai) (H:Hp) (vs:List V) (Q:VK) (E:XK),Room k (A.deeper (gj qual scope s.heap.objs.size f z))->sp vs H Q E ->
   ∃ t,PSs (bk8 CX P w K mg base N qual scope f z A h s H E) body t/\t { nx:=λ _ H'=>Q .non H',rt:=Q } (ah3 N vs) H) :
  FnOk P w K mg base CX (k+1) f (dD name qual params body scope dV kV a0 pm an z ct) ps sp:=by
 refine⟨len,λ A h s H args us vs Q E hr Z hb r Y=>?_⟩
 have hl:=len _ _ _ _ Y
 have KX:K.In s.heap:=Z.mod.kin.keeps λ b o e=>(Z.bs b o e).1
 have a1:s.heap.NoLimit:=Z.mod.nolimit.keeps λ b o e=>(Z.bs b o e).1
 have G:∀ y∈ps.zip us,scope.names.lookup y.1=some .local\/(scope.names.lookup y.1=some .cell/\((aR (s.heap.objs.size+1) scope.names []).lookup y.1).isSome=true):=λ⟨n,v⟩ hy=>by
  rcases S.par n (eF hy).1 with q|q
  .exact .inl q
  .exact .inr ⟨q,hU _ _ _ (.inl q)⟩
 refine iC hr.depth (KX _ _ lk) rfl S.co S.gen rfl (PySem.W.codeRec_of KX a2) (hb _ _ _ _ ?_)
 refine wpAny_newFunctionEnv_cells S.kind G λ env he s1 x=>?_
 subst he
 refine⟨a1.keeps x.toInCall.keep,codeAny_func ?_⟩
 obtain⟨t,ht,hq⟩:=Cc A h s H vs Q E (hr.deeper _) Y
 have I:Inv (bk8 CX P w K mg base N qual scope f z A h s H E) [] (ah3 N vs) H s1:=be9 S hr.hd Z hl r x
 refine bU (ht [] s1 (ah3 N vs) H _ I hq) (λ fl s' hs=>?_) λ e s' hs=>hs
 have fin:∀ {W':St} {H':Hp} {v:V} {u:Value},Inv (bk8 CX P w K mg base N qual scope f z A h s H E) [] W' H' s'->RelV v u->Q v H'->CE h P w H s Q u s' :=
  λ {W' H' v u} J rv q=>⟨v,H',J.os,J.bare,J.base,J.hok,rv,q⟩
 cases fl with
 | ret u =>
  obtain⟨v,W',H',J,rv,q⟩:=hs
  exact fin J rv q
 | next =>
  obtain⟨W',H',J,q⟩:=hs
  exact fin (v:=V.non) (u:=Value.none) J rfl q
 | brk =>
  obtain⟨_,_,_,q⟩:=hs
  exact bM q
 | cont =>
  obtain⟨_,_,_,q⟩:=hs
  exact bM q
section
variable {X:Cx} {x:Str} {p pos:Pos} {e:Expr} {es:yK} {t:TA} {id T:String} {r:List V->Hp->VK->Prop}
def tCB (r:List V->Hp->VK->Prop)(t:TA):TE:=λ W H Q=>t W H λ vs H1=>r vs H1 Q
theorem ak2 (hc:ac2 X (.builtin id) r)(hg:Gl X x)(Y:X.mg x=none)(hv:bC x=some (.builtin id))(ha:PA X (e::es) t)(hn:x ≠ "__name__":=by decide)(z:(x==("__debug__":Str))=false:=by decide)
  (he:bf (e::es) X.env=(false,eval e X.env)::bf es X.env:=by rfl) (hpl:(dR pos (bf es X.env)).any (·.1)=false:=by rfl):PE X (.Call (.Name x p) (e::es) [] pos) (tCB r t):=by
 intro y s W H Q I h
 refine cj (am7 I hg Y hv ?_ hn z)
 exact PyProof.Rows.callWith_builtin1 (thn (ha pos y s W H _ I h) λ us s1 ⟨vs,J,Cc,r1,G⟩=>hc y s1 W J vs us Q Cc r1 G) he hpl
theorem al0 (hc:ac2 X (.type T) r)(hg:Gl X x)(Y:X.mg x=none)(hv:bC x=some (.type T))(ha:PA X (e::es) t)(hn:x ≠ "__name__":=by decide)(z:(x==("__debug__":Str))=false:=by decide)
  (he:bf (e::es) X.env=(false,eval e X.env)::bf es X.env:=by rfl) (hpl:(dR pos (bf es X.env)).any (·.1)=false:=by rfl):PE X (.Call (.Name x p) (e::es) [] pos) (tCB r t):=by
 intro y s W H Q I h
 refine cj (am7 I hg Y hv ?_ hn z)
 exact dU (thn (ha pos y s W H _ I h) λ us s1 ⟨vs,J,Cc,r1,G⟩=>hc y s1 W J vs us Q Cc r1 G) he hpl
end
end L2
end
noncomputable section
namespace HT
open PySem PyProof.Rows
section
open PySem.SeqAt
open PySem.AutoSeq1 (wpAny_loadPart')
open PySem.MeetsSeq PySem.MeetsSeq2 PySem.MeetsSeq3
end
section
variable {prog:aI} {w:World} {A:aX} {E:Value->ai->Prop} {s:ai}
theorem cat_tup {vs ws:yG}(ht:IsTup s.heap t vs.toArray)(hb:IsTup s.heap b ws.toArray)(hv:vs≠[])
  (h1:ws=[]->Q (.ref t) s) (h2:ws≠[]->Q (.ref s.heap.objs.size) { s with heap:=s.heap.push { cls:=.type "tuple",data:=.seq (vs++ws).toArray } })
  (hsz:vs.length+ws.length<=aO):wpAny (model prog w) A (cG .Add (.ref t) (.ref b)) Q E s:=by
 obtain⟨⟨cls,dd,data,sl⟩,ho,hc,n,hd⟩:=id ht
 obtain⟨⟨Z,z,J,y⟩,h,Cc,Y,G⟩:=id hb
 simp only at hc hd Cc G
 subst hc hd Cc G
 have e:vs.toArray++ws.toArray=(vs++ws).toArray:=by simp
 by_cases hw:ws=[]
 .exact jZ ⟨_,ho,rfl⟩ ⟨_,h,rfl⟩ gX jB eT eK (eA _ _)
   (tuple_addW1 t b vs.toArray ws.toArray n Y dd z sl y (by simpa using hv) (by simp[hw])) ⟨ho,h,h1 hw⟩
 .refine jZ ⟨_,ho,rfl⟩ ⟨_,h,rfl⟩ gX jB eT eK (eA _ _)
   (tuple_addW2 t b vs.toArray ws.toArray n Y dd z sl y (by simpa using hv) (by simpa using hw) (by rw[aq,aq];exact hsz)) ⟨ho,h,?_⟩
  rw[e]
  exact h2 hw
noncomputable def sIx (n d:Nat):Option Int->Nat
 | none=>d
 | some v=>if v<0 then(v+(n)).toNat else min v.toNat n
theorem sIx_le n d (hd:d<=n) o :sIx n d o<=n:=by
 cases o with
 | none=>exact hd
 | some v =>
  show(if v<0 then(v+(n)).toNat else min v.toNat n)<=n
  by_cases hv:v<0
  .rw[if_pos hv];lia
  .rw[if_neg hv];exact Nat.min_le_right _ _
theorem clip_eq v (n d:Nat):(if v<0 then max (v+(n:Int)) 0 else min v (n))=((sIx n d (some v))):=by
 show(if v<0 then max (v+(n)) 0 else min v (n))=(((if v<0 then(v+(n)).toNat else min v.toNat n)))
 by_cases hv:v<0
 .simp only[if_pos hv];lia
 .simp only[if_neg hv];lia
theorem adjust_gen y h (n:Nat):d8 y h 1 (n)=(((sIx n 0 y):Int),((sIx n n h):Int)):=by
 have z:=by omega
 unfold d8
 simp only[if_false]
 refine Prod.ext ?_ ?_
 .cases y with
  | none=>rfl
  | some v=>exact clip_eq v n 0
 .cases h with
  | none=>rfl
  | some v=>exact clip_eq v n n
theorem places_gen (i j:Nat):c5 (i) (j) 1=j - i:=by
 unfold c5
 have h:=by omega
 simp only[Int.ediv_one]
 split<;>lia
theorem slicePart_ (p:gQ v o)(h:Q o s):wpAny (model prog w) A (kK v) Q E s:=by
 cases p with
 | none=>exact slicePart_none h
 | int i t=>exact slicePart_int h
theorem sliceApplied_gen {Q:Int×Int×Nat->ai->Prop}(hs:s.heap.IsSliceOf sl vl vu .none)(J:gQ vl y)(pu:gQ vu z)
  (h:Q (((sIx n 0 y:Nat):Int),1,sIx n n z - sIx n 0 y) s):wpAny (model prog w) A (gm (.ref sl) (pure (n))) Q E s:=by
 obtain⟨os,G,Y,Cc⟩:=id hs
 unfold gm li
 refine ae (ae (cA G Cc rfl (ae (cA G Cc rfl (ae (cA G Cc rfl (au ?_)))))))
 refine ae (slicePart_none ?_)
 rw[if_neg (by decide)]
 refine ae (slicePart_ J (ae (slicePart_ pu (ae (au ?_)))))
 show wpAny _ _ (match d8 y z 1 (n)with|(y,z)=>pure (y,(1:Int),c5 y z 1)) _ _ s
 rw[adjust_gen y z n]
 show wpAny _ _ (pure (((sIx n 0 y):Int),(1),c5 ((sIx n 0 y)) ((sIx n n z)) 1)) _ _ s
 rw[places_gen]
 exact au h
theorem pick_gen (h:yJ)(i k:Nat):((aH k).filterMap λ(m:Nat)=>h[((i)+(m:Int)*1).toNat]?).toArray=((h.toList.drop i).take k).toArray:=by
 have e:(λ(m:Nat)=>h[((i)+(m:Int)*1).toNat]?)=λ m=>h[i+m]?:=by
  funext m
  have:((i)+(m:Int)*1).toNat=i+m:=by lia
  rw[this]
 rw[e]
 have:=pick_run h i k
 rw[cD]at this
 have e2:((λ x=>h[x]?) ∘ λ x=>i+x)=λ m=>h[i+m]?:=rfl
 rw[e2]at this
 rw[this]
theorem getItem_tuple_cut {y:yJ}(J:IsTup s.heap t y)(hs:s.heap.IsSliceOf sl vl vu .none)(pl:gQ vl Cc)(pu:gQ vu G)
  (hw:¬(sIx y.size 0 Cc=0/\sIx y.size y.size G=y.size))
  (h:Q (.ref s.heap.objs.size) { s with heap:=s.heap.push { cls:=.type "tuple",data:=.seq ((y.toList.drop (sIx y.size 0 Cc)).take (sIx y.size y.size G - sIx y.size 0 Cc)).toArray } })
  (hsz:y.size<=aO):wpAny (model prog w) A (hX (.ref t) (.ref sl)) Q E s:=by
 have z:sizeOk (.seq ((y.toList.drop (sIx y.size 0 Cc)).take (sIx y.size y.size G - sIx y.size 0 Cc)).toArray):=by
  show((y.toList.drop (sIx y.size 0 Cc)).take (sIx y.size y.size G - sIx y.size 0 Cc)).toArray.size<=aO
  rw[aq,bG,fj,dq]
  omega
 have hj:sIx y.size y.size G<=y.size:=sIx_le _ _ (aj _) G
 obtain⟨os,Y,a1,a2⟩:=id hs
 have a0:s.TypeIs (.ref sl) "slice":=⟨os,Y,a1⟩
 unfold hX
 try with_reducible refine cf ?_
 first|refine ae (au ?_)|skip
 refine ae (j0 J.typeIs (by decide) ?_)
 refine ae (cr (name:=bo "__getitem__") J.typeIs bu
  (cq bu J.typeIs jr ?_ (jO _ _)))
 show wpAny _ _ (d5 (.ref t) >>= _) _ _ s
 refine ae (jC J ?_)
 refine ae (hZ a0 ?_)
 rw[if_pos (by decide)]
 refine ae (sliceApplied_gen hs pl pu ?_)
 have Z:¬((((sIx y.size 0 Cc:Nat):Int)==0&&(1:Int)==1&&(sIx y.size y.size G - sIx y.size 0 Cc)==y.size)=true):=by
  intro q
  rw[ak,ak]at q
  have q1:((sIx y.size 0 Cc:Nat):Int)=0:=eq_of_beq q.1.1
  have q2:sIx y.size y.size G - sIx y.size 0 Cc=y.size:=eq_of_beq q.2
  exact hw ⟨by lia,by omega⟩
 show wpAny _ _ (if(((sIx y.size 0 Cc:Nat):Int)==0&&(1:Int)==1&&(sIx y.size y.size G - sIx y.size 0 Cc)==y.size)=true then _ else _) _ _ s
 rw[if_neg Z,pick_gen]
 first
  | exact ae (m:=di _) (bB (au ⟨_,rfl,au h⟩) z)
  | exact ae (m:=di _) (bB (ae (au (au ⟨_,rfl,au h⟩))) z)
  | exact ae (ae (m:=di _) (bB (au (au ⟨_,rfl,au h⟩)) z))
  | exact ae (ae (m:=di _) (bB (au ⟨_,rfl,au h⟩) z))
end
end HT
noncomputable section
namespace L2
open PySem PySem.Spec PyProof.Rows
abbrev TO:=St->Hp->(Option Int->Hp->Prop)->Prop
def PO (X:Cx)(e:Option Expr)(t:TO):Prop :=
 ∀ pins s (W:St) H Q ,Inv X pins W H s->t W H Q ->
  wpAny (model X.prog X.w) X.A (evalPart e X.env) (λ u s'=>∃ o H',Inv X pins W H' s'/\gQ u o/\Q o H') X.xe s
noncomputable def aG0:TO:=λ _ H Q=>Q none H
noncomputable def bb7 (t:TE):TO:=λ W H Q=>t W H λ x H1=>∃ i,x=.int i/\Q (some i) H1
theorem aP6 :∀ {us:yG},Vals (ns.map V.int) us->i7 us ns:=by
 induction ns with
 | nil=>intro us r;rw[dE]at r;cases r;exact .nil
 | cons n ns ih =>
  intro us r
  rw[aS]at r
  cases r with
  | cons r1 r2 =>
   obtain⟨t,e⟩:=r1
   subst e
   exact .cons n t (ih r2)
section
variable {X:Cx} {e:Expr} {te:TE} {lo hi:Option Expr} {tl th:TO} {pos p2:Pos}
theorem bC8:PO X none aG0:=by
 intro y s W H Q I h
 rw[evalPart_none]
 exact au ⟨none,H,I,.none,h⟩
theorem bJ2 (h:PE X e te):PO X (some e) (bb7 te):=by
 intro y s W H Q I hw
 rw[evalPart_some]
 refine thn (h y s W H _ I hw) λ u s1 ⟨x,G,z,r1,Cc⟩=>?_
 obtain⟨i,rfl,q⟩:=Cc
 obtain⟨t,rfl⟩:=r1
 exact⟨some i,G,z,.int i t,q⟩
def SlR (X:Cx)(r:V->Option Int->Option Int->Hp->VK->Prop):Prop :=
 ∀ pins s (W:St) H x v vl vu lo hi sl Q ,Inv X pins W H s->RelV x v->s.heap.IsSliceOf sl vl vu .none->gQ vl lo->gQ vu hi->r x lo hi H Q ->
  ∃ T id,typeLookup (.type T) "__getitem__"=pure (some (.builtin id))/\s.TypeIs v T/\wpAny (model X.prog X.w) X.A (hX v (.ref sl)) (EP X pins W Q) X.xe s
def tSl (r:V->Option Int->Option Int->Hp->VK->Prop)(te:TE)(tl th:TO):TE:=λ W H Q=>te W H λ x H1=>tl W H1 λ l H2=>th W H2 λ u H3=>r x l u H3 Q
theorem br2 (J:SlR X r)(he:PE X e te)(hl:PO X lo tl)(hu:PO X hi th):PE X (.Subscript e (.Slice lo hi none p2) pos) (tSl r te tl th):=by
 intro y s W H Q I h
 refine kT (thn (he y s W H _ I h) λ v s1 ⟨x,G,Y,r1,q1⟩=>?_)
 refine wpAny_Slice (thn (hl y s1 W G _ Y q1) λ vl s2 ⟨l,H2,I2,Z,q2⟩=>thn (hu y s2 W H2 _ I2 q2) λ vu s3 ⟨u,z,Cc,pu,q3⟩=>?_)
 rw[evalPart_none]
 refine au ?_
 have I4:Inv X y W z { s3 with heap:=s3.heap.push { cls:=.type "slice",data:=.fields #[vl,vu,.none] } }:=Cc.kept λ b ob q=>af _ q
 obtain⟨T,id,hT,ht,hg⟩:=J y { s3 with heap:=s3.heap.push { cls:=.type "slice",data:=.fields #[vl,vu,.none] } } W z x v vl vu l u s3.heap.objs.size Q I4 r1 (lU ..) Z pu q3
 exact tail_any ht hT hg (by with_unfolding_all rfl)
noncomputable def aO7 (xs:List V)(lo hi:Option Int):List V:=(xs.drop (HT.sIx xs.length 0 lo)).take (HT.sIx xs.length xs.length hi - HT.sIx xs.length 0 lo)
theorem an5 h z y :(aO7 h z y).length<=h.length:=by
 unfold aO7
 rw[bG,fj]
 lia
def cq0 (K:ah):V->Option Int->Option Int->Hp->VK->Prop:=λ x lo hi H Q=>∃ a xs,x=.ref a/\SqT K H a xs /\
 ¬(HT.sIx xs.length 0 lo=0/\HT.sIx xs.length xs.length hi=xs.length)/\∀ p,H p=none->Q (.ref p) (upd H p (.tup (aO7 xs lo hi)))
theorem bP4:SlR X (cq0 X.K):=by
 intro J s W H x v vl vu Cc G sl Q I Z hs pl pu h
 obtain⟨a,z,rfl,hx,hw,q⟩:=h
 cases Z
 obtain⟨its,r,Y,hz⟩:=I.tuple hx
 have y:its.toArray.size=z.length:=by rw[aq];exact r.length.symm
 refine⟨"tuple",_,bu.lookup,Y.typeIs,?_⟩
 refine HT.getItem_tuple_cut Y hs pl pu (by rw[y];exact hw) ?_ (by rw[y];exact hz)
 rw[y]
 refine⟨.ref s.heap.objs.size,_,I.laid (λ b ob q=>af _ q) (aj _) ?_,rfl,q _ (I.hok.fresh (aj _))⟩
 exact⟨am (an5 z Cc G) hz,_,(r.drop (HT.sIx z.length 0 Cc)).take (HT.sIx z.length z.length G - HT.sIx z.length 0 Cc),ko _ _⟩
def cf8 (K:ah):R2:=λ x y H Q=>∃ a b xs ys,x=.ref a/\y=.ref b/\SqT K H a xs/\SqT K H b ys/\xs≠[]/\xs.length+ys.length<=aO /\
 (ys=[]->Q (.ref a) H)/\(ys≠[]->∀ p,H p=none->Q (.ref p) (upd H p (.tup (xs++ys))))
theorem Vals.nil_iff {us:yG}(r:Vals h us):us=[]↔h=[]:=by
 cases r with
 | nil=>simp
 | cons _ _=>simp
theorem bC6:OpR X (cG .Add) (cf8 X.K):=by
 intro G s W H x y v u Q I Z ry h
 obtain⟨a,b,xs,ys,rfl,rfl,ha,hb,hx,hz,q1,q2⟩:=h
 cases Z
 cases ry
 obtain⟨its,r1,p1,_⟩:=I.tuple ha
 obtain⟨J,Cc,Y,_⟩:=I.tuple hb
 refine HT.cat_tup p1 Y (λ z=>hx (r1.nil_iff.mp z)) (λ z=>⟨.ref a,H,I,rfl,q1 (Cc.nil_iff.mp z)⟩) (λ z=>?_) (by rw[<-r1.length,<-Cc.length];exact hz)
 refine⟨.ref s.heap.objs.size,_,I.laid (λ b ob q=>af _ q) (aj _) ?_,rfl,q2 (λ w=>z (Cc.nil_iff.mpr w)) _ (I.hok.fresh (aj _))⟩
 exact⟨by rw[aD];exact hz,_,r1.append Cc,ko _ _⟩
end
noncomputable def ixN (n:Nat)(i:Int):Option Nat:=if 0<=i then(if i<n then some i.toNat else none)else if -(n)<=i then some (i+n).toNat else none
noncomputable def atI {α:Type}(xs:List α)(i:Int):Option α:=(ixN xs.length i).bind λ j=>xs[j]?
theorem aZ9 (h:ixN n i=some j):lA i n=some j/\j<n/\-(n)<=i/\i<n:=by
 unfold ixN at h
 by_cases h0:0<=i
 .rw[if_pos h0]at h
  by_cases h1:i<n
  .rw[if_pos h1]at h
   have e:=aA h
   exact⟨by rw[kF h0 h1,e],by lia,by lia,h1⟩
  .rw[if_neg h1]at h;cases h
 .rw[if_neg h0]at h
  by_cases h1:-(n)<=i
  .rw[if_pos h1]at h
   have e:=aA h
   exact⟨by rw[j2 (by lia) h1,e],by lia,h1,by lia⟩
  .rw[if_neg h1]at h;cases h
theorem as6 (h:atI y i=some v):∃ j,lA i y.length=some j/\y[j]?=some v/\j<y.length/\-(y.length)<=i/\i<y.length:=by
 unfold atI at h
 cases e:ixN y.length i with
 | none=>rw[e]at h;cases h
 | some j =>
  rw[e]at h
  obtain⟨G,z,Cc,h4⟩:=aZ9 e
  exact⟨j,G,h,z,Cc,h4⟩
def bf9 (b:Expr):Prop:=∀ o i,subscripted b false o i=operate [o,i] (hX o i)
def IxR (X:Cx)(r:R2):Prop :=
 ∀ value slice pins s (W:St) H x y v u Q ,Inv X pins W H s->RelV x v->RelV y u->r x y H Q ->
  subscripted slice false v u=operate [v,u] (hX v u)->wpAny (model X.prog X.w) X.A (subscriptTail value slice v u) (EP X pins W Q) X.xe s
def MtR (X:Cx)(id:String)(r:V->List V->Hp->VK->Prop):Prop :=
 ∀ pins s (W:St) H x xs v (us:yG) Q ,Inv X pins W H s->RelV x v->Vals xs us->r x xs H Q ->
  wpAny (model X.prog X.w) X.A (call (.builtin id) (v::us)) (EP X pins W Q) X.xe s
section
variable {X:Cx} {a b:Expr} {ta tb:TE} {pos:Pos}
theorem ch1 (G:IxR X r)(ha:PE X a ta)(hb:PE X b tb)(hs:bf9 b):PE X (.Subscript a b pos) (tOp r ta tb):=by
 intro z s W H Q I h
 exact kT (ck2 ha hb I h λ v u s2 x y H2 I2 J Cc q=>G a b z s2 W H2 x y v u Q I2 J Cc q (hs _ _))
def cm9 (K:ah):R2:=λ x y H Q=>∃ p xs i v,x=.ref p/\y=.int i/\SqL K H p xs/\atI xs i=some v/\Q v H
def cm3 (K:ah):R2:=λ x y H Q=>∃ p xs i v,x=.ref p/\y=.int i/\SqT K H p xs/\atI xs i=some v/\Q v H
def cp2:R2:=λ x y H Q=>∃ z i c,x=.str z/\y=.int i/\z.length<=aO/\atI z.cps.toList i=some c/\Q (.str ⟨#[c]⟩) H
theorem bI1:IxR X (cm9 X.K):=by
 intro a0 Z Cc s W H x y v u Q I rx ry h hs
 obtain⟨p,xs,i,z,rfl,rfl,hq,he,q⟩:=h
 cases rx
 obtain⟨t,rfl⟩:=ry
 obtain⟨its,r,Y,hz⟩:=I.list hq
 obtain⟨j,G,h2,h3,h4,h5⟩:=as6 he
 obtain⟨w,ew,J⟩:=r.get h2
 have hl:=r.length
 have hn:=ai2
 have fin:EP X Cc W Q w s:=⟨z,H,I,J,q⟩
 by_cases h0:0<=i
 .have hj:=by
   rw[kF h0 h5]at G
   exact aA G
  exact item_listR Y.isList h0 (by lia) (by rw[hj];simpa using ew) fin hs
 .have hj:(i+(its.toArray.size)).toNat=j:=by
   rw[j2 (by lia) h4]at G
   rw[aq,<-hl]
   exact aA G
  exact eU Y.isList.typeIs j3.lookup
   (wpAny_getItem_list_neg Y.isList (by omega) (by rw[aq]<;>lia) (by lia) (by rw[hj];simpa using ew) ⟨rfl,fin⟩) hs
theorem ix_tup:IxR X (cm3 X.K):=by
 intro Y J Cc s W H x y v u Q I rx ry h hs
 obtain⟨p,xs,i,z,rfl,rfl,hq,he,q⟩:=h
 cases rx
 obtain⟨t,rfl⟩:=ry
 obtain⟨its,r,Z,hz⟩:=I.tuple hq
 obtain⟨j,h1,h2,h3,h4,h5⟩:=as6 he
 obtain⟨w,ew,G⟩:=r.get h2
 have hl:=r.length
 have hn:=ai2
 have fin:EP X Cc W Q w s:=⟨z,H,I,G,q⟩
 exact eU Z.typeIs bu.lookup
  (getItem_tuple Z (by lia) (by lia) (by rw[aq,<-hl];exact h1) (by simpa using ew) ⟨rfl,fin⟩) hs
theorem ix_str:IxR X cp2:=by
 intro G Cc J s W H x y v u Q I Z ry h hs
 obtain⟨z,i,c,rfl,rfl,hz,he,q⟩:=h
 obtain⟨t,rfl⟩:=Z
 obtain⟨t',rfl⟩:=ry
 obtain⟨j,Y,h2,h3,h4,h5⟩:=as6 he
 have hl:z.cps.toList.length=z.length:=by simp[Str.length]
 rw[hl]at Y h4 h5
 have hn:=ai2
 exact tail_any (kU s z t) slot_str_getitem.lookup (getItem_str (by
  have e1:decide (i < -(2^63))=false:=decide_eq_false (by lia)
  have e2:decide (i ≥ 2^63)=false:=decide_eq_false (by lia)
  rw[e1,e2,Bool.or_false]) (by rw[Y];simpa using h2) ⟨.str ⟨#[c]⟩,H,I.tok _,⟨_,rfl⟩,q⟩) hs
theorem aP2 (its:yG) n j  u :fm (·.setIfInBounds j u) { cls:=.type "list",data:=.seq its.toArray n }={ cls:=.type "list",data:=.seq (its.set j u).toArray n }:=by
 simp[fm]
theorem Inv.lst {W:St}(I:Inv X y W H s)(h:H p=some (.lst Cc)) :
  ∃(its:yG) (n:Nat),Vals Cc its/\s.heap.get? p=some { cls:=.type "list",data:=.seq its.toArray n }/\Cc.length<=aO:=by
 obtain⟨z,its,n,r,e⟩:=I.hok p _ h
 exact⟨its,n,r,e,z⟩
theorem Inv.lstUpd {W:St}{its its':yG}(I:Inv X y W H s)(h:H p=some (.lst G))
  (ho:s.heap.get? p=some { cls:=.type "list",data:=.seq its.toArray n }) (Cc:f { cls:=.type "list",data:=.seq its.toArray n }={ cls:=.type "list",data:=.seq its'.toArray z }) (r:Vals ys its') (hz:ys.length<=aO)  t  :
  Inv X y W (upd H p (.lst ys)) { s with heap:=s.heap.update p f,toks:=t }:=by
 have e:(s.heap.update p f).get? p=some { cls:=.type "list",data:=.seq its'.toArray z }:=by
  rw[cB f ho (by rw[Cc]<;>rfl),Cc]
 refine I.write (by rw[h];trivial) (.inl rfl) (λ b u hb q=>(aY _ _ (bH hb)).trans q) ⟨_,e⟩ ?_
 exact⟨hz,its',z,r,e⟩
def ce4:V->V->V->Hp->(Hp->Prop)->Prop:=λ o i v H Q=>∃ p xs k j,o=.ref p/\i=.int k/\H p=some (.lst xs)/\ixN xs.length k=some j/\Q (upd H p (.lst (xs.set j v)))
theorem bi3:ch7 X ce4:=by
 intro y s W H o i v ov iv u Q I Y J rv h
 obtain⟨p,Z,k,j,rfl,rfl,hp,hj,q⟩:=h
 cases Y
 obtain⟨t,rfl⟩:=J
 obtain⟨its,n,r,ho,hz⟩:=I.lst hp
 obtain⟨z,h2,Cc,h4⟩:=aZ9 hj
 have hl:=r.length
 have hn:=ai2
 have G :=
  I.lstUpd hp ho (aP2 its n j u) (r.set rv j) (by rw[aU];exact hz) s.toks
 by_cases h0:0<=k
 .have hk:=by
   rw[kF h0 h4]at z
   exact aA z
  exact PySem.W.ki_setAt ho h0 (by lia) (by rw[aq,<-hl];exact h4) (by rw[hk];exact⟨_,G,q⟩)
 .have hk:(k+(its.toArray.size)).toNat=j:=by
   rw[j2 (by lia) Cc]at z
   rw[aq,<-hl]
   exact aA z
  exact PySem.W.ki_setBack ho (by omega) (by rw[aq,<-hl];exact Cc) (by lia) (by rw[hk];exact⟨_,G,q⟩)
theorem aB4 z y n :(eM z y none n).1=((HT.sIx n 0 z))/\(eM z y none n).2.1=((HT.sIx n n y))/\(eM z y none n).2.2=1:=by
 refine⟨?_,?_,rfl⟩
 .cases z with
  | none=>simp[eM,HT.sIx]
  | some i =>
   simp only[eM,HT.sIx,kq,if_true]
   by_cases h:i<0
   .simp only[h,if_true]<;>lia
   .simp only[h,if_false]<;>lia
 .cases y with
  | none=>simp[eM,HT.sIx]
  | some i =>
   simp only[eM,HT.sIx,kq,if_true]
   by_cases h:i<0
   .simp only[h,if_true]<;>omega
   .simp only[h,if_false]<;>omega
theorem av0 (its:yG) h y :slicePick its.toArray h y none=((its.drop (HT.sIx its.length 0 h)).take (HT.sIx its.length its.length y - HT.sIx its.length 0 h)).toArray:=by
 obtain⟨G,z,Cc⟩:=aB4 h y its.toArray.size
 unfold slicePick
 rw[G,z,Cc]
 simp only[sliceRange_one,pick_run]<;>rfl
def cm4 (K:ah):V->Option Int->Option Int->Hp->VK->Prop:=λ x lo hi H Q=>∃ a xs,x=.ref a/\SqL K H a xs/\∀ p,H p=none->Q (.ref p) (upd H p (.lst (aO7 xs lo hi)))
theorem bC2:SlR X (cm4 X.K):=by
 intro J s W H x v vl vu Cc G sl Q I Z hs pl pu h
 obtain⟨a,y,rfl,hx,q⟩:=h
 cases Z
 obtain⟨its,r,Y,hz⟩:=I.list hx
 have z:=r.length
 refine⟨"list",_,j3.lookup,Y.isList.typeIs,?_⟩
 refine wpAny_getItem_list_slice Y.isList hs pl pu .none (by simp) ?_ (by rw[aq]<;>lia)
 rw[av0,<-z]
 refine⟨.ref s.heap.objs.size,_,I.laid (λ b ob q=>af _ q) (aj _) ?_,rfl,q _ (I.hok.fresh (aj _))⟩
 exact⟨am (an5 y Cc G) hz,_,0,(r.drop (HT.sIx y.length 0 Cc)).take (HT.sIx y.length y.length G - HT.sIx y.length 0 Cc),aE _ rfl⟩
theorem aB1:ac2 X (.builtin "len") (λ G H Q=>∃ p ys,G=[.ref p]/\(SqL X.K H p ys\/SqT X.K H p ys)/\Q (.int ys.length) H):=by
 intro J s W H G us Q I r h
 obtain⟨p,ys,rfl,hq,q⟩:=h
 obtain⟨u,rfl,Y⟩:=qX r
 cases Y
 have hn:=ai2
 rcases hq with hq|hq
 .obtain⟨its,Cc,z,hz⟩:=I.list hq
  have y:=Cc.length
  exact Calls.call_len_list z.isList (by simp only[aq]<;>lia) ⟨.int ys.length,H,I.tok _,⟨s.toks+1,by rw[aq,y]⟩,q⟩
 .obtain⟨its,Cc,z,hz⟩:=I.tuple hq
  have y:=Cc.length
  exact len_tuple z (by simp only[aq]<;>omega) ⟨.int ys.length,H,I.tok _,⟨s.toks+1,by rw[aq,y]⟩,q⟩
theorem aB0:ac2 X (.builtin "len") (λ y H Q=>∃ z,y=[.str z]/\z.length<=aO/\Q (.int z.length) H):=by
 intro Cc s W H y us Q I r h
 obtain⟨z,rfl,hz,q⟩:=h
 obtain⟨u,rfl,t,rfl⟩:=qX r
 have hn:=ai2
 exact len_str (by lia) ⟨.int z.length,H,I.tok _,⟨_,rfl⟩,q⟩
theorem ac2.or (h:ac2 X f r)(h':ac2 X f G):ac2 X f (λ z H Q=>r z H Q\/G z H Q):=by
 intro y s W H z us Q I Cc q
 rcases q with q|q
 .exact h y s W H z us Q I Cc q
 .exact h' y s W H z us Q I Cc q
theorem ay4:ac2 X (.type "list") (λ Y H Q=>∃ p ys,Y=[.ref p]/\(SqL X.K H p ys\/SqT X.K H p ys)/\∀ l,H l=none->Q (.ref l) (upd H l (.lst ys))):=by
 intro G s W H Y us Q I r h
 obtain⟨p,ys,rfl,hq,q⟩:=h
 obtain⟨u,rfl,rx⟩:=qX r
 cases rx
 have fin:∀ its ,Vals ys its->ys.length<=aO->∀ h' z ,(∀ b Z,s.heap.get? b=some Z->h'.get? b=some Z) ->
   h'.get? s.heap.objs.size=some { cls:=.type "list",dict:=none,data:=.seq its.toArray z,slots:=#[] }->EP X G W Q (.ref s.heap.objs.size) { s with heap:=h' }:=λ its y hz h' z kp e =>
  ⟨.ref s.heap.objs.size,_,I.laid kp (aj _) (show ab9 X.prog X.w _ h' _ (.lst ys)from⟨hz,its,z,y,e⟩),rfl,q _ (I.hok.fresh (aj _))⟩
 rcases hq with hq|hq
 .obtain⟨its,y,J,hz⟩:=I.list hq
  have Cc:=y.length
  obtain⟨o,ho,hc,n,hd⟩:=J.isList
  exact call_list_seq p (.inl rfl) ho hc hd (λ h' z kp e=>fin its y hz h' z kp e) (by simp only[aq]<;>omega)
 .obtain⟨its,y,J,hz⟩:=I.tuple hq
  have Cc:=y.length
  obtain⟨o,ho,hc,n,hd⟩:=J
  exact call_list_seq p (.inr rfl) ho hc hd (λ h' z kp e=>fin its y hz h' z kp e) (by simp only[aq]<;>omega)
theorem aw4:ac2 X (.type "tuple") (λ Y H Q=>∃ p ys,Y=[.ref p]/\((SqL X.K H p ys/\∀ l,H l=none->Q (.ref l) (upd H l (.tup ys)))\/(SqT X.K H p ys/\Q (.ref p) H))):=by
 intro y s W H Y us Q I r h
 obtain⟨p,ys,rfl,h⟩:=h
 obtain⟨u,rfl,Z⟩:=qX r
 cases Z
 rcases h with⟨hq,q⟩|⟨hq,q⟩
 .obtain⟨its,Cc,z,hz⟩:=I.list hq
  have G:=Cc.length
  refine call_tuple_list z.isList (λ h' kp=>?_) (by simp only[aq]<;>omega)
  have J:=I.kept (t':=s.toks) kp
  have I2 :=
   J.laid (t':=s.toks) (λ b o e=>af _ e) (aj _) (show ab9 X.prog X.w _ _ _ (.tup ys)from⟨hz,its,Cc,ko _ _⟩)
  exact⟨.ref h'.objs.size,_,I2,rfl,q _ (J.hok.fresh (aj _))⟩
 .obtain⟨its,Cc,z,hz⟩:=I.tuple hq
  exact call_tuple_same z ⟨.ref p,H,I,rfl,q⟩
def tyV (K:ah)(T:String)(x:V)(H:Hp):Prop:=match x with
 | .str _=>T = "str"
 | .int _=>T = "int"
 | .ref p=>(T = "list"/\∃ xs,SqL K H p xs)\/(T = "tuple"/\∃ o,K.lookup p=some o/\o.cls=.type "tuple"/\o.dict=none) \/
   (T = "dict"/\((∃ kvs,H p=some (.dK kvs))))
 | _=>False
theorem bs2 {W:St}(I:Inv X h W H s)(r:RelV x v)(y:tyV X.K T x H) :
  s.TypeIs v T/\∀ a,v=.ref a->∃ ob,s.heap.get? a=some ob/\ob.dict=none:=by
 cases x with
 | str z =>
  obtain⟨t,rfl⟩:=r
  cases(y)
  exact⟨kU s z t,λ _ e=>nomatch e⟩
 | int i =>
  obtain⟨t,rfl⟩:=r
  cases(y)
  exact⟨ib s i t,λ _ e=>nomatch e⟩
 | ref p =>
  cases r
  rcases y with⟨rfl,G,hq⟩|⟨rfl,o,hk,hc,hd⟩|⟨rfl,kvs,hk⟩
  .obtain⟨its,_,Cc,_⟩:=I.list hq
   refine⟨Cc.isList.typeIs,λ a e=>?_⟩
   cases e
   obtain⟨o,n,e,c,hd,_⟩:=Cc
   exact⟨o,e,hd⟩
  .refine⟨⟨o,I.kIn p o hk,hc⟩,λ a e=>?_⟩
   cases e
   exact⟨o,I.kIn _ o hk,hd⟩
  .obtain⟨_,_,_,_,o,_,_,e,ex,_⟩:=I.hok p _ hk
   refine⟨⟨o,e,ex.1⟩,λ a e2=>?_⟩
   cases e2
   exact⟨o,e,ex.2.1⟩
 | _=>exact bM y
def cm0 (K:ah)(T:String)(r:V->List V->Hp->VK->Prop)(to:TE):TE:=λ W H Q=>to W H λ x H1=>tyV K T x H1/\r x [] H1 Q
def tBM (K:ah)(T:String)(r:V->List V->Hp->VK->Prop)(to:TE)(t:TA):TE:=λ W H Q=>to W H λ x H1=>tyV K T x H1/\t W H1 λ xs H2=>r x xs H2 Q
variable {o e:Expr} {es:yK} {to:TE} {t:TA} {name:Str} {apos cpos:Pos} {T id:String} {r:V->List V->Hp->VK->Prop}
theorem bO7 (pa:kW T)(slot:Slot T name id)(G:typeOf (.builtin id)=pure (.type "method_descriptor"))(hm:MtR X id r)(ho:PE X o to)
  (Cc:eB o name X.env (eval o X.env)=eval o X.env:=by rfl) (z:(apos.endLine==cpos.line)=true:=by rfl):PE X (.Call (.Attribute o name apos) [] [] cpos) (cm0 X.K T r to):=by
 intro y s W H Q I h
 refine wpAny_Call_method0_late Cc z (thn (ho y s W H _ I h) λ v s1 ⟨x,H1,J,r1,ty,Z⟩=>?_)
 obtain⟨h1,Y⟩:=bs2 J r1 ty
 exact⟨T,id,pa,slot,G,h1,Y,cO rfl (PySem.evalArgs_none (hm y s1 W H1 x [] v [] Q J r1 .nil Z))⟩
theorem cg2 (pa:kW T)(slot:Slot T name id)(Y:typeOf (.builtin id)=pure (.type "method_descriptor"))(hm:MtR X id r)(ho:PE X o to)(ha:PA X (e::es) t)
  (Cc:eB o name X.env (eval o X.env)=eval o X.env:=by rfl)
  (J:((dR cpos (bf (e::es) X.env)).all (λ x=>!x.1)&&(kX cpos (iR [] X.env)).all (λ x=>x.1.isSome)
   && decide ((e::es).length+([]:List gF).length+(if([]:List gF).isEmpty then 0 else 1)<30))=true:=by rfl)
  (G:(apos.endLine==cpos.line)=true:=by rfl) (hs:bf (e::es) X.env=(false,eval e X.env)::bf es X.env:=by rfl) (z:(dR cpos (bf es X.env)).any (·.1)=false:=by rfl) :
  PE X (.Call (.Attribute o name apos) (e::es) [] cpos) (tBM X.K T r to t):=by
 intro y s W H Q I h
 refine wpAny_Call_method_late Cc J G rfl (thn (ho y s W H _ I h) λ v s1 ⟨x,H1,Z,r1,ty,q1⟩=>?_)
 obtain⟨h1,h2⟩:=bs2 Z r1 ty
 refine⟨T,id,pa,slot,Y,h1,h2,?_⟩
 have hA:=ha cpos y s1 W H1 _ Z q1
 rw[hs]at hA ⊢
 refine cO (by show(false||(dR cpos (bf es X.env)).any (·.1))=false;rw[z]<;>rfl) (d6 ?_)
 exact thn hA λ us s2 ⟨vs,H2,I2,r2,q2⟩=>hm y s2 W H2 x vs v us Q I2 r1 r2 q2
end
def MtM (X:Cx)(id:String)(r:V->List V->Hp->VK->Prop):Prop :=
 ∀ pins s (W:St) H x xs v (us:yG) Q ,Inv X pins W H s->RelV x v->Vals xs us->r x xs H Q ->
  wpAny (model X.prog X.w) X.A (call (.builtin id) (v::us)) (EP X pins W Q) X.xe s
theorem Vals.one:∀ {x} {us:yG},Vals [x] us->∃ u,us=[u]/\RelV x u
 | _,_,.cons r .nil=>⟨_,rfl,r⟩
theorem Vals.zero:∀ {us:yG},Vals [] us->us=[]
 | _,.nil=>rfl
theorem Vals.rep {us:yG}(h:Vals y us):∀ k:Nat,Vals (aC k y).flatten (aC k us).flatten
 | 0=>.nil
 | k+1=>by
  rw[bT,bT,c9,c9]
  exact Vals.append h (Vals.rep h k)
theorem aC0 (its:yG):∀ k (h:yG),
  kY (λ x1 x2=>x1++x2) h.toArray (aC k its.toArray)=(h++(aC k its).flatten).toArray
 | 0,h=>by simp
 | k+1,h=>by
  have e:h.toArray++its.toArray=(h++its).toArray:=by simp
  have e2:(h++its)++(aC k its).flatten=h++(aC (k+1) its).flatten:=by
   rw[bT,c9,aM]
  rw[<-e2,<-aC0 its k (h++its),<-e,bT,dI]
section
variable {X:Cx} {pins:yA} {W:St} {H:Hp} {s:ai} {l b:Addr} {xs ys zs:List V}
theorem Inv.lset {its its':yG}(I:Inv X pins W H s)(h:H l=some (.lst xs))
  (e:s.heap.get? l=some { cls:=.type "list",data:=.seq its.toArray n }) (y:f its.toArray=its'.toArray) (hv:Vals ys its') (hz:ys.length<=aO) :
  Inv X pins W (upd H l (.lst ys)) { s with heap:=s.heap.update l (fm f),toks:=t' }:=by
 have q:=PySem.IsL.update e f
 rw[y]at q
 refine I.write (by rw[h];exact trivial) (.inl rfl) (λ z u hb hu=>(aY s.heap (fm f) (bH hb)).trans hu) ⟨_,q⟩ ?_
 exact⟨hz,its',_,hv,q⟩
theorem Inv.lnew {its:yG}(I:Inv X pins W H s)(hv:Vals ys its)(hz:ys.length<=aO) :
  Inv X pins W (upd H s.heap.objs.size (.lst ys)) { s with heap:=s.heap.push { cls:=.type "list",data:=.seq its.toArray },toks:=t' } :=
 I.laid (λ _ _ q=>af _ q) (aj _) ⟨hz,its,0,hv,aE _ rfl⟩
theorem Inv.fresh (I:Inv X pins W H s):H s.heap.objs.size=none:=I.hok.fresh (aj _)
theorem Inv.lstM (I:Inv X pins W H s)(h:H l=some (.lst xs)):xs.length<=aO/\∃(its:yG) (n:Nat),Vals xs its/\xs.length=its.length/\s.heap.get? l=some { cls:=.type "list",data:=.seq its.toArray n }:=by
 obtain⟨z,its,n,r,e⟩:=I.hok l _ h
 exact⟨z,its,n,r,r.length,e⟩
theorem aJ2 (h:n<=aO):dj n=false:=by
 unfold dj
 exact decide_eq_false (by lia)
end
section
variable {X:Cx}
def bz4:V->List V->Hp->VK->Prop:=λ x vs H Q=>∃ l xs y,x=.ref l/\vs=[y]/\H l=some (.lst xs)/\xs.length<aO/\Q .non (upd H l (.lst (xs++[y])))
theorem az4:MtM X "list.append" bz4:=by
 intro Cc s W H x vs v us Q I J rv h
 obtain⟨l,Z,y,rfl,rfl,G,hz,q⟩:=h
 cases J
 obtain⟨u,rfl,Y⟩:=rv.one
 obtain⟨z,its,n,r,hl,e⟩:=I.lstM G
 refine ic iD ⟨_,e,rfl⟩ F.entry_list_append (F.args_list_append_2 _ _) (PySem.list_append l its.toArray n u (by rw[aq];lia)) ⟨e,?_⟩
 refine⟨.non,_,I.lset G e (by simp) (r.append (.cons Y .nil)) ?_,rfl,q⟩
 rw[aD,bK]
 lia
def bK2:V->List V->Hp->VK->Prop:=λ x vs H Q=>∃ l b xs zs,x=.ref l/\vs=[.ref b]/\H l=some (.lst xs)/\H b=some (.lst zs)/\xs.length+zs.length<=aO/\Q .non (upd H l (.lst (xs++zs)))
theorem aV6:MtM X "list.extend" bK2:=by
 intro G s W H x vs v us Q I Z rv h
 obtain⟨l,b,xs,zs,rfl,rfl,J,hB,hz,q⟩:=h
 cases Z
 obtain⟨u,rfl,ru⟩:=rv.one
 cases ru
 obtain⟨z,its,n,r,hl,e⟩:=I.lstM J
 obtain⟨z2,y,n2,Y,a0,e2⟩:=I.lstM hB
 have hsz:its.toArray.size+y.toArray.size<=aO:=by rw[aq,aq];lia
 have Cc:¬(!its.toArray.isEmpty&&dj (its.toArray.size+y.toArray.size))=true:=by
  rw[aJ2 hsz,Bool.and_false]
  exact aW
 refine ic iE ⟨_,e,rfl⟩ F.entry_list_extend (F.args_list_extend_2 _ _)
  (AutoSeq1.list_extend_list_list_0 l its.toArray n b y.toArray n2 Cc (by rw[aq];lia) (by lia)) ⟨e,e2,?_⟩
 refine⟨.non,_,I.lset J e (by simp) (r.append Y) ?_,rfl,q⟩
 rw[aD]
 omega
def co8:R2:=λ x y H Q=>∃ l b xs zs,x=.ref l/\y=.ref b/\H l=some (.lst xs)/\H b=some (.lst zs)/\xs.length+zs.length<=aO/\∀ p,H p=none->Q (.ref p) (upd H p (.lst (xs++zs)))
theorem ca8:OpR X (cG .Add) co8:=by
 intro G s W H x y v u Q I Z ry h
 obtain⟨l,b,xs,zs,rfl,rfl,hH,hB,hz,q⟩:=h
 cases Z
 cases ry
 obtain⟨z,its,n,r,hl,e⟩:=I.lstM hH
 obtain⟨z2,Cc,n2,Y,a0,e2⟩:=I.lstM hB
 refine PySem.P.add_list e e2 ?_ (by rw[aq,aq];omega)
 have J:its.toArray++Cc.toArray=(its++Cc).toArray:=by simp
 rw[J]
 exact⟨.ref _,_,I.lnew (r.append Y) (by rw[aD];omega),rfl,q _ I.fresh⟩
def co3:R2:=λ x y H Q=>∃ l k xs,x=.ref l/\y=.int k/\H l=some (.lst xs)/\-(2^63)<=k/\k<2^63/\xs.length*k.toNat<=aO /\
 ∀ p,H p=none->Q (.ref p) (upd H p (.lst (aC k.toNat xs).flatten))
theorem bH2 {α:Type}(h:List α) k :(aC k h).flatten.length=k*h.length:=by
 induction k with
 | zero=>simp
 | succ k ih=>rw[bT,c9,aD,ih,Nat.succ_mul,ie]
theorem bV1:OpR X (cG .Mult) co3:=by
 intro a0 s W H x y v u Q I rx ry h
 obtain⟨l,k,xs,rfl,rfl,hH,h1,h2,hz,q⟩:=h
 cases rx
 obtain⟨t,rfl⟩:=ry
 obtain⟨z,its,n,r,hl,e⟩:=I.lstM hH
 have G:its.toArray.size*k.toNat<=aO:=by rw[aq,<-hl];exact hz
 have Y:¬ its.toArray.size*k.toNat > (2^63 - 1) / 8:=by
  have:(aO)<=(2^63 - 1) / 8:=by decide
  lia
 have J:¬(!Builtin.List.listFitsIndex k)=true:=by
  rw[fitsIndex_both h1 h2]
  exact aW
 have Cc:¬ dj (its.toArray.size*k.toNat)=true:=by
  rw[aJ2 G]
  exact aW
 have Z:kY (λ x1 x2=>x1++x2) #[] (aC (if its.toArray.isEmpty=true then 0 else k.toNat) its.toArray)=(aC k.toNat its).flatten.toArray:=by
  have f0:=λ m=>by
   have:=aC0 its m []
   rw[fL]at this
   exact this
  rw[f0]
  cases its with
  | nil=>simp
  | cons a r'=>rw[if_neg (by simp)]
 refine gA (by decide) ⟨_,e,rfl⟩ (λ s'=>ib s' k t) noFill_list_mul jP eI repeat_list jt.lookup
  (ic eI (ib s k t) ju (iT _ _) (int___rmul___int_list k t l its.toArray n)
   ⟨e,rfl,⟨_,e,rfl⟩,ic F.slot_list_mul ⟨_,e,rfl⟩ F.entry_list_mul (F.args_list_mul_2 _ _) (AutoListH.list___mul___list_int_3 l its.toArray n k t J Y Cc) ⟨e,?_⟩⟩)
 rw[Z]
 exact⟨.ref _,_,I.lnew (r.rep k.toNat) (by rw[bH2,lG];exact hz),rfl,q _ I.fresh⟩
end
section
variable {prog:aI} {w:World} {A:aX} {E:Value->ai->Prop} {s:ai}
end
section
variable {X:Cx}
end
end L2
end
noncomputable section
namespace Att
open PySem PySem.W PySem.Calls PyProof.Rows
theorem ints_of_wellAll :∀ ns (vs:yG),WellAll P h vs (ns.map WData.int)->i7 vs ns:=by
 intro ns
 induction ns with
 | nil =>
  intro vs w
  rw[dE]at w
  cases w
  exact .nil
 | cons n ns ih =>
  intro vs w
  rw[aS]at w
  cases w with
  | cons a b =>
   cases a
   exact .cons _ _ (ih _ b)
theorem script_of {l:OpenLaw}(hn:l.most=some n){z:yG}
  (y:l.row.toRowW.claim.pre args=true) (J:WellAll P h z args) :
  ∃ a vs ns,z=[Value.ref a]/\args=[WData.list (ns.map WData.int)]/\h.get? a=some { cls:=.type "list",data:=.seq vs.toArray }/\i7 vs ns/\ns.length<=n:=by
 have Y:=(pre_splitW y).1
 have hc:l.pre.holds [] { args:=args }=true:=(pre_splitW y).2
 obtain⟨d,r,rfl,h1,h2⟩:=hasAllW_cons Y
 obtain rfl:=hasAllW_nil h2
 obtain⟨xs,rfl,h3⟩:=hasW_list h1
 obtain⟨ns,rfl⟩:=items_int h3
 have Cc:ns.length<=n:=by
  unfold OpenLaw.pre at hc
  have h4:=by
   have h4:=(holds_andW hc).1
   rw[hn]at h4
   exact h4
  have G:=condW_of h4 (w_not (w_lt w_lit (w_len_list (w_arg rfl))))
  rw[ax]at G
  refine kr λ q=>?_
  have Z:=by omega
  first
   | (rw[decide_eq_true Z]at G;exact absurd G (by decide))
   | (simp at G;omega)
 cases J with
 | cons w1 w2 =>
  cases w2
  cases w1 with
  | list ho hall=>exact⟨_,_,ns,rfl,rfl,ho,ints_of_wellAll ns _ hall,Cc⟩
theorem post_true (l:OpenLaw) args :l.row.toRowW.claim.post args (.bool true) args=true :=
 postW_of 
  (show WShape.has [] (.bool true) .bool=true by first|rfl|decide|simp[WShape.armsAll])
  (w_eq_bool (w_res rfl) w_lit) rfl
theorem attach_call {l:OpenLaw}{loose:yH}
  (hn:l.most=some n) (a0:d.params.defaults=[])
  (call:∀(w:World) (s₀ h:ai) (mg mb:yC) (fa:Addr) (o:Obj) (pm cd z:Value) (a:Addr) (vs:yG) (ns:List Int),
   Ground q loose [] XP w s₀ mg mb h.heap->YP w h.heap ->
   h.heap.get? fa=some o->o.data=.func (docDef d.name d.params d.body d.scope pm cd z)->h.heap.CodeRec cd d.name->mg d.name=some (.ref fa) ->
   h.heap.get? a=some { cls:=.type "list",data:=.seq vs.toArray }->i7 vs ns->ns.length<=n->h.gens=#[] ->
   fx (model l.prog w) i8 (.call (.ref fa) ⟨[.ref a],[]⟩) (λ r s'=>r=.ok (.ret (.bool true))/\OldK h.heap s'.heap/\s'.os=h.os/\gD s'.gens) h) :
  WalkO q loose XP YP l.row.toRowW d [] (λ f vs=>kQ f vs):=by
 intro w s₀ h mg mb G Y fa o pm cd z dV kV ho hd a3 hD a2 hg args a5 as J a4 b0 a1 a6
 obtain rfl:dV=.none:=Dflts.none hD a0
 obtain rfl:kV=.none:=Dflts.noKw hD
 obtain⟨a,vs,ns,rfl,rfl,Z,y,Cc⟩:=script_of hn J a1
 refine enter_call (eR (call w s₀ h mg mb fa o pm cd z a vs ns G Y ho (fd_plain hd) a3 a2 Z y Cc hg) λ r s' hq=>?_)
 obtain⟨rfl,h2,h3,h4⟩:=hq
 exact⟨.inl ⟨.bool true,.bool true,[],rfl,λ _=>rfl,.bool true,post_true l _,λ _=>⟨List.Pairwise.nil,λ _ hm=>(nomatch hm)⟩⟩,h2,h3,h4⟩
section
variable {prog:aI} {w:World} {A:aX} {E:Value->ai->Prop} {s:ai} {K:Frag}
end
end Att
noncomputable section
namespace L2
open PySem PySem.Spec PyProof.Rows
theorem an0:∀ {vs:yG} {ns},i7 vs ns->Vals (ns.map V.int) vs
 | _,_,.nil=>.nil
 | _,_,.cons n t h=>.cons ⟨t,rfl⟩ (an0 h)
noncomputable def defArgs (s:Stmt):bh:=match s with
 | .FunctionDef _ a _ _ _ _ _ _ _ _=>a
 | _=>{ posonlyargs:=[],args:=[],vararg:=none,kwonlyargs:=[],kw_defaults:=[],kwarg:=none,defaults:=[] }
noncomputable def zD (s:Stmt):List Stmt:=match s with
 | .FunctionDef _ _ b _ _ _ _ _ _ _=>b
 | _=>[]
noncomputable def defScope (s:Stmt):Scope:=match s with
 | .FunctionDef _ _ _ _ _ _ sc _ _ _=>sc
 | _=>{ kind:=.function,names:=[],isGenerator:=false,isCoroutine:=false }
noncomputable abbrev CX0:CXT:=λ _ _ _ _ _ _=>False
abbrev E0:XK:=λ _ _ _=>False
theorem bX9 :aL7 CX0 X E0:=λ _ _ _ _ _ _ _ h=>h.elim
structure Fun (K:ah)(x qual:Str)(st:Stmt)(f:Addr)(fd:bQ):Prop where
 ex:∃(oc:Value) (od:yI) (kV doc pm:Value) (an:yI) (cdv ct:Value) (osl:yE),
  fd=dD x qual (defArgs st) (zD st) (defScope st) .none kV doc pm an cdv ct/\K.lookup f=some ⟨oc,od,.func fd,osl⟩/\gk K cdv qual=true
 kp:cH K (.ref f)=true
section
variable {P:aI} {w:World} {K:ah} {mg:yC} {base:Heap}
theorem Fun.ok {st}(F:Fun K x qual st f Y)(S:FnScope N ps (defScope st))(len:∀ vs H Q E,sp vs H Q E->vs.length=ps.length)
  (Cc:∀(z:Value) (A:aX) (y:List Env) (s:ai) (H:Hp) (vs:List V) (Q:VK) (E:XK),Room k (A.deeper (gj qual (defScope st) s.heap.objs.size f z))->sp vs H Q E ->
   ∃ t,PSs (bk8 CX0 P w K mg base N qual (defScope st) f z A y s H E).nox (zD st) t/\t { nx:=λ _ H'=>Q .non H',rt:=Q } (ah3 N vs) H):FnOk P w K mg base CX0 (k+1) f Y ps sp:=by
 obtain⟨oc,od,kV,a1,pm,an,z,ct,a0,rfl,lk,J⟩:=F.ex
 refine bT2 lk J S len λ A y s H vs Q E Z G=>?_
 obtain⟨t,h,q⟩:=Cc z A y s H vs Q E Z G
 exact⟨t,h.nox,q⟩
theorem Fun.binds {st}(F:Fun K x qual st f J)
  (h:∀(kV z G:Value) (Cc:yI) (y ct:Value) (us:yG),us.length=ps.length->d4 (dD x qual (defArgs st) (zD st) (defScope st) .none kV z G Cc y ct) ⟨us,[]⟩=pure (ps.zip us)):Binds K J ps []:=by
 obtain⟨oc,od,kV,z,G,Cc,y,ct,Z,rfl,lk,Y⟩:=F.ex
 exact .all (h kV z G Cc y ct)
theorem bt6 {st}{od Cc:yI}{z:yE}{kV }(l:K.lookup f=some ⟨oc,od,.func (dD x qual (defArgs st) (zD st) (defScope st) .none kV y G Cc h ct),z⟩)
  (c:gk K h qual=true) (k:cH K (.ref f)=true):Fun K x qual st f (dD x qual (defArgs st) (zD st) (defScope st) .none kV y G Cc h ct):=⟨⟨oc,od,kV,y,G,Cc,h,ct,z,rfl,l,c⟩,k⟩
end
section
variable {X:Cx}
theorem pv  i {pos}(hN:X.N[i]?=some x:=by rfl)(hv:Vis X.env.scope x:=by first|exact Or.inl rfl|exact Or.inr (Or.inl rfl)|exact Or.inr (Or.inr rfl))(hd:(x==("__debug__":Str))=false:=by decide)
  (h:(x==("__classdict__":Str))=false:=by decide):PE X (.Name x pos) (bt4 i):=aT8 hN hv hd h
end
theorem cp3 { B:Prop}(h:B):if false=true then A else B:=by
 rw[if_neg aW]
 exact h
theorem iteT { B:Prop}(h:A):if true=true then A else B:=by
 rw[if_pos rfl]
 exact h
def ae2 (H H':Hp):Prop:=∀ b o,H b=some o->H' b=some o
theorem ae2.refl H :ae2 H H:=λ _ _ h=>h
theorem aV5 {z:yK}(I:Nat->ai->Prop)
  (turn:∀ n s,I n s->wpAny (model prog w) A (gh it) (λ r Z=>match r with
   | none=>R (.ok .next) Z
   | some v=>wpAny (model prog w) A (fK y it v) (λ _ J=>wpAny (model prog w) A (hJ y env v) (λ _ s₂ =>
     wpAny (model prog w) A (forIn z true λ c r=>if r=true then do let ok <- eG c env (eval c env);pure (ForInStep.yield ok)else pure (ForInStep.yield r)) (λ ok s₃ =>
      if ok=true then wpAny (model prog w) A (eval Cc env) (λ x s₄ =>
       wpAny (model prog w) A (call (.builtin "list.append") [G,x]) (λ _ s₅=>∃ m,m<n/\I m s₅) (j4 (model prog w) A env λ e s'=>R (.error e) s') s₄) (j4 (model prog w) A env λ e s'=>R (.error e) s') s₃
      else ∃ m,m<n/\I m s₃) (j4 (model prog w) A env λ e s'=>R (.error e) s') s₂) (j4 (model prog w) A env λ e s'=>R (.error e) s') J) (j4 (model prog w) A env λ e s'=>R (.error e) s') Z) (j4 (model prog w) A env λ e s'=>R (.error e) s') s)
   n (h:I n s) :
  fx (model prog w) A (.compLoop (.ListComp Cc [⟨y,iter,z,0⟩] scope pos) 0 it G env) R s:=by
 refine codeAny_loop rfl I (λ n s hI=>?_) n h
 refine wpAny_noted ?_
 rw[compTurn_list]
 refine ae (jz (ae (bU (turn n s hI) (λ r Z h₁=>?_) λ _ _ h'=>h')))
 cases r with
 | none=>exact au h₁
 | some v =>
  refine ae (bU h₁ (λ _ J Y=>?_) λ _ _ h'=>h')
  refine ae (bU Y (λ _ s₂ h₂=>ae (bU h₂ (λ ok s₃ h₃=>?_) λ _ _ h'=>h')) λ _ _ h'=>h')
  cases ok with
  | false=>exact au ⟨rfl,h₃⟩
  | true =>
   exact ae (ae (bU h₃ (λ x s₄ h₄=>ae (bU h₄ (λ _ s₅ h₅=>au (au ⟨rfl,h₅⟩)) λ _ _ h'=>h')) λ _ _ h'=>h'))
noncomputable def ad7 (cells:yB):List (Str×bV)->List (Str×Addr)->List (Str×Addr)
 | [],acc=>acc
 | (n,k)::r,acc=>ad7 cells r (if k==.free then(match cells.lookup n with|some c=>(n,c)::acc|none=>acc)else acc)
theorem af8 :∀ names z ,(∀ y∈names,y.2=.free->∃ c,env.cells.lookup y.1=some c) ->
  (forIn names z λ(x) (cs:yB)=>(if x.2==.free then do let c <- cellOf env x.1;pure (ForInStep.yield ((x.1,c)::cs))else pure (ForInStep.yield cs):Sem (ForInStep (List (Str×Addr)))))=pure (ad7 env.cells names z)
 | [],z,_=>by rw[iU];rfl
 | (n,k)::r,z,h=>by
  have Cc:=λ a=>af8 r a λ y hy=>h y (ar _ hy)
  rw[kL]
  unfold ad7
  cases e:(k==NameKind.free)with
  | false =>
   simp only[if_false]
   exact Cc z
  | true =>
   have hk:=by simpa using e
   obtain⟨c,hc⟩:=h (n,k) az hk
   have e1:cellOf env n=pure c:=by unfold cellOf;rw[hc]
   simp only[e1,hc]
   exact Cc _
theorem qb (h:∀ y∈scope.names,y.2=.free->∃ c,env.cells.lookup y.1=some c):closureFor scope env=pure (ad7 env.cells scope.names []):=by
 have:=af8 scope.names [] h
 show(forIn scope.names [] (λ(x) (cs)=>(if x.2==.free then do let c <- cellOf env x.1;pure (ForInStep.yield ((x.1,c)::cs))else pure (ForInStep.yield cs):Sem (ForInStep (List (Str×Addr))))) >>= λ cs=>pure cs)=_
 rw[this]
 rfl
theorem clOf_mem :∀ {names} {Cc:yB},(n,c)∈ad7 cells names Cc->cells.lookup n=some c\/(n,c)∈Cc
 | [],_,h=>.inr h
 | (m,k)::r,Cc,h=>by
  unfold ad7 at h
  rcases clOf_mem h with z|z
  .exact .inl z
  .cases e:(k==NameKind.free)with
   | false=>simp only[e,if_false]at z;exact .inr z
   | true =>
    simp only[e]at z
    cases q:cells.lookup m with
    | none=>rw[q]at z;exact .inr z
    | some d =>
     rw[q]at z
     rcases av.mp z with y|y
     .cases y;exact .inl q
     .exact .inr y
theorem aO0 (hc:cells.lookup n=some c):∀ {names} {y:yB},((n,NameKind.free)∈names\/(n,c)∈y)->(n,c)∈ad7 cells names y
 | [],_,h=>by rcases h with h|h;(exact absurd h (by simp));exact h
 | (m,k)::r,y,h=>by
  unfold ad7
  refine aO0 hc ?_
  rcases h with h|h
  .rcases av.mp h with e|h
   .cases e
    right
    simp[hc]
   .exact .inl h
  .right
   cases e:(k==NameKind.free)with
   | false=>simpa using h
   | true =>
    simp only[]
    cases q:cells.lookup m with
    | none=>exact h
    | some d=>exact ar _ h
theorem af4 {α:Type}{c}:∀ {l:List (Str×α)},(n,c)∈l->(∀ d,(n,d)∈l->d=c)->l.lookup n=some c
 | (m,d)::r,h,u=>by
  rw[be]
  cases e:n==m with
  | true =>
   have e':=beq_iff_eq.mp e
   subst e'
   rw[u d az]
  | false =>
   rcases av.mp h with z|z
   .cases z;simp at e
   .exact af4 z λ d' h'=>u d' (ar _ h')
theorem qh (hc:cells.lookup n=some c)(h:(n,NameKind.free)∈names):(ad7 cells names []).lookup n=some c:=by
 refine af4 (aO0 hc (.inl h)) λ d hd=>?_
 rcases clOf_mem hd with z|z
 .rw[hc]at z;exact(aA z).symm
 .exact absurd z (by simp)
theorem zn:∀ names n (h:yB),aR n names h=aR n names []++h
 | [],_,h=>by simp[aR]
 | (x,k)::r,n,h=>by
  unfold aR
  split
  .rw[zn r (n+1) ((x,n)::h),zn r (n+1) [(x,n)]]
   simp
  .exact zn r n h
theorem zw:∀ {names} {n} {Cc:yB} {x} {c},(x,c)∈aR n names Cc->(x,NameKind.cell)∈names\/(x,c)∈Cc
 | [],_,_,_,_,h=>.inr h
 | (y,k)::r,n,Cc,x,c,h=>by
  unfold aR at h
  split at h
  .rename_i hk
   rcases zw h with z|z
   .exact .inl (ar _ z)
   .rcases av.mp z with e|z
    .cases e
     have:=by simpa using hk
     subst this
     exact .inl az
    .exact .inr z
  .rcases zw h with z|z
   .exact .inl (ar _ z)
   .exact .inr z
theorem zy {α:Type} x :∀(l r:List (Str×α)),(l++r).lookup x=(l.lookup x).or (r.lookup x)
 | [],r=>by simp
 | (y,v)::l,r=>by
  rw[fq,be,be]
  cases x==y with
  | true=>rfl
  | false=>exact zy x l r
noncomputable def zV (N':yH)(src:yD)(scope:Scope)(XN:yH)(xs:Scope):Bool :=
 (scope.kind==.function) &&
 (scope.names.all λ y=>!(y.2==.free)||(xs.names.lookup y.1==some .cell||xs.names.lookup y.1==some .free)) &&
 (scope.names.all λ y=>!(y.2==.local)||scope.names.lookup y.1==some .local) &&
 (scope.names.all λ y=>!(y.2==.cell)||(scope.names.all λ z=>!(z.1==y.1)||z.2==.cell)) &&
 (src.length==N'.length) &&
 ((N'.zip src).all λ y=>match y.2 with|none=>true|some j=>XN[j]?==some y.1&&scope.names.lookup y.1==some .free)
structure CompCk (N':yH)(src:yD)(scope:Scope)(XN:yH)(xs:Scope):Prop where
 kind:scope.kind=.function
 fr:∀ y∈scope.names,y.2=.free->xs.names.lookup y.1=some .cell\/xs.names.lookup y.1=some .free
 loc:∀ y∈scope.names,y.2=.local->scope.names.lookup y.1=some .local
 cel:∀ y∈scope.names,y.2=.cell->∀ z∈scope.names,z.1=y.1->z.2=.cell
 len:src.length=N'.length
 sr:∀(i j:Nat) (x:Str),src[i]?=some (some j)->N'[i]?=some x->XN[j]?=some x/\scope.names.lookup x=some .free
theorem bt9 (h:zV Cc src scope J G=true):CompCk Cc src scope J G:=by
 unfold zV at h
 simp only[ak]at h
 obtain⟨⟨⟨⟨⟨h1,Y⟩,h3⟩,h4⟩,h5⟩,Z⟩:=h
 refine⟨by simpa using h1,λ y hy e=>?_,λ y hy e=>?_,λ y hy e z hz ez=>?_,by simpa using h5,λ i j x e1 e2=>?_⟩
 .have:=aZ.mp Y y hy
  simpa [e]using this
 .have:=aZ.mp h3 y hy
  simpa [e]using this
 .have:=aZ.mp h4 y hy
  simp only[e,lu]at this
  have:=aZ.mp this z hz
  simpa [ez]using this
 .have hm:(x,some j)∈Cc.zip src:=by
   refine aN (i:=i) ?_
   rw[List.getElem?_zip_eq_some]
   exact⟨e2,e1⟩
  have:=aZ.mp Z _ hm
  simpa using this
noncomputable abbrev zE (X:Cx)(N':yH)(scope:Scope)(Cc:Addr)(cells:yB)(s:ai)(H:Hp)(ex:List Addr):Cx where
 prog:=X.prog
 w:=X.w
 K:=X.K
 mg:=X.mg
 base:=X.base
 A:=X.A
 N:=N'
 s₀:=s
 H₀:=H
 env:={ scope:=fy scope X.env,locals:=Cc,globals:=X.env.globals,cells:=cells,qual:=X.env.qual,func:=none,code:=X.env.code,frame:=X.env.frame,builtins:=X.env.builtins }
 outer:=X.stack
 stack:=X.stack
 ex:=ex
 fn:=λ x=>scope.names.lookup x==some .cell
 calm:=X.calm
 pn:=[]
 xe:=λ _ _=>False
def PIf (X:Cx)(ifs:yK)(t:TT):Prop :=
 ∀ pins s (W:St) H Q ,Inv X pins W H s->t W H Q ->
  wpAny (model X.prog X.w) X.A (forIn ifs true λ c r=>if r=true then do let ok <- eG c X.env (eval c X.env);pure (ForInStep.yield ok)else pure (ForInStep.yield r)) (TP X pins W Q) X.xe s
def cq6:TT:=λ _ H Q=>Q true H
theorem bL1 :PIf X [] cq6:=λ _ _ _ H _ I h=>wpAny_tests_nil ⟨H,I,h⟩
theorem bE4 (h:PT X c t):PIf X [c] t:=λ y s W H Q I hw=>wpAny_tests_one (h y s W H Q I hw)
noncomputable def ay7 (src:yD)(W:St):St:=src.map λ o=>match o with|none=>none|some j=>(W[j]?).join
def tComp (src:yD)(wi:TI)(g:TG)(tc:TT)(te:TE):TE:=λ W H Q=>wi W H λ J H1=>∀ D,H1 D=none ->
 ∃ Ww:Nat->Nat->St->Hp->Prop,(∃ m,Ww 0 m (ay7 src W) (upd H1 D (.lst [])))/\∀ i m W' H',Ww i m W' H' ->
  (J.stop i H'/\Q (.ref D) H')\/(J.go i H'/\∃ N:St->Hp->Prop,(∀ W2 H2,N W2 H2->∃ m',m'<m/\Ww (i+1) m' W2 H2) /\
   ∀ x H2,J.yld i H' x H2->g x W' H2 λ W3 H3=>tc W3 H3 λ b H4=>if b=true then te W3 H4 λ v H5=>∃ ys,H5 D=some (.lst ys)/\ys.length<aO/\N W3 (upd H5 D (.lst (ys++[v])))else N W3 H4)
theorem qw {env:Env}:∀ {names:List (Str×bV)} {x} {k},names.lookup x=some k ->
  (names.map λ(n,k)=>if(k==NameKind.free&&env.scope.kind==.function&&env.kindOf n==some .cell)then(n,NameKind.cell)else(n,k)).lookup x =
   some (if(k==NameKind.free&&env.scope.kind==.function&&env.kindOf x==some .cell)then NameKind.cell else k)
 | [],_,_,h=>by simp at h
 | (n,k)::r,x,k',h=>by
  have y:=@qw env r x k'
  show lQ x ((if(k==NameKind.free&&env.scope.kind==.function&&env.kindOf n==some .cell)=true then(n,NameKind.cell)else(n,k))::_)=_
  cases hx:x==n with
  | true =>
   have e:=beq_iff_eq.mp hx
   subst e
   simp only[be,hx]at h
   cases h
   by_cases hc:(k==NameKind.free&&env.scope.kind==.function&&env.kindOf x==some .cell)=true
   .rw[if_pos hc,if_pos hc];simp only[be,hx]
   .rw[if_neg hc,if_neg hc];simp only[be,hx]
  | false =>
   simp only[be,hx]at h
   by_cases hc:(k==NameKind.free&&env.scope.kind==.function&&env.kindOf n==some .cell)=true
   .rw[if_pos hc];simp only[be,hx];exact y h
   .rw[if_neg hc];simp only[be,hx];exact y h
theorem qj {env:Env}:∀ {names:List (Str×bV)} {x},names.lookup x=none ->
  (names.map λ(n,k)=>if(k==NameKind.free&&env.scope.kind==.function&&env.kindOf n==some .cell)then(n,NameKind.cell)else(n,k)).lookup x=none
 | [],_,_=>rfl
 | (n,k)::r,x,h=>by
  have y:=@qj env r x
  show lQ x ((if(k==NameKind.free&&env.scope.kind==.function&&env.kindOf n==some .cell)=true then(n,NameKind.cell)else(n,k))::_)=_
  cases hx:x==n with
  | true=>simp only[be,hx]at h;cases h
  | false =>
   simp only[be,hx]at h
   by_cases hc:(k==NameKind.free&&env.scope.kind==.function&&env.kindOf n==some .cell)=true
   .rw[if_pos hc];simp only[be,hx];exact y h
   .rw[if_neg hc];simp only[be,hx];exact y h
theorem ar3 {W:St}{fp:List Addr}
  (Cc:CompCk N' src scope X.N X.env.scope) (I:Inv X a5 W H s) (hf:∀ b∈fp,FpOk X a5 H b) (b2:∀ b∈fp,b<s.heap.objs.size)
  (e4:∃ tk,s4={ s with heap:=ft (s.heap.push { cls:=.type "dict",data:=.dict #[] }) scope.names,toks:=tk }) :
  Inv (zE X N' scope s.heap.objs.size (aR (s.heap.objs.size+1) scope.names (ad7 X.env.cells scope.names [])) s H fp) [] (ay7 src W) H s4:=by
 obtain⟨tk,rfl⟩:=e4
 have hk:∀ b o,s.heap.get? b=some o->(ft (s.heap.push { cls:=.type "dict",data:=.dict #[] }) scope.names).get? b=some o:=λ b o e=>dJ _ _ b o (af _ e)
 have ok:=cellsFrom_ok scope.names (s.heap.push { cls:=.type "dict",data:=.dict #[] }) (s.heap.objs.size+1) [] ⟨λ _ _ hm=>(nomatch hm),List.Pairwise.nil⟩ (by rw[bN];exact aj _)
 rw[bN]at ok
 have a0:=zn scope.names (s.heap.objs.size+1) (ad7 X.env.cells scope.names [])
 have lk:∀ x c,(aR (s.heap.objs.size+1) scope.names (ad7 X.env.cells scope.names [])).lookup x=some c ->
   ((x,c)∈aR (s.heap.objs.size+1) scope.names []/\(x,NameKind.cell)∈scope.names)\/(X.env.cells.lookup x=some c/\(aR (s.heap.objs.size+1) scope.names []).lookup x=none):=λ x c e=>by
  rw[a0,zy]at e
  cases q:(aR (s.heap.objs.size+1) scope.names []).lookup x with
  | some d =>
   rw[q]at e
   have e':d=c:=aA e
   subst e'
   have hm:=aF q
   refine .inl ⟨hm,?_⟩
   rcases zw hm with z|z
   .exact z
   .exact absurd z (by simp)
  | none =>
   rw[q]at e
   have e':(ad7 X.env.cells scope.names []).lookup x=some c:=e
   rcases clOf_mem (aF e')with z|z
   .exact .inr ⟨z,rfl⟩
   .exact absurd z (by simp)
 have up:∀ x c,(x,c)∈aR (s.heap.objs.size+1) scope.names []->s.heap.objs.size+1<=c:=λ x c h=>(ok.empty x c h).2
 have b0:∀ x c,X.env.cells.lookup x=some c->c<s.heap.objs.size:=λ x c h=>by
  obtain⟨v,q⟩:=I.cell x c h
  exact q.lt
 have a3:∀ b,b<s.heap.objs.size->b≠s.heap.objs.size:=λ b h=>aw h
 have b3:∀ b∈fp,H b=none/\b≠X.env.locals/\b ∉ X.fs:=λ b hb=>⟨(hf b hb).1,(hf b hb).2.1,(hf b hb).2.2.1⟩
 have b6:(ft (s.heap.push { cls:=.type "dict",data:=.dict #[] }) scope.names).Ns s.heap.objs.size (λ _=>none):=(lR s.heap (.type "dict")).keeps (dJ _ _)
 have Z:∀ x k,scope.names.lookup x=some k->(fy scope X.env).names.lookup x=some (if(k==NameKind.free&&X.env.scope.kind==.function&&X.env.kindOf x==some .cell)then NameKind.cell else k):=λ x k e=>qw (env:=X.env) e
 have a4:∀ x,scope.names.lookup x=none->(fy scope X.env).names.lookup x=none:=λ x e=>qj (env:=X.env) e
 have b1:∀ x c,(x,NameKind.free)∈scope.names->X.env.cells.lookup x=some c->(aR (s.heap.objs.size+1) scope.names (ad7 X.env.cells scope.names [])).lookup x=some c:=λ x c hx hc=>by
  rw[a0,zy]
  cases q:(aR (s.heap.objs.size+1) scope.names []).lookup x with
  | some d =>
   rcases zw (aF q)with z|z
   .have:=Cc.cel _ z rfl _ hx rfl
    cases this
   .exact absurd z (by simp)
  | none=>exact qh hc hx
 have a6:∀ x,(x,NameKind.free)∈scope.names->∃ c,X.env.cells.lookup x=some c:=λ x hx=>I.ok.has x (Cc.fr _ hx rfl)
 refine⟨⟨I.ok.mod,Cc.kind,I.ok.glob,I.ok.blt,aj _,λ x y c e1 e2=>?_,λ x hx=>?_,λ x c hx e=>?_,I.ok.hd,I.ok.frames,.inl rfl,λ b hb=>⟨a3 b (b2 b hb),λ x c e z=>?_⟩,I.bs,am I.ok.bsz I.sz,λ b o e hb=>?_,λ b hb z=>?_,I.stack,I.stkFree⟩,
  rfl,I.bare,Un.kept hk,⟨_,b6,λ i x v e1 e2 e3=>?_⟩,λ x c e=>?_,I.hok.fresh (aj _),λ x c e=>?_,λ p hp=>absurd (show p∈([]:yA)from hp) (by simp),I.hok.kept hk,by unfold ay7;rw[ax];exact Cc.len⟩
 .rcases lk x c e1 with⟨a1,_⟩|⟨a1,_⟩<;>rcases lk y c e2 with⟨a2,_⟩|⟨a2,_⟩
  .exact hV ok.apart a1 a2
  .exact absurd (ao (b0 _ _ a2) (gH (up _ _ a1))) (bF _)
  .exact absurd (ao (b0 _ _ a1) (gH (up _ _ a2))) (bF _)
  .exact I.ok.inj x y c a1 a2
 .cases q:scope.names.lookup x with
  | none =>
   have J:(fy scope X.env).names.lookup x=some .cell\/(fy scope X.env).names.lookup x=some .free:=hx
   rw[a4 x q]at J
   rcases J with z|z<;>cases z
  | some k =>
   have J:(fy scope X.env).names.lookup x=some .cell\/(fy scope X.env).names.lookup x=some .free:=hx
   rw[Z x k q]at J
   cases k with
   | free =>
    obtain⟨c,hc⟩:=a6 x (aF q)
    exact⟨c,b1 x c (aF q) hc⟩
   | cell =>
    obtain⟨c,hc⟩:=zS (n:=s.heap.objs.size+1) q
    exact⟨c,by show(aR _ _ _).lookup x=_;rw[a0,zy,hc];rfl⟩
   | _=>rcases J with z|z<;>cases z
 .have J:(scope.names.lookup x==some .cell)=true:=hx
  have q:scope.names.lookup x=some .cell:=by simpa using J
  rcases lk x c e with⟨a,_⟩|⟨a,b⟩
  .have:=up _ _ a;show s.heap.objs.size<=c;lia
  .obtain⟨d,hd⟩:=zS (n:=s.heap.objs.size+1) q
   rw[hd]at b;cases b
 .subst z
  rcases lk x c e with⟨a,_⟩|⟨a,_⟩
  .exact absurd (ao (b2 c hb) (gH (up _ _ a))) (bF _)
  .exact(hf c hb).2.2.2.2.1 x c a rfl
 .rcases(hf b hb).2.2.2.1 with z|z
  .exact I.ok.noex b o e z
  .exact absurd (ao (aG e) (am I.ok.bsz z)) (bF _)
 .rcases av.mp (I.stkSub b z)with y|y
  .exact(b3 b hb).2.1 y
  .exact(b3 b hb).2.2 y
 .have G:(ay7 src W)[i]?=some (some v):=e2
  unfold ay7 at G
  rw[ay]at G
  cases q:src[i]? with
  | none=>rw[q]at G;cases G
  | some o =>
   rw[q]at G
   cases o with
   | none=>cases G
   | some j =>
    have Y:(W[j]?).join=some v:=aA G
    have ej:W[j]?=some (some v):=by
     cases q2:W[j]? with
     | none=>rw[q2]at Y;cases Y
     | some o2=>rw[q2]at Y;exact congrArg some Y
    obtain⟨h1,h2⟩:=Cc.sr i j x q e1
    have hm:=aF h2
    obtain⟨mX,c0,b5⟩:=I.loc
    have b4:Vis X.env.scope x:=by
     rcases Cc.fr _ hm rfl with z|z
     .exact .inr (.inl z)
     .exact .inr (.inr z)
    obtain⟨u,ru,look⟩:=b5 j x v h1 ej b4
    refine⟨u,ru,.inr ?_⟩
    have hcell:∃ c,X.env.cells.lookup x=some c/\s.heap.IsCell c (some u):=by
     rcases look with⟨z,_⟩|⟨_,c,z1,z2⟩
     .have z':X.env.scope.names.lookup x=some .local:=z
      rcases Cc.fr _ hm rfl with y|y<;>(rw[z']at y;cases y)
     .exact⟨c,z1,z2⟩
    obtain⟨c,c1,c2⟩:=hcell
    refine⟨?_,c,b1 x c hm c1,c2.keeps hk⟩
    show(fy scope X.env).names.lookup x=some .cell\/(fy scope X.env).names.lookup x=some .free
    rw[Z x _ h2]
    by_cases hc:(NameKind.free==NameKind.free&&X.env.scope.kind==.function&&X.env.kindOf x==some .cell)=true
    .rw[if_pos hc];exact .inl rfl
    .rw[if_neg hc];exact .inr rfl
 .rcases lk x c e with⟨a,_⟩|⟨a,_⟩
  .exact⟨_,(ok.empty x c a).1⟩
  .obtain⟨v,q⟩:=I.cell x c a
   exact⟨v,q.keeps hk⟩
 .rcases lk x c e with⟨a,_⟩|⟨a,_⟩
  .exact I.hok.fresh (by have:=up _ _ a;lia)
  .exact I.freeC x c a
theorem aK1 {W W':St}
  (I:Inv X h W H s) (Cc:∀ b∈Y,FpOk X h H b) (J:Inv (zE X Z scope s.heap.objs.size cells s H Y) [] W' G s5) (hs:ci s.heap.objs.size s5.heap h') :
  Inv X h W G { s5 with heap:=h' }:=by
 have y:∀ b o,s.heap.get? b=some o->b≠s.heap.objs.size:=λ b o e=>aw (aG e)
 have u:=J.base
 refine I.call' J.os ⟨λ b o e n hb hx=>?_,λ b o e n hb hx=>?_,λ b o e n hx=>u.free b o e n hx,λ b o e hx=>?_,u.tups,u.frzs,u.tbls⟩ (λ b o e=>?_) J.bare λ b hb=>⟨(Cc b hb).2.2.2.1,(Cc b hb).2.1,(Cc b hb).2.2.2.2.1,(Cc b hb).2.2.2.2.2⟩
 .exact(hs.2 b (y b o e)).trans (u.keep b o e n hb hx)
 .obtain⟨sl,q⟩:=u.slot b o e n hb hx
  exact⟨sl,(hs.2 b (y b o e)).trans q⟩
 .obtain⟨o',q⟩:=u.there b o e hx
  exact⟨o',(hs.2 b (y b o e)).trans q⟩
 .have fr:=J.free
  refine(J.hok b o e).stay (λ c w' hc q=>(hs.2 c ?_).trans q) (λ _ q=>q) λ _ _ q=>q
  rintro rfl
  rcases hc with z|hc
  .rw[<-z,fr]at e;cases e
  .rw[fr]at hc;cases hc
theorem ag0 {z:yB}
  (h:Q { scope:=scope,locals:=s.heap.objs.size,globals:=globals,cells:=aR (s.heap.objs.size+1) scope.names z,qual:=qual,func:=none,code:=y.code,frame:=y.frame,builtins:=y.builtins }
   { s with heap:=ft (s.heap.push { cls:=.type "dict",data:=.dict #[] }) scope.names }) :
  wpAny M A (gu scope globals z [] qual none .none (some y)) Q E s:=by
 simp only[gu,bW]
 refine ae (wpAny_alloc ?_)
 refine ae (wpAny_layCells _ (λ name kind cells=>by cases hkc:kind==NameKind.cell<;>simp[]) _ _ _ _ ?_)
 rw[bN ..]
 refine ae ?_
 rw[iU]
 exact au (au h)
theorem ax1 {Ww:Nat->Nat->St->Hp->Prop}
  {QD:Hp->Prop} {W0:St} (hx:X'.xe=λ _ _=>False) (G:X'.calm=true) (I4:Inv X' [] W0 H0 s4) (T:Turn X'.prog X'.w X'.K tg J fp it tn) (a6:tn 0 s4.heap)
  (Cc:∀ H':Hp,(∀ b∈fp,H' b=none)->∀ b∈fp,FpOk X' [] H' b) (b0:∀ b∈fp,H0 b=none) (w0:Ww 0 m0 W0 H0)
  (turn:∀ i m W' H',Ww i m W' H'->(J.stop i H'/\QD H')\/(J.go i H'/\∃ N:St->Hp->Prop,(∀ W2 H2,N W2 H2->∃ m',m'<m/\Ww (i+1) m' W2 H2) /\
   ∀ x H2,J.yld i H' x H2->g x W' H2 λ W3 Z=>tc W3 Z λ b H4=>if b=true then te W3 H4 λ v H5=>∃ ys,H5 D=some (.lst ys)/\ys.length<aO/\N W3 (upd H5 D (.lst (ys++[v])))else N W3 H4))
  (hg:PG X' tg g) (hif:PIf X' a3 tc) (he:PE X' a5 te) (a2:∀ W' H' s',Inv X' [] W' H' s'->QD H'->R (.ok .next) s') :
  fx (model X'.prog X'.w) X'.A (.compLoop (.ListComp a5 [⟨tg,iter,a3,0⟩] scope pos) 0 (.ref it) (.ref D) X'.env) R s4:=by
 have nox:∀ {α:Type} {t:Sem α} {Q Q':α->ai->Prop} {E:Value->ai->Prop} {s:ai},wpAny (model X'.prog X'.w) X'.A t Q X'.xe s->(∀ a s,Q a s->Q' a s)->wpAny (model X'.prog X'.w) X'.A t Q' E s :=
  λ h hQ=>bU h hQ λ _ _ z=>by rw[hx]at z;exact z.elim
 refine aV5 (λ n s'=>∃ i W' H',Inv X' [] W' H' s'/\tn i s'.heap/\(∀ b∈fp,H' b=none)/\Ww i n W' H') ?_ m0 ⟨0,W0,H0,I4,a6,b0,w0⟩
 rintro n s3 ⟨i,W3,Z,I3,a1,a4,w3⟩
 rcases turn i n W3 Z w3 with⟨stop,qn⟩|⟨go,N,hN,step⟩
 .refine nox (T.done X' rfl rfl rfl G i [] s3 W3 Z X'.xe I3 (Cc Z a4) a1 stop) λ r s4 ⟨hr,I4⟩=>?_
  subst hr
  exact a2 W3 Z s4 I4 qn
 .refine nox (T.item X' rfl rfl rfl G i [] s3 W3 Z X'.xe I3 (Cc Z a4) a1 go) λ r s4 ⟨u,hr,h4⟩=>?_
  subst hr
  refine nox h4 λ _ s5 ⟨x,H5,I5,r5,y5,a0,b1⟩=>?_
  have b2:=I5.pinned (Cc H5 b1) (T.obj _ _ a0)
  refine nox (hg _ s5 W3 H5 x u _ b2 r5 (step x H5 y5)) λ _ s6 ⟨W6,H6,I6,q6⟩=>?_
  have Y:∀ {W7:St} {H7:Hp} {s7:ai},Inv X' ([]++az2 fp s5.heap) W7 H7 s7->N W7 H7->∃ m,m<n/\∃ i W' H',Inv X' [] W' H' s7/\tn i s7.heap/\(∀ b∈fp,H' b=none)/\Ww i m W' H':=λ {W7 H7 s7} I7 n7=>by
   obtain⟨m',hm,w7⟩:=hN W7 H7 n7
   refine⟨m',hm,i+1,W7,H7,I7.unpinned,T.keep _ _ _ a0 λ b hb o e=>(I7.pin (b,o) (bD _ (bD _ (qP hb e)))).1,λ b hb=>?_,w7⟩
   obtain⟨o,e,d⟩:=T.obj _ _ a0 b hb
   exact(I7.pin (b,o) (bD _ (bD _ (qP hb e)))).2.1
  refine nox (hif _ s6 W6 H6 _ I6 q6) λ b s7 ⟨H7,I7,q7⟩=>?_
  cases b with
  | false =>
   rw[if_neg aW]at q7 ⊢
   exact Y I7 q7
  | true =>
   rw[if_pos rfl]at q7 ⊢
   refine nox (he _ s7 W6 H7 _ I7 q7) λ v s8 ⟨y,H8,I8,r8,ys,hy,hz,q8⟩=>?_
   refine nox (az4 _ s8 W6 H8 (.ref D) [y] (.ref D) [v] (λ _ H9=>N W6 H9) I8 rfl (.cons r8 .nil) ⟨D,ys,y,rfl,rfl,hy,hz,q8⟩) λ v9 s9 ⟨_,H9,I9,_,q9⟩=>?_
   exact Y I9 q9
theorem ba3 N' src 
  (b0:zV N' src scope X.N X.env.scope=true) (hi:PI X tg iter wi) (Z:X.calm=true)
  (b3:∀(Cc:Addr) (cells:yB) (s:ai) (H:Hp) (ex:List Addr),PG (zE X N' scope Cc cells s H ex) tg g/\PIf (zE X N' scope Cc cells s H ex) a0 tc/\PE (zE X N' scope Cc cells s H ex) a1 te)
  (hs:∀ x,dW iter X.env x=pure x:=by intro _;rfl):PE X (.ListComp a1 [⟨tg,iter,a0,0⟩] scope pos) (tComp src wi g tc te):=by
 intro z s W H Q I h
 have ck:=bt9 b0
 rw[eval_ListComp]
 have b1:=qb λ y hy e=>I.ok.has y.1 (ck.fr y hy e)
 refine gR rfl hs b1 ck.kind ck.loc (thn (hi z s W H _ I h) λ v s1 h1=>thn h1 λ b6 s2 h2=>?_)
 obtain⟨it,G,tn,J,H2,e,I2,T,a5,f2,Ww⟩:=h2
 subst e
 have hD:=I2.fresh
 obtain⟨Ww,⟨m0,w0⟩,turn⟩:=Ww _ hD
 have I3:=I2.lnew (t':=s2.toks) .nil (dZ _)
 have a3:∀ b∈G,b<s2.heap.objs.size:=λ b hb=>by obtain⟨o,q,_⟩:=T.obj _ _ a5 b hb;exact aG q
 have f3:∀ b∈G,FpOk X z (upd H2 s2.heap.objs.size (.lst [])) b:=λ b hb=>⟨by rw[za (aw (a3 b hb))];exact(f2 b hb).1,(f2 b hb).2⟩
 refine bB (ag0 ?_)
 generalize Y:({ s2 with heap:=s2.heap.push { cls:=.type "list",data:=.seq ([]).toArray },toks:=s2.toks })=s3 at I3
 have b5:=Y
 have b4:∀ b∈G,b<s3.heap.objs.size:=λ b hb=>by
  rw[<-Y]
  rw[bN]
  exact eV (a3 b hb)
 have I4:=ar3 (s4:={ s3 with heap:=ft (s3.heap.push { cls:=.type "dict",data:=.dict #[] }) scope.names }) ck I3 f3 b4 ⟨_,rfl⟩
 have a4:tn 0 (ft (s3.heap.push { cls:=.type "dict",data:=.dict #[] }) scope.names):=T.keep _ _ _ a5 λ b hb o e=>dJ _ _ b o (af _ (by rw[<-Y];exact af _ e))
 obtain⟨hg,hif,he⟩:=b3 s3.heap.objs.size (aR (s3.heap.objs.size+1) scope.names (ad7 X.env.cells scope.names [])) s3 (upd H2 s2.heap.objs.size (.lst [])) G
 have a2:∀ H':Hp,(∀ b∈G,H' b=none)->∀ b∈G,FpOk (zE X N' scope s3.heap.objs.size (aR (s3.heap.objs.size+1) scope.names (ad7 X.env.cells scope.names [])) s3 (upd H2 s2.heap.objs.size (.lst [])) G) [] H' b:=λ H' hn b hb =>
  ⟨hn b hb,(I4.ok.exf b hb).1,I4.ok.exfs b hb,.inl hb,λ x c e=>(I4.ok.exf b hb).2 x c e,λ p hp=>absurd (hp) (by simp)⟩
 have T':=T
 have b2:=λ b hb=>(f3 b hb).1
 have L:=ax1 (X':=zE X N' scope s3.heap.objs.size (aR (s3.heap.objs.size+1) scope.names (ad7 X.env.cells scope.names [])) s3 (upd H2 s2.heap.objs.size (.lst [])) G) (R:=compPost (model X.prog X.w) X.A X.xe none (EP X z W Q) (Value.ref s2.heap.objs.size) s3.heap.objs.size) (iter:=iter) (scope:=scope) (pos:=pos) rfl Z I4 T' a4 a2 b2 w0 turn hg hif he
  (λ W' H' s' J' q=>by
   obtain⟨mm,hn,_⟩:=J'.loc
   exact⟨mm,hn,λ h' a6=>⟨.ref s2.heap.objs.size,H',aK1 I3 f3 J' a6,rfl,q⟩⟩)
 exact ig L (T.self _ _ _ _ _ a4 L)
section
variable {X:Cx}
theorem ck5:bC "abs"=some (.builtin "abs"):=by decide +kernel
theorem ce2:bC "len"=some (.builtin "len"):=by decide +kernel
theorem bk9:bC "min"=some (.builtin "min"):=by decide +kernel
theorem aB8:bC "isinstance"=some (.builtin "isinstance"):=by decide +kernel
theorem bX5:bC "int"=some (.type "int"):=by decide +kernel
theorem bN3:bC "bool"=some (.type "bool"):=by decide +kernel
theorem bV8:bC "str"=some (.type "str"):=by decide +kernel
theorem aX3:bC "tuple"=some (.type "tuple"):=by decide +kernel
theorem bv0:bC "list"=some (.type "list"):=by decide +kernel
def cl2 (i j:Int):Prop:=0<j/\j<2^4096
theorem aP3 {y:Int}(h0:0<y)(h:y<2^4096):y.natAbs.log2<9000:=by
 have hn:=by
  have:(y.natAbs)=y:=by lia
  have z:(y.natAbs)<((2^4096):Int):=by rw[this];simpa using h
  exact j7.mp z
 have:=(Nat.log2_lt (by lia)).mpr hn
 lia
theorem bp6:OpR X (cG .FloorDiv) (rI cl2 λ i j=>.int (i / j)):=opI λ i j _ _ _ _ _ hc q=>by
 refine floordiv_int (by have:=hc.1;omega) ?_ (.inl (PyProof.noPylong_of_log2 (aP3 hc.1 hc.2)))
 rw[Int.fdiv_eq_ediv_of_nonneg i (by have:=hc.1;lia)]
 exact q
theorem aL5 {K}(h:X.K=K):IxR X (cm9 K):=by subst h;exact bI1
theorem bz3 {K}(h:X.K=K):IxR X (cm3 K):=by subst h;exact ix_tup
theorem am2 {K}(y:X.K=K):ac2 X (.builtin "len") (λ h H Q=>∃ p ys,h=[.ref p]/\(SqL K H p ys\/SqT K H p ys)/\Q (.int ys.length) H):=by subst y;exact aB1
theorem aF3 {K}(y:X.K=K):ac2 X (.type "tuple") (λ h H Q=>∃ p ys,h=[.ref p]/\((SqL K H p ys/\∀ l,H l=none->Q (.ref l) (upd H l (.tup ys)))\/(SqT K H p ys/\Q (.ref p) H))):=by subst y;exact aw4
theorem aO8 {K}(y:X.K=K):ac2 X (.type "list") (λ h H Q=>∃ p ys,h=[.ref p]/\(SqL K H p ys\/SqT K H p ys)/\∀ l,H l=none->Q (.ref l) (upd H l (.lst ys))):=by subst y;exact ay4
theorem bh4 {K}(y:X.K=K)(hl:PE X l h):PI X tg l (bM6 K h):=by subst y;exact bz1 hl
theorem bH1 {K}(y:X.K=K)(hl:PE X l h):PI X tg l (cj2 K h):=by subst y;exact bW9 hl
theorem bK0 {K}{pos}{k}(z:X.K=K)(hc:X.calm=true)(h:PGs X es t)
  (hn:(cV es X.env).length=n:=by rfl) (y:(cV es X.env).findIdx? (·.1)=none:=by rfl):PG X (.Tuple es k pos) (ch2 K n t):=by subst z;exact bU8 hc h hn y
end
structure DefAt (K:ah)(mg:yC)(x:Str)(st:Stmt)(ps:yH)(f:Addr)(fd:bQ):Prop where
 fn:Fun K x x st f fd
 mg:mg x=some (.ref f)
 bi:Binds K fd ps []
@[irreducible] noncomputable def cq9 (p:Prop):Prop:=p
theorem ae2.new (h:ae2 H y)(hp:y p=none):ae2 H (L2.upd y p o):=λ x o e=>by
 have e1:=h x o e
 rw[za (zu e1 hp)]
 exact e1
section
variable {prog:aI} {w:World} {A:aX} {R:km->ai->Prop} {I:Addr} {fp wr:List Addr} {n:Nat} {P:Nat->Value->Prop} {St:Nat->Heap->Prop} {kw:List (Str×Value)}
theorem aY8 (Ww:Walks prog w A.in1 I fp wr n P St) bt (b0:CmpOf prog w A.in1 .Lt P bt) S (a6:S ∉ fp) :
  ∀ k j s vb c ,n - (j+1)=k->j+1<=n->St (j+1) s.heap->P (bL bt j) vb ->
  s.heap.get? S=some { cls:=.type "list",dict:=none,data:=.seq #[vb,vb] c,slots:=#[] } ->
  (∀ v h' tk,P (bL bt (n - 1)) v->(∀ b o,b ∉ wr->b≠S->s.heap.get? b=some o->h'.get? b=some o)->R (.ok (.ret v)) { s with heap:=h',toks:=tk }) ->
  fx (model prog w) A (.builtin "min.loop" ⟨[.ref I,.none,.ref S],kw⟩) R s:=by
 have a5:=λ h=>a6 (Ww.sub _ h)
 have Y:(toString "min"++toString ".loop":String) = "min.loop":=by decide
 intro k
 induction k with
 | zero =>
  intro j s vb c hk hj a4 a0 hS hR
  have b1:j+1=n:=by lia
  refine cK dv ?_
  rw[bX bA _]
  refine ae (cX hS rfl ?_)
  refine ae (cg (Ww.done s _ _ (b1▸a4) λ h' tk Cc=>?_))
  have G:=Cc S _ a5 hS
  refine ae ?_
  refine dL G rfl (ae (dA (au ?_)))
  refine hR vb _ tk (by rw[<-b1];exact a0) λ b o y z e=>(aY _ _ (bH z)).trans (Cc b o y e)
 | succ k ih =>
  intro j s vb c hk hj a4 a0 hS hR
  have hlt:j+1<n:=by omega
  refine cK dv ?_
  rw[bX bA _]
  refine ae (cX hS rfl ?_)
  refine ae (cg (Ww.item (j+1) s _ _ hlt a4 λ v h' tk hP a1 Cc=>?_))
  have G:=Cc S _ a5 hS
  show wpAny _ A.in1 (tryCatch (gE [v,v] (richCompare .Lt v vb >>= _)) _ >>= _) _ _ _
  refine ae (cg (cf (ae (b0 (j+1) (bL bt j) v vb _ _ _ hP a0 ?_))))
  refine ae (cf (bP ?_))
  refine ae (dA (au ?_))
  cases hb:bt (j+1) (bL bt j)with
  | true =>
   simp only[if_true]
   refine ae ?_
   refine dL G rfl (ae (dA ?_))
   rw[Y]
   refine au ⟨cS bA _,ih (j+1) _ v _ (by omega) hlt (Ww.frame _ _ _ a1 λ b b2 o e=>?_) (by simp only[bL,hb,if_true];exact hP) (cB _ G rfl)
    λ v' a3 J a2 Z=>?_⟩
   .exact(aY _ _ (λ h:S=b=>a6 (by rw[h];exact b2))).trans e
   .exact hR v' a3 J a2 λ b o y z e=>Z b o y z ((aY _ _ (bH z)).trans (Cc b o y e))
  | false =>
   simp only[cn,if_false]
   refine ae (dA ?_)
   rw[Y]
   refine au ⟨cS bA _,ih (j+1) _ vb c (by omega) hlt a1 (by simp only[bL,hb,cn,if_false];exact a0) G λ v' a3 J a2 Z=>?_⟩
   exact hR v' a3 J a2 λ b o y z e=>Z b o y z (Cc b o y e)
theorem aS0 (Ww:Walks prog w A.in1 I fp wr n P St) bt (a2:CmpOf prog w A.in1 .Lt P bt) S (G:S ∉ fp)(a3:St 0 s.heap)
  (hS:s.heap.get? S=some { cls:=.type "list",dict:=none,data:=.seq #[] c,slots:=#[] })
  (h0:n=0->∀ h' tk,(∀ b o,b ∉ wr->b≠S->s.heap.get? b=some o->h'.get? b=some o)->R (.ok (.ret d)) { s with heap:=h',toks:=tk })
  (hR:0<n->∀ v h' tk,P (bL bt (n - 1)) v->(∀ b o,b ∉ wr->b≠S->s.heap.get? b=some o->h'.get? b=some o)->R (.ok (.ret v)) { s with heap:=h',toks:=tk }) :
  fx (model prog w) A (.builtin "min.loop" ⟨[.ref I,.none,.ref S],[(bo "default",d)]⟩) R s:=by
 have a5:=λ h=>G (Ww.sub _ h)
 have Cc:(toString "min"++toString ".loop":String) = "min.loop":=by decide
 refine cK dv ?_
 rw[bX bA _]
 refine ae (cX hS rfl ?_)
 show wpAny _ A.in1 (tryCatch (gh (.ref I)) _ >>= _) _ _ s
 rcases Nat.eq_zero_or_pos n with hn|hn
 .refine ae (cg (Ww.done s _ _ (hn▸a3) λ h' tk z=>?_))
  show wpAny _ A.in1 (rule _ >>= _) _ _ _
  refine ae (ii (au ?_))
  exact h0 hn h' tk λ b o y _ e=>z b o y e
 .refine ae (cg (Ww.item 0 s _ _ hn a3 λ v h' tk hP J z=>?_))
  have Y:=z S _ a5 hS
  show wpAny _ A.in1 (kt S (λ _=>#[v,v]) >>= _) _ _ _
  refine ae ?_
  refine dL Y rfl ?_
  rw[Cc]
  refine au ⟨cS bA _,aY8 Ww bt a2 S G _ 0 _ v _ rfl hn (Ww.frame _ _ _ J λ b a6 o e=>?_) hP (cB _ Y rfl) λ v' b0 Z a4 a1=>?_⟩
  .exact(aY _ _ (λ h:S=b=>G (by rw[h];exact a6))).trans e
  .exact hR hn v' b0 Z a4 λ b o y a0 e=>a1 b o y a0 ((aY _ _ (bH a0)).trans (z b o y e))
end
theorem ba9  a d :argsOk "min" ⟨[a],[(bo "default",d)]⟩:=by unfold argsOk;kernel_rfl
theorem jg (val : Nat -> Int) : ∀ k j, j <= k -> val (bL (λ i j => decide (val i < val j)) k) <= val j
  | 0, j, h => by have : j = 0 := by lia
                  subst this; exact dB _
  | k + 1, j, h => by
    have ih := jg val k
    unfold bL
    by_cases hb : val (k + 1) < val (bL (λ i j => decide (val i < val j)) k)
    . rw[if_pos (by simpa using hb)]
      by_cases hj : j = k + 1
      . subst hj; exact dB _
      . have := ih j (by lia); lia
    . rw[if_neg (by simpa using hb)]
      by_cases hj : j = k + 1
      . subst hj; omega
      . exact ih j (by omega)
def bJ0 (K:ah):V->V->Hp->VK->Prop:=λ x d H Q=>∃ a ns,x=.ref a/\SqL K H a (ns.map V.int)/\(ns=[]->Q d H)/\∀ m∈ns,(∀ y∈ns,m<=y)->Q (.int m) H
theorem at0 {ns:List Int}{its:yG}(r:Vals (ns.map V.int) its){i:Nat}(h:its[i]?=some v):∃ z t,ns[i]?=some z/\v=Value.int z t:=by
 have hl:=r.length
 rw[ax]at hl
 have y:=(ac.mp h).1
 obtain⟨u,e1,q⟩:=r.get (i:=i) (by rw[ay,ag (by omega)];rfl)
 rw[h]at e1;cases e1
 obtain⟨t,rfl⟩:=q
 exact⟨_,t,ag (by omega),rfl⟩
theorem bm0 {W:St}(hc:X.calm=true)(I:Inv X Cc W H s)(rx:RelV x u)(rd:RelV d w')(h:bJ0 X.K x d H Q) :
  wpAny (model X.prog X.w) X.A (call (.builtin "min") [u] [(bo "default",w')]) (EP X Cc W Q) X.xe s:=by
 obtain⟨a,ns,rfl,hS,q0,qm⟩:=h
 cases rx
 obtain⟨its,rv,pl,hz⟩:=I.list hS
 have hl:=rv.length
 rw[ax]at hl
 have J:(toString "min"++toString ".loop":String) = "min.loop":=by decide
 refine kmb_tree F.kind_min F.plain_min F.entry_min (ba9 _ _) ?_
 refine ae (kG (rfl) ?_)
 refine ae (au ?_)
 refine ae (dT pl.isList ?_)
 have Z:a<s.heap.objs.size:=by obtain⟨o,_,e,_⟩:=pl;exact aG e
 have Ww:=kZ (prog:=X.prog) (w:=X.w) (A:=X.A.in1) (I.ok.hd hc) s.heap.objs.size a (aw Z) its.toArray
 refine ae (bB ?_)
 generalize Y:s.heap.push _=h2
 have G:h2.objs.size=s.heap.objs.size+1:=by rw[<-Y,bN]
 have a0:∀ b o,s.heap.get? b=some o->h2.get? b=some o:=λ b o e=>by rw[<-Y];exact af _ e
 have a3:h2.objs.size ∉ [s.heap.objs.size,a]:=by
  rw[G]
  intro z
  rcases av.mp z with z|z
  .exact absurd z (ku _)
  .have z':=by simpa using z
   exact absurd (ao Z (by rw[<-z'];exact db _)) (bF _)
 have a2:(h2.push { cls:=.type "list",data:=.seq ([]:yG).toArray }).IsListIter s.heap.objs.size a 0/\(h2.push { cls:=.type "list",data:=.seq ([]:yG).toArray }).IsList a its.toArray:=by
  refine⟨⟨_,af _ (by rw[<-Y];exact aE _ rfl),rfl,rfl⟩,?_⟩
  obtain⟨o,e,r⟩:=pl.isList
  exact⟨o,af _ (a0 _ _ e),r⟩
 let val:=λ i=>ns.getD i 0
 have a1:∀ i v,its.toArray[i]?=some v->∃ t,v=Value.int (val i) t:=λ i v e=>by
  obtain⟨z,t,e1,e2⟩:=at0 rv (by rw[cC]at e;exact e)
  refine⟨t,?_⟩
  rw[e2]
  show Value.int z t=Value.int (ns.getD i 0) t
  rw[a7,e1]
  rfl
 rw[J]
 have nx:∀(h':Heap) (tk:Nat),(∀ b o,b ∉ [s.heap.objs.size]->b≠h2.objs.size->(h2.push { cls:=.type "list",data:=.seq ([]:yG).toArray }).get? b=some o->h'.get? b=some o)->Inv X Cc W H { s with heap:=h',toks:=tk }:=λ h' tk k=>I.kept λ b o e=>by
  refine k b o ?_ ?_ (af _ (a0 b o e))
  .intro z
   have z':b=s.heap.objs.size:=by simpa using z
   exact absurd (aG e) (by rw[z'];exact bF _)
  .intro z
   exact absurd (aG e) (by rw[z,G];exact Nat.not_lt.mpr (db _))
 refine au ⟨cS bA _,aS0 (d:=w') Ww _ (jD val a1) h2.objs.size a3 a2 (aE _ rfl) (λ hn h' tk k=>?_) λ hn v h' tk hP k=>?_⟩
 .have e:ns=[]:=by
   have:its.toArray.size=0:=hn
   have:its.length=0:=by simpa using this
   exact cI.mp (by lia)
  exact⟨d,H,nx h' tk k,rd,q0 e⟩
 .obtain⟨z,t,e1,e2⟩:=at0 rv (i:=bL (λ i j=>decide (val i<val j)) (its.toArray.size - 1)) (v:=v) (by rw[cC]at hP;exact hP)
  subst e2
  have hv:val (bL (λ i j=>decide (val i<val j)) (its.toArray.size - 1))=z:=by
   show ns.getD _ 0=z
   rw[a7,e1]
   rfl
  refine⟨.int z,H,nx h' tk k,⟨t,rfl⟩,qm z (aN e1) λ y hy=>?_⟩
  obtain⟨j,hj,e3⟩:=dg.mp hy
  have:=jg val (its.toArray.size - 1) j (by simp only[aq];lia)
  rw[hv]at this
  have e4:val j=y:=by
   show ns.getD j 0=y
   rw[a7,ag hj]
   exact e3
  lia
def cf3 (K:ah)(ta td:TE):TE:=λ W H Q=>ta W H λ x H1=>td W H1 λ d H2=>bJ0 K x d H2 Q
theorem ba8 {K}(Z:X.K=K)(hc:X.calm=true)(hg:Gl X "min")(hm:X.mg "min"=none)(ha:PE X e z)(hd:PE X Y G)
  (hs:bf [e] X.env=[(false,eval e X.env)]:=by rfl) :
  PE X (.Call (.Name "min" p) [e] [⟨some "default",Y,kp⟩] pos) (cf3 K z G):=by
 subst Z
 intro y s W H Q I h
 refine cj (am7 I hg hm bk9 ?_)
 have h':an7 z bf0 W H (λ vs Cc=>match vs with|[x]=>G W Cc λ d H2=>bJ0 X.K x d H2 Q|_=>False):=h
 refine callWith_kw (thn ((zC ha ad4 hs) pos y s W H _ I h') λ us s1 ⟨vs,Cc,I1,r1,J⟩=>?_) (by rw[hs];rfl) (by rw[hs];rfl)
 match vs,J,r1 with
 | [x],J,r1 =>
  obtain⟨u,rfl,ru⟩:=qX r1
  refine kws_cons (thn (hd y s1 W Cc _ I1 J) λ v s2 ⟨d,H2,I2,rd,q2⟩=>kws_nil ?_)
  exact bm0 hc I2 ru rd q2
inductive D where
 | non|bl (b:Bool)|int (i:Int)|str (x:Str)|tup (l:List D)|lst (l:List D)
mutual
noncomputable def D.deep:D->Nat
 | .tup l=>D.deepL l+1
 | .lst l=>D.deepL l+1
 | _=>0
noncomputable def D.deepL:List D->Nat
 | []=>0
 | d::l=>max (D.deep d) (D.deepL l)
end
section
variable {X:Cx}
end
section
variable {X:Cx}
def ck7 (K:ah):R2:=λ x y H Q=>∃ a b xs ys,x=.ref a/\y=.ref b/\SqT K H a xs/\SqT K H b ys/\xs.length+ys.length<=aO/\∀ p H',ae2 H H'->SqT K H' p (xs++ys)->(H' p=some (.tup (xs++ys))\/(p=a/\ys=[])\/(p=b/\xs=[]))->Q (.ref p) H'
theorem bL9 {ws:yG}(Z:IsTup s.heap t ([]:yG).toArray)(hb:IsTup s.heap b ws.toArray)(h1:Q (.ref b) s) :
  wpAny (model prog w) A (cG .Add (.ref t) (.ref b)) Q E s:=by
 obtain⟨⟨cls,dd,data,sl⟩,ho,hc,n,hd⟩:=id Z
 obtain⟨⟨Y,J,Cc,G⟩,y,h,n2,z⟩:=id hb
 simp only at hc hd h z
 subst hc hd h z
 exact jZ ⟨_,ho,rfl⟩ ⟨_,y,rfl⟩ gX jB eT eK (eA _ _)
   (tuple_addW0 t b _ ws.toArray n n2 dd J sl G rfl) ⟨ho,y,h1⟩
theorem bL6 {K}(hK:X.K=K):OpR X (cG .Add) (ck7 K):=by
 subst hK
 intro Cc s W H x y v u Q I G J h
 obtain⟨a,b,Y,ys,e1,e2,ha,hb,hz,q⟩:=h
 by_cases hx:Y=[]
 .subst e1;subst e2;subst hx
  cases G;cases J
  obtain⟨its,r1,p1,_⟩:=I.tuple ha
  obtain⟨Z,r2,p2,_⟩:=I.tuple hb
  obtain rfl:its=[]:=r1.nil_iff.mpr rfl
  exact bL9 p1 p2 ⟨.ref b,H,I,rfl,q b H (ae2.refl H) hb (.inr (.inr ⟨rfl,rfl⟩))⟩
 .refine bC6 Cc s W H x y v u Q I G J ⟨a,b,Y,ys,e1,e2,ha,hb,hx,hz,λ z=>?_,λ z p hp=>?_⟩
  .subst z
   exact q a H (ae2.refl H) (by rw[bp];exact ha) (.inr (.inl ⟨rfl,rfl⟩))
  .exact q p _ ((ae2.refl H).new hp) (SqT.of zd) (.inl zd)
def co9 (K:ah):V->Option Int->Option Int->Hp->VK->Prop:=λ x lo hi H Q=>∃ a xs,x=.ref a/\SqT K H a xs/\∀ p H',ae2 H H'->SqT K H' p (aO7 xs lo hi)->(H' p=some (.tup (aO7 xs lo hi))\/(p=a/\aO7 xs lo hi=xs))->Q (.ref p) H'
theorem at1 {y:yJ}(Cc:IsTup s.heap t y)(hs:s.heap.IsSliceOf sl vl vu .none)(pl:gQ vl z)(pu:gQ vu J)
  (hw:HT.sIx y.size 0 z=0/\HT.sIx y.size y.size J=y.size) (h:Q (.ref t) s):wpAny (model prog w) A (hX (.ref t) (.ref sl)) Q E s:=by
 obtain⟨os,Y,a0,a1⟩:=id hs
 have Z:s.TypeIs (.ref sl) "slice":=⟨os,Y,a0⟩
 unfold hX
 try with_reducible refine cf ?_
 first|refine ae (au ?_)|skip
 refine ae (j0 Cc.typeIs (by decide) ?_)
 refine ae (cr Cc.typeIs bu
  (cq bu Cc.typeIs jr ?_ (jO _ _)))
 show wpAny _ _ (d5 (.ref t) >>= _) _ _ s
 refine ae (jC Cc ?_)
 refine ae (hZ Z ?_)
 rw[if_pos (by decide)]
 refine ae (HT.sliceApplied_gen hs pl pu ?_)
 have G:((((HT.sIx y.size 0 z):Int)==0&&(1:Int)==1&&(HT.sIx y.size y.size J - HT.sIx y.size 0 z)==y.size)=true):=by
  rw[hw.1,hw.2]
  simp
 show wpAny _ _ (if(((HT.sIx y.size 0 z):Int)==0&&(1:Int)==1&&(HT.sIx y.size y.size J - HT.sIx y.size 0 z)==y.size)=true then _ else _) _ _ s
 rw[if_pos G]
 refine ae (ae (hZ Cc.typeIs (au ?_)))
 rw[if_pos (by decide)]
 exact ae (ii (au ⟨_,rfl,au h⟩))
theorem aq1 (h:HT.sIx y.length 0 Cc=0/\HT.sIx y.length y.length z=y.length):aO7 y Cc z=y:=by
 unfold aO7
 rw[h.1,h.2]
 simp
theorem by2 {K}(hK:X.K=K):SlR X (co9 K):=by
 subst hK
 intro Cc s W H x v vl vu lo G sl Q I J hs Y pu h
 obtain⟨a,y,e1,hx,q⟩:=h
 by_cases hw:HT.sIx y.length 0 lo=0/\HT.sIx y.length y.length G=y.length
 .subst e1
  cases J
  obtain⟨its,r,Z,hz⟩:=I.tuple hx
  have z:its.toArray.size=y.length:=by rw[aq];exact r.length.symm
  refine⟨"tuple",_,bu.lookup,Z.typeIs,?_⟩
  exact at1 Z hs Y pu (by rw[z];exact hw) ⟨.ref a,H,I,rfl,q a H (ae2.refl H) (by rw[aq1 hw];exact hx) (.inr ⟨rfl,aq1 hw⟩)⟩
 .exact bP4 Cc s W H x v vl vu lo G sl Q I J hs Y pu ⟨a,y,e1,hx,hw,λ p hp=>q p _ ((ae2.refl H).new hp) (SqT.of zd) (.inl zd)⟩
theorem bn8 {K}(h:X.K=K):SlR X (cm4 K):=by subst h;exact bC2
end
noncomputable def Its (x:Str):It:=⟨λ i _=>i<x.cps.size,λ i H v H'=>H'=H/\∃ c,x.cps[i]?=some c/\v=.str ⟨#[c]⟩,λ i _=>x.cps.size<=i⟩
theorem aN0 {K} it (hn:["enumerate", "zip", "dict_itemiterator", "dict_reverseitemiterator", "odict_iterator", "itertools.zip_longest", "itertools.pairwise"].contains G=false)
  (Ww:∀ A:aX,A.handled=none->Walks P w A it [it] [it] x.cps.size (SignAt x) (λ i h=>h.IsStrIter it G x t i))
  (J:∀(A:aX) (s:ai) (i:Nat) (Q:Option Value->ai->Prop) (E:Value->ai->Prop),A.handled=none->s.heap.IsStrIter it G x t i->x.cps[i]?=none->(∀ h',kH it s.heap h'->Q none { s with heap:=h' })->wpAny (model P w) A (gh (.ref it)) Q E s)
  (Cc:∀(A:aX) (i:Nat) (s:ai) (Q:Value->ai->Prop) (E:Value->ai->Prop),s.heap.IsStrIter it G x t i->Q (.ref it) s->wpAny (model P w) A (ki (.ref it)) Q E s):Turn P w K tg (Its x) [it] it (λ i h=>h.IsStrIter it G x t i) where
 mem:=by simp
 obj:=λ i h st b hb=>by
  have e:=by simpa using hb
  subst e
  obtain⟨o,ho,hc,hd⟩:=st
  exact⟨o,ho,λ v z=>by rw[hd]at z;cases z⟩
 keep:=λ i h h' st k=>by
  obtain⟨o,ho,r⟩:=st
  exact⟨o,k it (by simp) _ ho,r⟩
 item:=by
  intro X hP hw hK hc i y s W H E I Z st hg
  subst hP hw hK
  obtain⟨f0,f1,f2,f3,f4,f5⟩:=Z it (by simp)
  refine(Ww X.A (I.ok.hd hc)).item i s _ _ hg st λ v h' tk hv Y kk=>?_
  obtain⟨c,u,a1,rfl⟩:=hv
  have I1:Inv X y W H { s with heap:=h',toks:=tk }:=I.turned (λ b o hb e=>kk b o (by simpa using hb) e) f0 f1 f3 f4 f5
  obtain⟨o,ho,a0,hd⟩:=id Y
  exact⟨_,rfl,be5 ho a0 hd hn ⟨.str ⟨#[c]⟩,H,I1,⟨u,rfl⟩,⟨rfl,c,a1,rfl⟩,Y,λ b hb=>(Z b hb).1⟩⟩
 done:=by
  intro X hP hw hK hc i y s W H E I Z st hg
  subst hP hw hK
  obtain⟨f0,f1,f2,f3,f4,f5⟩:=Z it (by simp)
  have a2:x.cps.size<=i:=hg
  exact J X.A s i _ E (I.ok.hd hc) st (by simp;omega) λ h' eb=>⟨rfl,I.turned (λ b o hb e=>eb b o hb e) f0 f1 f3 f4 f5⟩
 self:=λ A i s Q E st h=>Cc A i s Q E st h
def cn0 (tl:TE):TI:=λ W H R=>tl W H λ v H1=>∃ x,v=.str x/\R (Its x) H1
theorem bQ5 (hl:PE X l Y):PI X tg l (cn0 Y):=by
 intro y s W H R I h
 refine thn (hl y s W H _ I h) λ v s1 ⟨v0,H1,J,r1,q1⟩=>?_
 obtain⟨x,e,q⟩:=q1
 subst e
 obtain⟨t,rfl⟩:=r1
 have fin:∀ G o ,o={ cls:=.type G,data:=.fields #[.str x t,.int 0 0] }->Turn X.prog X.w X.K tg (Its x) [s1.heap.objs.size] s1.heap.objs.size (λ i h=>h.IsStrIter s1.heap.objs.size G x t i)->PIE X y W tg R (.ref s1.heap.objs.size) { s1 with heap:=s1.heap.push o }:=λ G o Z T=>by
  subst Z
  refine⟨s1.heap.objs.size,[s1.heap.objs.size],_,_,H1,rfl,J.kept λ b o e=>af _ e,T,⟨_,aE _ rfl,rfl,rfl⟩,λ b hb=>?_,q⟩
  have e:=by simpa using hb
  subst e
  exact J.fpOk (aj _) (J.hok.fresh (aj _))
 cases ha:x.cps.all (·<128)
 .exact wpAny_pyIter_wide ha (fin "str_iterator" _ rfl (aN0 _ (by decide) (λ A z=>Walks.strWide z _ x t) (λ A s i Q E z st hx Cc=>wpAny_pyNext_wide_end z st hx Cc) λ A i s Q E st h=>wpAny_pyIter_striter_wide st h))
 .exact wpAny_pyIter_ascii ha (fin "str_ascii_iterator" _ rfl (aN0 _ (by decide) (λ A z=>Walks.strAscii z _ x t) (λ A s i Q E z st hx Cc=>wpAny_pyNext_ascii_end z st hx Cc) λ A i s Q E st h=>wpAny_pyIter_striter_ascii st h))
section
variable {X:Cx} {K:ah} {T id:String} {name:Str} {o e:Expr} {es:yK} {to:TE} {t:TA} {r:V->List V->Hp->VK->Prop} {apos cpos:Pos}
theorem bv3 (J:X.K=K)(pa:kW T)(slot:Slot T name id)(G:typeOf (.builtin id)=pure (.type "method_descriptor"))(Y:MtR X id r)(ho:PE X o to)(ha:PA X (e::es) t)
  (z:eB o name X.env (eval o X.env)=eval o X.env:=by rfl)
  (Cc:((dR cpos (bf (e::es) X.env)).all (λ x=>!x.1)&&(kX cpos (iR [] X.env)).all (λ x=>x.1.isSome)
   && decide ((e::es).length+([]:List gF).length+(if([]:List gF).isEmpty then 0 else 1)<30))=true:=by rfl)
  (y:(apos.endLine==cpos.line)=true:=by rfl) (hs:bf (e::es) X.env=(false,eval e X.env)::bf es X.env:=by rfl) (h:(dR cpos (bf es X.env)).any (·.1)=false:=by rfl) :
  PE X (.Call (.Attribute o name apos) (e::es) [] cpos) (tBM K T r to t):=by
 subst J
 exact cg2 pa slot G Y ho ha z Cc y hs h
end
structure Mach where
 letters:Int
 rooms:Int
 begins:List Int
 ends:List Int
 doors:List (Int×Str×Int×Int)
noncomputable def ce7 (q:Int×Str×Int×Int):D:=.tup [.int q.1,.str q.2.1,.int q.2.2.1,.int q.2.2.2]
noncomputable def Mach.D (M:Mach):D:=.tup [.int M.letters,.int M.rooms,.tup (M.begins.map .int),.tup (M.ends.map .int),.tup (M.doors.map ce7)]
noncomputable def ltr (i:Nat):Str:=⟨#[97+i]⟩
structure DoorOk (letters rooms:Int)(q:Int×Str×Int×Int):Prop where
 s0:0<=q.1
 s1:q.1<rooms
 l:∃ i:Nat,(i:Int)<letters/\q.2.1=ltr i
 g0:0<=q.2.2.1
 g1:q.2.2.1<rooms
 t0:0<=q.2.2.2
 t1:q.2.2.2<=3
structure RoomsOk (rooms:Int)(l:List Int):Prop where
 mem:∀ r∈l,0<=r/\r<rooms
 up:l.Pairwise (· < ·)
structure Mach.Ok (most:Nat)(M:Mach):Prop where
 l0:1<=M.letters
 l1:M.letters<=3
 r0:1<=M.rooms
 r1:M.rooms<=5
 b:RoomsOk M.rooms M.begins
 e:RoomsOk M.rooms M.ends
 d:∀ q∈M.doors,DoorOk M.letters M.rooms q
 m:M.doors.length<=most
mutual
noncomputable def D.tups:D->Bool
 | .lst _=>false
 | .tup l=>D.tupsL l
 | _=>true
noncomputable def D.tupsL:List D->Bool
 | []=>true
 | d::l=>D.tups d&&D.tupsL l
end
end L2
end
noncomputable section
namespace L2
end L2
end
noncomputable section
namespace L2
open PySem PySem.Spec PyProof.Rows
noncomputable def cq8:Option Int->D
 | none=>.non
 | some i=>.int i
noncomputable def addO:Option Int->Option Int->Option Int
 | some a,some b=>some (a+b)
 | _,_=>none
noncomputable def minO:List Int->Option Int
 | []=>none
 | a::l=>some (match minO l with|none=>a|some b=>if b<a then b else a)
theorem aR5 {pos a1 py} N' src 
  (hN:X.N.Nodup) (c0:X.N[i]?=some y) (a6:X.env.scope.names.lookup y=some .local)
  (b3:zV N' src scope X.N X.env.scope=true) (hi:PI X tg iter wi) (a3:X.calm=true)
  (b5:∀(Cc:Addr) (cells:yB) (s:ai) (H:Hp) (ex:List Addr),PG (zE X N' scope Cc cells s H ex) tg g/\PIf (zE X N' scope Cc cells s H ex) Z tc/\PE (zE X N' scope Cc cells s H ex) a0 te)
  (hs:∀ x,dW iter X.env x=pure x:=by intro _;rfl)
  (b2:ga (.ListComp a0 [⟨tg,iter,Z,0⟩] scope pos) (some (.Name y py)) a1.line X.env=pure true:=by rfl) :
  PS X (.Assign [.Name y py] (.ListComp a0 [⟨tg,iter,Z,0⟩] scope pos) a1) (bm7 (tComp src wi g tc te) (ay2 i)):=by
 intro G s W H D0 I h
 have ck:=bt9 b3
 rw[exec_Assign_Name_used _ _ _ _ b2]
 refine ae (jz (ae ?_))
 have c2:=qb λ y hy e=>I.ok.has y.1 (ck.fr y hy e)
 refine ae (bU (gR rfl hs c2 ck.kind ck.loc (thn (hi G s W H _ I h) λ v s1 h1=>thn h1 λ c4 s2 h2=>?_)) (λ _ s' hq=>au (au hq)) λ _ _ e=>e)
 obtain⟨it,Y,tn,J,H2,e,I2,T,b1,f2,Ww⟩:=h2
 subst e
 have hD:=I2.fresh
 obtain⟨Ww,⟨m0,w0⟩,turn⟩:=Ww _ hD
 have I3:=I2.lnew (t':=s2.toks) .nil (dZ _)
 have b0:∀ b∈Y,b<s2.heap.objs.size:=λ b hb=>by obtain⟨o,q,_⟩:=T.obj _ _ b1 b hb;exact aG q
 have f3:∀ b∈Y,FpOk X G (upd H2 s2.heap.objs.size (.lst [])) b:=λ b hb=>⟨by rw[za (aw (b0 b hb))];exact(f2 b hb).1,(f2 b hb).2⟩
 refine bB (ag0 ?_)
 generalize a2:({ s2 with heap:=s2.heap.push { cls:=.type "list",data:=.seq ([]:yG).toArray },toks:=s2.toks }:ai)=s3 at I3
 have c3:({ s2 with heap:=s2.heap.push { cls:=.type "list",data:=.seq ([]:yG).toArray } }:ai)=s3:=a2
 have c1:∀ b∈Y,b<s3.heap.objs.size:=λ b hb=>by
  rw[<-a2]
  show b<(s2.heap.push _).objs.size
  rw[bN]
  exact eV (b0 b hb)
 have I4:=ar3 (s4:={ s3 with heap:=ft (s3.heap.push { cls:=.type "dict",data:=.dict #[] }) scope.names }) ck I3 f3 c1 ⟨_,rfl⟩
 have a5:tn 0 (ft (s3.heap.push { cls:=.type "dict",data:=.dict #[] }) scope.names):=T.keep _ _ _ b1 λ b hb o e=>dJ _ _ b o (af _ (by rw[<-a2];exact af _ e))
 obtain⟨hg,hif,he⟩:=b5 s3.heap.objs.size (aR (s3.heap.objs.size+1) scope.names (ad7 X.env.cells scope.names [])) s3 (upd H2 s2.heap.objs.size (.lst [])) Y
 have a4:∀ H':Hp,(∀ b∈Y,H' b=none)->∀ b∈Y,FpOk (zE X N' scope s3.heap.objs.size (aR (s3.heap.objs.size+1) scope.names (ad7 X.env.cells scope.names [])) s3 (upd H2 s2.heap.objs.size (.lst [])) Y) [] H' b:=λ H' hn b hb =>
  ⟨hn b hb,(I4.ok.exf b hb).1,I4.ok.exfs b hb,.inl hb,λ x c e=>(I4.ok.exf b hb).2 x c e,λ p hp=>absurd (show p∈([]:yA)from hp) (by simp)⟩
 have T':Turn X.prog X.w X.K tg J Y it tn:=T
 have b4:∀ b∈Y,upd H2 s2.heap.objs.size (.lst []) b=none:=λ b hb=>(f3 b hb).1
 have L:=ax1 (X':=zE X N' scope s3.heap.objs.size (aR (s3.heap.objs.size+1) scope.names (ad7 X.env.cells scope.names [])) s3 (upd H2 s2.heap.objs.size (.lst [])) Y) (R:=compPost (model X.prog X.w) X.A X.xe (some (hJ (.Name y py) X.env)) (λ _ s'=>SP X G D0 .next s') (Value.ref s2.heap.objs.size) s3.heap.objs.size) (iter:=iter) (scope:=scope) (pos:=pos) (QD:=λ H'=>D0.nx (W.set i (some (.ref s2.heap.objs.size))) H') rfl a3 I4 T' a5 a4 b4 w0 turn hg hif he
  (λ W' H' s' J' q=>by
   have J2:=aK1 I3 f3 J' (Heap.SameBut.refl _ _)
   obtain⟨mm,hn,_⟩:=J'.loc
   have nL:s3.heap.objs.size≠X.env.locals:=cu I3.lt
   have nC:∀ x c,X.env.cells.lookup x=some c->c≠s3.heap.objs.size:=λ x c e=>by
    obtain⟨v,z⟩:=I3.cell x c e
    exact aw z.lt
   show wpAny _ X.A (hJ (.Name y py) X.env (.ref s2.heap.objs.size)) _ _ _
   refine jW (ax2 (v:=.ref s2.heap.objs.size) J2 hN c0 (.inl a6) rfl (λ s5 I5 sb=>?_) (.inr a6))
   obtain⟨aa,sb,ha⟩:=sb
   have na:s3.heap.objs.size≠aa:=by
    rcases ha with z|z
    .rw[z];exact nL
    .exact λ e=>nC _ _ z e.symm
   refine⟨mm,hn.sameBut sb na,λ h' b6=>⟨_,H',I5.turned (t':=s5.toks) (λ b o hb e=>(b6.2 b hb).trans e) J'.free nL (.inr I3.sz) nC λ p hp z=>?_,q⟩⟩
   exact absurd (aG (I3.pin p hp).1) (by rw[z];exact bF _))
 exact ig L (T.self _ _ _ _ _ a5 L)
def cq2:V->Option Int->Option Int->Hp->VK->Prop:=λ x lo hi H Q=>∃ z,x=.str z/\z.length<=aO/\Q (.str (fM z lo hi)) H
theorem aA1 (p:gQ v o):∃ q,v=partValue q/\q.map (·.1)=o:=by
 cases p with
 | none=>exact⟨none,rfl,rfl⟩
 | int i t=>exact⟨some (i,t),rfl,rfl⟩
theorem bT5 :SlR X cq2:=by
 intro Y s W H x v vl vu G Cc sl Q I rx hs pl pu h
 obtain⟨z,rfl,hz,q⟩:=h
 obtain⟨t,rfl⟩:=rx
 obtain⟨l,rfl,el⟩:=aA1 pl
 obtain⟨u,rfl,Z⟩:=aA1 pu
 refine⟨"str",_,F.slot_str_getitem.lookup,kU s z t,?_⟩
 refine wpAny_getItem_str_slice (st:=none) hs rfl ?_
 unfold sliceMade
 have e:slicePicked z l u none=bJ G Cc 1 z.length:=by
  unfold slicePicked
  rw[el,Z]
  rfl
 rw[e]
 unfold fM at q
 split
 .rename_i hc
  have y:((1:Int)==1&&(bJ G Cc 1 z.length).length==z.length)=true:=hc
  rw[if_pos y]at q
  exact⟨.str z,H,I,⟨t,rfl⟩,q⟩
 .rename_i hc
  have y:¬((1:Int)==1&&(bJ G Cc 1 z.length).length==z.length)=true:=hc
  rw[if_neg y]at q
  have J:=by
   show(iV (λ x=>z.cps[x]?) (bJ G Cc 1 z.length)).toArray.size<=aO
   rw[aq]
   exact am (dk _ _) (am (sliceIndices_le G Cc z.length) hz)
  exact⟨J,.str _,H,I.tok _,⟨_,rfl⟩,q⟩
section
variable {M:Model} {A:aX} {E:Value->ai->Prop} {s₀ s:ai} {m cm:yC} {env:Env} {cs:yB}
theorem bM3 (z:gG s₀ env.locals m cs cm s)(Cc:env.scope.kind=.function)(kl:env.kindOf n=some .local)
  (go:∀ s',gG s₀ env.locals (λ y=>if y=n then some v else m y) cs cm s'->Q () s'):wpAny M A (gW env n v) Q E s:=by
 refine iA kl z.toInCall.ns (λ g h gs=>go _ ⟨⟨?a,h,λ b o e=>?b,z.toInCall.fresh⟩,λ k c e=>?c,z.apart,z.above⟩) (by rw[Cc];rfl)
 case a=>obtain⟨G,tk,e⟩:=z.toInCall.same;subst e;exact⟨g,_,rfl⟩
 case b=>exact gs.extBut b o (aw (ao (aG e) z.toInCall.fresh)) (z.toInCall.keep b o e)
 case c=>exact(z.cell k c e).sameBut gs (cu (z.above k c (aF e)))
theorem bA2 (z:gG s₀ env.locals m cs cm s)(G:env.scope.kind=.function)(J:env.kindOf n=some .cell)
  (e1:env.cells.lookup n=some c) (e2:cs.lookup n=some c) (go:∀ s',gG s₀ env.locals m cs (λ y=>if y=n then some v else cm y) s'->Q () s'):wpAny M A (gW env n v) Q E s:=by
 have up:=z.above n c (aF e2)
 refine iM G J e1 (z.cell n c e2) λ g Cc gs=>go _ ⟨⟨?a,z.toInCall.ns.sameBut gs (aw up),λ b o e=>?b,z.toInCall.fresh⟩,λ k h e=>?c,z.apart,z.above⟩
 case a=>obtain⟨Y,tk,e⟩:=z.toInCall.same;subst e;exact⟨g,_,rfl⟩
 case b=>exact gs.extBut b o (aw (eW (ao (aG e) z.toInCall.fresh) up)) (z.toInCall.keep b o e)
 case c =>
  by_cases q:k=n
  .subst q
   rw[e2]at e;cases e
   simpa using Cc
  .rw[if_neg q]
   exact(z.cell k h e).sameBut gs λ y=>q (hV z.apart (aF e) (y▸aF e2))
theorem aG2 (f:Str×Value->PUnit->Sem (ForInStep PUnit))(Y:∀ n v u,f (n,v) u=(do gW env n v;pure (.yield ⟨⟩)))(G:env.scope.kind=.function)(sub:∀ n c,cs.lookup n=some c->env.cells.lookup n=some c) :
  ∀ bs (m J:yC) s Q ,gG s₀ env.locals m cs J s ->
   (∀ y∈bs,env.kindOf y.1=some .local\/(env.kindOf y.1=some .cell/\∃ c,cs.lookup y.1=some c)) ->
   (∀ s',gG s₀ env.locals (bindL env.kindOf bs m) cs (bindC env.kindOf bs J) s'->Q ⟨⟩ s')->wpAny M A (forIn bs ⟨⟩ f) Q E s
 | [],m,J,s,Q,z,_,go=>by rw[iU];exact au (go s z)
 | (n,v)::r,m,J,s,Q,z,hy,go=>by
  rw[kL,Y]
  have hr:=λ y (q)=>hy y (ar _ q)
  rcases hy (n,v) az with kl|⟨kc,c,e2⟩
  .refine ae (ae (bM3 z G kl λ s' Z=>au (aG2 f Y G sub r _ _ s' Q Z hr λ h Cc=>go h ?_)))
   unfold bindL bindC;rw[if_pos kl,if_pos kl];exact Cc
  .have nl:¬ env.kindOf n=some .local:=by rw[kc];decide
   refine ae (ae (bA2 z G kc (sub n c e2) e2 λ s' Z=>au (aG2 f Y G sub r _ _ s' Q Z hr λ h Cc=>go h ?_)))
   unfold bindL bindC;rw[if_neg nl,if_neg nl];exact Cc
end
theorem ah7 {h:yB}{func:yI}{code}
  (Cc:scope.kind=.function) (hy:∀ y∈binds,scope.names.lookup y.1=some .local\/(scope.names.lookup y.1=some .cell/\∃ c,(aR (s.heap.objs.size+1) scope.names []).lookup y.1=some c))
  (go:∀ env,env=newEnv scope s.heap.objs.size globals (aR (s.heap.objs.size+1) scope.names h) qual func code none builtins ->
   ∀ s',gG s env.locals (bindL env.kindOf binds λ _=>none) (aR (s.heap.objs.size+1) scope.names []) (bindC env.kindOf binds λ _=>none) s'->Q env s') :
  wpAny M A (gu scope globals h binds qual func code none builtins) Q E s:=by
 simp only[gu,bZ,cn,if_false]
 refine ae (wpAny_alloc (ae (wpAny_layCells _ (λ Y kd J=>by cases q:kd==NameKind.cell<;>simp[]) _ _ _ _ ?_)))
 have ok:=cellsFrom_ok scope.names (s.heap.push { cls:=.type "frame",data:=.dict #[] }) (s.heap.objs.size+1) [] ⟨λ _ _ G=>(nomatch G),List.Pairwise.nil⟩ (by rw[bN];exact aj _)
 have z:({ s with heap:=s.heap.push { cls:=.type "frame",data:=.dict #[] } }).heap.objs.size=s.heap.objs.size+1:=bN ..
 rw[bN]at ok
 rw[z]
 refine ae (aG2 (s₀:=s) (env:=newEnv scope s.heap.objs.size globals (aR (s.heap.objs.size+1) scope.names h) qual func code none builtins)
  _ (λ _ _ _=>rfl) Cc (λ n c e=>?sub) binds (λ _=>none) (λ _=>none) _ _ ⟨⟨⟨_,_,rfl⟩,?ns,λ b o e=>?k,aj _⟩,λ n c e=>(ok.empty n c (aF e)).1,ok.apart,λ n c e=>(ok.empty n c e).2⟩ hy λ s' x=>au (go _ rfl s' x))
 case sub =>
  show(aR _ _ _).lookup n=some c
  rw[zn,zy,e];rfl
 case ns=>exact(lR s.heap (.type "frame")).keeps (dJ _ _)
 case k=>exact dJ _ _ b o (af _ e)
noncomputable def zX (c:Addr)(qual:Str):HO:=.ext λ h=>h.CodeRec (.ref c) qual
noncomputable def ao9 (f:Addr)(fd:bQ):HO:=.ext λ h=>h.get? f=some { cls:=.type "function",data:=.func fd }
theorem aJ4 (r:h.CodeRec (.ref c) q):ab9 P w H h c (zX c q):=by
 refine⟨r,?_,λ G Cc z k=>?_⟩
 .obtain⟨y,o,vs,t,e,g,_⟩:=r
  cases e
  exact⟨o,g⟩
 .obtain⟨y,o,vs,t,e,g,d⟩:=z
  cases e
  exact⟨c,o,vs,t,rfl,k o g,d⟩
theorem al7 (x:HOk P w H h)(e:H c=some (zX c q)):h.CodeRec (.ref c) q:=(x c _ e).1
theorem av2 (r:h.get? f=some { cls:=.type "function",data:=.func y }):ab9 P w H h f (ao9 f y) :=
 ⟨r,⟨_,r⟩,λ _ _ z k=>k _ z⟩
theorem aj4 (x:HOk P w H h)(e:H f=some (ao9 f y)):h.get? f=some { cls:=.type "function",data:=.func y }:=(x f _ e).1
noncomputable def isC (cells:yB)(b:Addr):Bool:=cells.any λ p=>cells.lookup p.1==some b
theorem ae3 :isC cells b=true↔∃ x,cells.lookup x=some b:=by
 unfold isC
 rw[kx]
 constructor
 .rintro⟨p,_,e⟩;exact⟨p.1,by simpa using e⟩
 .rintro⟨x,e⟩;exact⟨(x,b),aF e,by simpa using e⟩
noncomputable def ab6 (cells:yB)(H:Hp):Hp:=λ b=>if isC cells b=true then none else H b
noncomputable def Put (cells:yB)(H H':Hp):Hp:=λ b=>if isC cells b=true then H b else H' b
theorem ab6.cell (h:isC cells b=true):ab6 cells H b=none:=if_pos h
theorem ab6.ne (h:isC cells b≠true):ab6 cells H b=H b:=if_neg h
theorem ab6.some (h:ab6 cells H b=some o):isC cells b≠true/\H b=some o:=by
 unfold ab6 at h
 split at h
 .cases h
 .rename_i z;exact⟨z,h⟩
theorem ab6.none (h:H b=none):ab6 cells H b=none:=by
 unfold ab6
 split
 .rfl
 .exact h
theorem Put.cell (h:isC cells b=true):Put cells H H' b=H b:=if_pos h
theorem Put.ne (h:isC cells b≠true):Put cells H H' b=H' b:=if_neg h
def Cells (clos:yB)(H:Hp):Prop:=∀ x c,clos.lookup x=some c->∃ o v,H c=some (.frz o (.own c))/\o.data=.cell v
theorem Cells.at (z:Cells y H)(h:isC y b=true):∃ o v,H b=some (.frz o (.own b))/\o.data=.cell v:=by
 obtain⟨x,e⟩:=ae3.mp h
 exact z x b e
def Cap (clos:yB)(H:Hp)(fr:yH)(cap:List V):Prop:=∀(i:Nat) x v ,fr[i]?=some x->cap[i]?=some v->∃ c o u,clos.lookup x=some c/\H c=some (.frz o (.own c))/\o.data=.cell (some u)/\RelV v u
structure LamScope (N ps fr:yH)(sc:Scope):Prop where
 kind:sc.kind=.function
 co:sc.isCoroutine=false
 gen:sc.isGenerator=false
 nd:N.Nodup
 app:N=ps++fr
 par:∀ x∈ps,sc.names.lookup x=some .local\/sc.names.lookup x=some .cell
 frs:∀ x∈fr,sc.names.lookup x=some .free
 cel:∀ y∈sc.names,y.2=.cell->sc.names.lookup y.1=some .cell
noncomputable def aF1 (P:aI)(w:World)(K:ah)(mg:yC)(base:Heap)(N:yH)(qual:Str)(scope:Scope)(f:Addr)(cd:Value)(clos:yB)(A:aX)(outer:List Env)(s:ai)(H:Hp):Cx where
 prog:=P
 w:=w
 K:=K
 mg:=mg
 base:=base
 A:=A.deeper (dF qual scope s.heap.objs.size f cd (aR (s.heap.objs.size+1) scope.names clos))
 N:=N
 s₀:=s
 H₀:=ab6 clos H
 env:=dF qual scope s.heap.objs.size f cd (aR (s.heap.objs.size+1) scope.names clos)
 outer:=outer
 stack:=dF qual scope s.heap.objs.size f cd (aR (s.heap.objs.size+1) scope.names clos)::outer
 ex:=[]
 fn:=λ x=>scope.names.lookup x==some .cell
 calm:=true
 pn:=[]
 xe:=λ _ _=>False
theorem HOk.drop (x:HOk P w H h)(z:Cells Cc H):HOk P w (ab6 Cc H) h:=λ b o e=>by
 obtain⟨_,e'⟩:=ab6.some e
 have J:∀ c u,H c=some u->(∀ o v,u≠.frz o v)->isC Cc c≠true:=λ c u q d y=>by
  obtain⟨o,v,G,_⟩:=z.at y
  rw[q]at G;cases G
  exact d _ _ rfl
 exact(x b o e').stay (λ _ _ _ q=>q) (λ c q=>by rw[ab6.ne (J c _ q λ _ _=>by nofun)];exact q) λ c Y q=>by rw[ab6.ne (J c _ q λ _ _=>by nofun)];exact q
theorem bc5 {K:ah}{us:yG}{vs cap:List V}
  (S:LamScope N ps fr scope) (hd:A.handled=none) (G:Env0 P w K mg base A Cc s H) (hl:vs.length=ps.length) (a4:cap.length=fr.length) (r:Vals vs us)
  (hc:Cells h H) (inj:∀ x y c,h.lookup x=some c->h.lookup y=some c->x=y) (a2:∀ x,scope.names.lookup x=some .free->∃ c,h.lookup x=some c) (a0:Cap h H fr cap)
  (x:gG s s.heap.objs.size (bindL (dF qual scope s.heap.objs.size f cd (aR (s.heap.objs.size+1) scope.names h)).kindOf (ps.zip us) λ _=>none) (aR (s.heap.objs.size+1) scope.names [])
   (bindC (dF qual scope s.heap.objs.size f cd (aR (s.heap.objs.size+1) scope.names h)).kindOf (ps.zip us) λ _=>none) s1) :
  Inv (aF1 P w K mg base N qual scope f cd h A Cc s H) [] (vs.map some++cap.map some) (ab6 h H) s1:=by
 obtain⟨h1,tk,rfl,hk⟩:=x.done
 have Y:∀ b:Addr,b ∉ (aF1 P w K mg base N qual scope f cd h A Cc s H).ex:=λ b z=>absurd (show b∈([]:List Addr)from z) (by simp)
 have lk:∀ y c,(aR (s.heap.objs.size+1) scope.names h).lookup y=some c->(aR (s.heap.objs.size+1) scope.names []).lookup y=some c\/((aR (s.heap.objs.size+1) scope.names []).lookup y=none/\h.lookup y=some c):=λ y c e=>by
  rw[zn,zy]at e
  cases q:(aR (s.heap.objs.size+1) scope.names []).lookup y with
  | some d=>rw[q]at e;left;simpa using e
  | none=>rw[q]at e;right;exact⟨rfl,by simpa using e⟩
 have own:∀ y c,(aR (s.heap.objs.size+1) scope.names []).lookup y=some c->s.heap.objs.size<c:=λ y c e=>x.above y c (aF e)
 have Z:∀ y c,h.lookup y=some c->c<s.heap.objs.size:=λ y c e=>by
  obtain⟨o,v,q,_⟩:=hc y c e
  exact G.hok.lt q
 have hx:∀ y c,h.lookup y=some c->scope.names.lookup y=some .free->(aR (s.heap.objs.size+1) scope.names h).lookup y=some c:=λ y c e k=>by
  rw[zn,zy]
  cases q:(aR (s.heap.objs.size+1) scope.names []).lookup y with
  | none=>exact e
  | some d =>
   rcases zw (aF q)with z|z
   .rw[S.cel _ z rfl]at k;cases k
   .exact absurd z (by simp)
 have dn:∀ b,H b=none->ab6 h H b=none:=λ b e=>ab6.none e
 refine⟨⟨G.mod,S.kind,rfl,rfl,aj _,λ y z c a b=>?inj,λ y hy=>?has,λ y c hy e=>?cab,λ _=>hd,iQ G.frames,.inr ⟨rfl,rfl⟩,λ b z=>absurd z (Y b),λ b o e=>⟨(G.bs b o e).1,dn b (G.bs b o e).2⟩,G.bsz,λ b _ _=>Y b,λ b z=>absurd z (Y b),G.funs,λ b hb=>dn b (G.frf b hb)⟩,
  rfl,G.bare,Un.kept hk,⟨_,x.toInCall.ns,λ i y v q1 q2 q3=>?loc⟩,λ y c e=>?cell,dn _ (G.hok.fresh (aj _)),λ y c e=>?freeC,λ p hp=>absurd (show p∈([]:yA)from hp) (by simp),(G.hok.drop hc).kept hk,?len⟩
 case inj =>
  rcases lk y c a with a|⟨_,a⟩<;>rcases lk z c b with b|⟨_,b⟩
  .exact hV x.apart (aF a) (aF b)
  .exact absurd (eW (own _ _ a) (Z _ _ b)) (bF _)
  .exact absurd (eW (own _ _ b) (Z _ _ a)) (bF _)
  .exact inj y z c a b
 case has =>
  have hy:scope.names.lookup y=some .cell\/scope.names.lookup y=some .free:=hy
  rcases hy with hy|hy
  .obtain⟨c,e⟩:=zS (n:=s.heap.objs.size+1) hy
   refine⟨c,?_⟩
   show(aR (s.heap.objs.size+1) scope.names h).lookup y=some c
   rw[zn,zy,e];rfl
  .obtain⟨c,e⟩:=a2 y hy
   exact⟨c,hx y c e hy⟩
 case cab =>
  have hy:(scope.names.lookup y==some .cell)=true:=hy
  have a3:scope.names.lookup y=some .cell:=by simpa using hy
  rcases lk y c e with a|⟨a,_⟩
  .exact dC (own y c a)
  .obtain⟨d,q⟩:=zS (n:=s.heap.objs.size+1) a3
   rw[q]at a;cases a
 case loc =>
  have a1:ps.Nodup:=by have:=S.nd;rw[S.app]at this;exact(j8.mp this).1
  by_cases hi:i<vs.length
  .have ha:vs[i]?=some v:=by
    rw[aQ (by simpa using hi),ay]at q2
    cases e:vs[i]? with
    | none=>rw[e]at q2;cases q2
    | some a=>rw[e]at q2;cases q2;rfl
   obtain⟨u,hu,rv⟩:=r.get ha
   have hp:ps[i]?=some y:=by
    have J:N[i]?=some y:=q1
    rw[S.app,aQ (by lia)]at J;exact J
   refine⟨u,rv,?_⟩
   rcases S.par y (aN hp)with k|k
   .exact .inl ⟨k,af9 a1 hp hu k⟩
   .obtain⟨c,e⟩:=zS (n:=s.heap.objs.size+1) k
    refine .inr ⟨.inl k,c,?_,?_⟩
    .show(aR (s.heap.objs.size+1) scope.names h).lookup y=some c
     rw[zn,zy,e];rfl
    .have q:=x.cell y c e
     rw[an3 a1 hp hu (by show scope.names.lookup y≠_;rw[k];decide)]at q
     exact q
  .have hf:fr[i - vs.length]?=some y:=by
    have J:N[i]?=some y:=q1
    rw[S.app,aP (by lia)]at J;rw[hl];exact J
   have hv:cap[i - vs.length]?=some v:=by
    rw[aP (by simpa using hi),ay,ax]at q2
    cases e:cap[i - vs.length]? with
    | none=>rw[e]at q2;cases q2
    | some a=>rw[e]at q2;cases q2;rfl
   obtain⟨c,o,u,e1,e2,e3,e4⟩:=a0 _ y v hf hv
   have kf:=S.frs y (aN hf)
   refine⟨u,e4,.inr ⟨.inr kf,c,hx y c e1 kf,?_⟩⟩
   exact⟨o,hk c o (G.hok c _ e2).1,e3⟩
 case cell =>
  rcases lk y c e with a|⟨_,a⟩
  .exact⟨_,x.cell y c a⟩
  .obtain⟨o,v,q,d⟩:=hc y c a
   exact⟨v,o,hk c o (G.hok c _ q).1,d⟩
 case freeC =>
  rcases lk y c e with a|⟨_,a⟩
  .exact dn c (G.hok.fresh (dC (own y c a)))
  .exact ab6.cell (ae3.mpr ⟨y,a⟩)
 case len =>
  show _=N.length
  rw[S.app]
  simp[hl,a4]
theorem aT1 {s s':ai}(hok:HOk P w H s.heap)(hc:Cells h H)(frf:∀ b∈frs Cc,H b=none)
  (un:Un (frs Cc) [] (ab6 h H) H' s.heap s'.heap) (Y:HOk P w H' s'.heap):Un (frs Cc) [] H (Put h H H') s.heap s'.heap/\HOk P w (Put h H H') s'.heap:=by
 have nc:∀ b,H b=none->isC h b≠true:=λ b e y=>by
  obtain⟨o,v,q,_⟩:=hc.at y
  rw[e]at q;cases q
 have G:∀ c u,H c=some u->(∀ o v,u≠.frz o v)->isC h c≠true:=λ c u q d y=>by
  obtain⟨o,v,Z,_⟩:=hc.at y
  rw[q]at Z;cases Z
  exact d _ _ rfl
 have J:∀ b,isC h b=true->H' b=none:=λ b y=>by
  obtain⟨o,v,q,_⟩:=hc.at y
  exact un.free b o (hok b _ q).1 (ab6.cell y) (by simp)
 refine⟨⟨λ b o e n hb hx=>un.keep b o e (ab6.none n) hb hx,λ b o e n hb hx=>un.slot b o e (ab6.none n) hb hx,λ b o e n hx=>?_,λ b o e hx=>un.there b o e hx,λ b xs e=>?_,λ b o u e=>?_,λ b ps e=>?_⟩,λ b o e=>?_⟩
 .rw[Put.ne (nc b n)];exact un.free b o e (ab6.none n) hx
 .have z:=G b _ e λ _ _=>by nofun
  rw[Put.ne z];exact un.tups b xs (by rw[ab6.ne z];exact e)
 .by_cases z:isC h b=true
  .rw[Put.cell z];exact e
  .rw[Put.ne z];exact un.frzs b o u (by rw[ab6.ne z];exact e)
 .have z:=G b _ e λ _ _=>by nofun
  rw[Put.ne z];exact un.tbls b ps (by rw[ab6.ne z];exact e)
 .by_cases z:isC h b=true
  .rw[Put.cell z]at e
   obtain⟨ob,v,q,d⟩:=hc.at z
   rw[q]at e;cases e
   have g:=(hok b _ q).1
   have g':=un.keep b ob g (ab6.cell z) (λ y=>by rw[frf b y]at q;cases q) (by simp)
   exact⟨g',ob,g'⟩
  .rw[Put.ne z]at e
   have np:∀ c u,H' c=some u->Put h H H' c=some u:=λ c u q=>by
    rw[Put.ne λ y=>by rw[J c y]at q;cases q];exact q
   exact(Y b o e).stay (λ _ _ _ q=>q) (λ c q=>np c _ q) λ c xs q=>np c _ q
structure ClOk (P:aI)(w:World)(K:ah)(mg:yC)(base:Heap)(k:Nat)(R:Hp->Prop)(f:Addr)(sp:Sp):Prop where
 run:∀(A:aX) (outer:List Env) (s:ai) (H:Hp) (us:yG) (vs:List V) (Q:VK),Room k A->Env0 P w K mg base A outer s H->R H->Vals vs us->sp vs H Q E0 ->
  fx (model P w) A (.call (.ref f) ⟨us,[]⟩) (CR CX0 outer P w H s Q E0) s
theorem ClOk.ofFn {K}(F:FnOk P w K mg base CX0 k f Cc ps sp)(hb:Binds K Cc ps []):ClOk P w K mg base k (λ _=>True) f sp :=
 ⟨λ A y s H us vs Q G z _ r h=>by
  have hl:=F.len _ _ _ _ h
  have:=hb s us (z.mod.kin.keeps λ b o e=>(z.bs b o e).1) (by rw[bp,<-r.length];exact hl)
  rw[bp]at this
  exact F.run A y s H ⟨us,[]⟩ us vs Q E0 G z this r h⟩
def aA8 (H:Hp)(f:Addr)(qual:Str)(params:bh)(body:Expr)(scope:Scope)(fr:yH)(cap:List V)(clos:yB):Prop :=
 ∃ pm c' ctv,H f=some (ao9 f (bv "<lambda>" qual params body scope clos pm (.ref c') ctv))/\H c'=some (zX c' qual)/\Cells clos H /\
  (∀ x y c,clos.lookup x=some c->clos.lookup y=some c->x=y)/\(∀ x,scope.names.lookup x=some .free->∃ c,clos.lookup x=some c)/\Cap clos H fr cap
def BM (mg:yC)(base:Heap):Prop:=∃ bm ob,mg "__builtins__"=some (.ref bm)/\bm≠g9/\base.get? bm=some ob/\ob.cls=.type "module"/\ob.dict=some g9/\ob.data=.plain
def cm7 (cells:yB)(P:Addr)(qual:Str)(params:bh)(body:Expr)(scope:Scope)(pos:Pos):TE:=λ _ H Q =>
 ∃ ps:Array Value,H P=some (.tbl ps)/\i9 ps.toList /\
  (dw pos ps.toList=none->∀ c' f pm ctv,H c'=none->H f=none->c'≠f ->
   Q (.ref f) (upd (upd (upd H P (.tbl (ps++#[cF pos.line,cF pos.col,.ref c']))) c' (zX c' qual)) f (ao9 f (bv "<lambda>" qual params body scope (ad7 cells scope.names []) pm (.ref c') ctv)))) /\
  (∀ cv,dw pos ps.toList=some cv->∃ c',cv=.ref c'/\∀ f pm ctv,H f=none->Q (.ref f) (upd H f (ao9 f (bv "<lambda>" qual params body scope (ad7 cells scope.names []) pm (.ref c') ctv))))
noncomputable def lamCheck (scope xs:Scope):Bool:=scope.names.all λ y=>!(y.2==.free)||(xs.names.lookup y.1==some .cell||xs.names.lookup y.1==some .free)
theorem aA4 (Z:X.env.code=.ref c)(Cc:bO X.base c P)(hB:BM X.mg X.base)
  (c4:lamCheck scope X.env.scope=true) (c1:k6 params X.env=([],[]):=by rfl) :
  PE X (.Lambda params body scope pos) (cm7 X.env.cells P (X.env.qual ++ "<lambda>") params body scope pos):=by
 intro e0 s W H Q I h
 have d1:∀ y∈scope.names,y.2=.free->X.env.kindOf y.1=some .cell\/X.env.kindOf y.1=some .free:=λ y hy e=>by
  have z:=aZ.mp c4 y hy
  have z':=by simpa [e]using z
  exact z'
 obtain⟨ps,hP,ht,b0,a3⟩:=h
 refine PySem.W.kla_eval c1 ?_
 have a6:=qb λ y hy e=>I.ok.has y.1 (d1 y hy e)
 have oP:=I.hok P _ hP
 have a0:=I.mod.glob.keeps I.bk
 have hC:=Cc.keeps I.bk
 have d0:bE≠P:=λ q=>by
  obtain⟨o,es,ep,e,d,_⟩:=a0
  rw[q,oP]at e;cases e;cases d
 have hb:s.heap.BuiltinsAt X.mg P:=by
  obtain⟨bm,ob,b1,b2,b3,b4,b5,b6⟩:=hB
  refine⟨bm,ob,b1,b2,λ q=>?_,λ q=>?_,I.bk _ _ b3,b4,b5,b6⟩
  .obtain⟨o,es,ep,e,d,_⟩:=I.mod.glob
   rw[q,e]at b3;cases b3;rw[d]at b6;cases b6
  .have e:=I.bk _ _ b3
   rw[q,oP]at e;cases e;cases b4
 cases q:dw pos ps.toList with
 | none =>
  refine PySem.W.kla_makeFunction a6 I.ok.glob a0 Z hC oP ht q d0 hb λ G J h' tk hx hge hlt a4 c0=>?_
  have a1:=aG oP
  have d2:=cu (ao a1 hge)
  have d3:=cu (eW (ao a1 hge) hlt)
  have c3:=aw hlt
  have hsz:=am hge (dC hlt)
  have nP:∀ b,H b=none->b≠P:=λ b n z=>by rw[z,hP]at n;cases n
  have lt:∀ b o,H b=some o->b≠G/\b≠h'.objs.size:=λ b o e=>⟨aw (ao (I.hok.lt e) hge),aw (ao (I.hok.lt e) hsz)⟩
  have a2:∀ b o,s.heap.get? b=some o->b≠G/\b≠h'.objs.size:=λ b o e=>⟨aw (ao (aG e) hge),aw (ao (aG e) hsz)⟩
  have keep:∀ b o,b≠P->s.heap.get? b=some o->(h'.push (PySem.W.kla_obj "<lambda>" (X.env.qual ++ "<lambda>") params body scope (ad7 X.env.cells scope.names []) ((X.mg "__name__").getD .none) G J)).get? b=some o:=λ b o n e=>af _ (hx b o n e)
  have Y:∀ b,b≠P->b≠G->b≠h'.objs.size->∀ o1 o2 o3,upd (upd (upd H P o1) G o2) h'.objs.size o3 b=H b:=λ b n1 n2 n3 o1 o2 o3=>by rw[za n3,za n2,za n1]
  refine⟨.ref h'.objs.size,upd (upd (upd H P (.tbl (ps++#[cF pos.line,cF pos.col,.ref G]))) G (zX G (X.env.qual ++ "<lambda>"))) h'.objs.size (ao9 h'.objs.size (bv "<lambda>" (X.env.qual ++ "<lambda>") params body scope (ad7 X.env.cells scope.names []) ((X.mg "__name__").getD .none) (.ref G) J)),I.un ⟨λ b o e n _ _=>keep b o (nP b n) e,λ b o e n _ _=>⟨o.slots,keep b o (nP b n) e⟩,λ b o e n _=>?fr,λ b o e _=>?th,λ b xs e=>?tu,λ b o u e=>?fz,λ b qs e=>?tb⟩ ?ok,rfl,b0 q G h'.objs.size _ J (I.hok.fresh hge) (I.hok.fresh hsz) c3⟩
  case fr=>rw[Y b (nP b n) (a2 b o e).1 (a2 b o e).2];exact n
  case th =>
   by_cases z:b=P
   .subst z;exact⟨_,af _ c0⟩
   .exact⟨o,keep b o z e⟩
  case tu=>rw[Y b (λ z=>by rw[z,hP]at e;cases e) (lt b _ e).1 (lt b _ e).2];exact e
  case fz=>rw[Y b (λ z=>by rw[z,hP]at e;cases e) (lt b _ e).1 (lt b _ e).2];exact e
  case tb =>
   by_cases z:b=P
   .subst z
    rw[hP]at e;cases e
    exact⟨#[cF pos.line,cF pos.col,.ref G],by rw[za (bH d3),za (bH d2),zd]⟩
   .exact⟨#[],by rw[Y b z (lt b _ e).1 (lt b _ e).2,e];simp⟩
  case ok =>
   intro b o e
   by_cases zf:b=h'.objs.size
   .subst zf
    rw[zd]at e;cases e
    exact av2 (aE _ rfl)
   .rw[za zf]at e
    by_cases zc:b=G
    .subst zc
     rw[zd]at e;cases e
     obtain⟨c2,oc,vs,t,e1,e2,e3⟩:=a4
     exact aJ4 ⟨c2,oc,vs,t,e1,af _ e2,e3⟩
    .rw[za zc]at e
     by_cases zp:b=P
     .subst zp
      rw[zd]at e;cases e
      exact af _ c0
     .rw[za zp]at e
      have a5:∀ d u,H d=some u->(∀ ps,u≠.tbl ps)->upd (upd (upd H P (.tbl (ps++#[cF pos.line,cF pos.col,.ref G]))) G (zX G (X.env.qual ++ "<lambda>"))) h'.objs.size (ao9 h'.objs.size (bv "<lambda>" (X.env.qual ++ "<lambda>") params body scope (ad7 X.env.cells scope.names []) ((X.mg "__name__").getD .none) (.ref G) J)) d=some u:=λ d u e nt=>by
       rw[Y d (λ z=>by rw[z,hP]at e;cases e;exact nt _ rfl) (lt d _ e).1 (lt d _ e).2];exact e
      refine(I.hok b o e).stay (λ d u hd q=>keep d u ?_ q) (λ d q=>a5 d _ q λ _=>by nofun) λ d xs q=>a5 d _ q λ _=>by nofun
      rintro rfl
      rcases hd with hd|hd
      .exact zp hd.symm
      .rw[hP]at hd;cases hd
 | some cv =>
  obtain⟨G,rfl,hq⟩:=a3 cv q
  refine PySem.W.kla_makeFunctionHit a6 I.ok.glob a0 Z hC oP ht q hb λ J h' tk hk hsz=>?_
  refine⟨.ref h'.objs.size,_,I.laid (λ b o e=>af _ (hk b o e)) hsz (av2 (aE _ rfl)),rfl,hq h'.objs.size _ J (I.hok.fresh hsz)⟩
structure Caught (cl:yB)(N:yH)(kd:Str->Option bV)(W:St)(H1 H2:Hp):Prop where
 ne:∀ b,isC cl b≠true->H2 b=H1 b
 free:∀ b,isC cl b=true->H1 b=none
 cells:Cells cl H2
 cap:∀(i:Nat) (x:Str) (v:V) (c:Addr),N[i]?=some x->W[i]?=some (some v)->(kd x=some .cell\/kd x=some .free)->cl.lookup x=some c->∃ o u,H2 c=some (.frz o (.own c))/\o.data=.cell (some u)/\RelV v u
 inj:∀ x y c,cl.lookup x=some c->cl.lookup y=some c->x=y
def bO4 (cl:yB)(N:yH)(kd:Str->Option bV)(sp:Sp)(t:TA):TE:=λ W H Q=>t W H λ vs H1=>∀ H2,Caught cl N kd W H1 H2->sp vs H2 (λ v H3=>Q v (ab6 cl H3)) E0
theorem bE3 {W:St}{us:yG}(F:FnOk X.prog X.w X.K X.mg X.base CX0 k f fd ps sp)(hr:Room k X.A)(hb:Binds X.K fd ps [])
  (b0:∀ x,X.fn x=true) (I:Inv X J W H s) (r:Vals vs us) (h:∀ H2,Caught X.env.cells X.N X.env.kindOf W H H2->sp vs H2 (λ v Y=>Q v (ab6 X.env.cells Y)) E0):wpAny (model X.prog X.w) X.A (call (.ref f) us) (EP X J W Q) X.xe s:=by
 let H2:Hp:=λ b=>if isC X.env.cells b=true then(s.heap.get? b).map λ o=>.frz o (.own b)else H b
 have Cc:∀ b,isC X.env.cells b≠true->H2 b=H b:=λ b z=>if_neg z
 have G:∀ b,isC X.env.cells b=true->∃ o v,s.heap.get? b=some o/\o.data=.cell v/\H2 b=some (.frz o (.own b)):=λ b z=>by
  obtain⟨x,e⟩:=ae3.mp z
  obtain⟨v,o,g,d⟩:=I.cell x b e
  exact⟨o,v,g,d,by show(if _ then _ else _)=_;rw[if_pos z,g];rfl⟩
 have fr:∀ b,isC X.env.cells b=true->H b=none:=λ b z=>by
  obtain⟨x,e⟩:=ae3.mp z
  exact I.freeC x b e
 have up:∀ b,isC X.env.cells b=true->X.s₀.heap.objs.size<=b:=λ b z=>by
  obtain⟨x,e⟩:=ae3.mp z
  exact I.ok.cab x b (b0 x) e
 have a5:∀ b o,X.s₀.heap.get? b=some o->isC X.env.cells b≠true:=λ b o e z=>absurd (ao (aG e) (up b z)) (bF _)
 have a3:∀ b∈frs X.stack,isC X.env.cells b≠true:=λ b hb z=>by
  rcases av.mp (I.stkSub b hb)with e|hb
  .obtain⟨x,e2⟩:=ae3.mp z
   exact I.cne x b e2 e
  .obtain⟨_,o,ho,_⟩:=I.ok.funs.mem hb
   exact a5 b o ho z
 have a6:HOk X.prog X.w H2 s.heap:=λ b o e=>by
  by_cases z:isC X.env.cells b=true
  .obtain⟨ob,v,g,d,q⟩:=G b z
   rw[q]at e;cases e
   exact⟨g,ob,g⟩
  .rw[Cc b z]at e
   have np:∀ c u,H c=some u->H2 c=some u:=λ c u q=>by rw[Cc c λ y=>by rw[fr c y]at q;cases q];exact q
   exact(I.hok b o e).stay (λ _ _ _ q=>q) (λ c q=>np c _ q) λ c xs q=>np c _ q
 have nb:∀ b o,X.base.get? b=some o->isC X.env.cells b≠true:=λ b o e=>a5 b o (I.ok.bs b o e).1
 have e0:Env0 X.prog X.w X.K X.mg X.base X.A X.stack s H2:=⟨I.ok.frames,I.ok.mod,λ b o e=>⟨(I.bs b o e).1,by rw[Cc b (nb b o e)];exact(I.bs b o e).2⟩,am I.ok.bsz I.sz,I.stack,λ b hb=>by rw[Cc b (a3 b hb)];exact I.stkFree b hb,a6,I.bare⟩
 have ca:Caught X.env.cells X.N X.env.kindOf W H H2:=⟨Cc,fr,λ x c e=>by
   obtain⟨o,v,g,d,q⟩:=G c (ae3.mpr ⟨x,e⟩)
   exact⟨o,v,q,d⟩,λ i x v c e1 e2 e3 e4=>by
   obtain⟨m,hn,hl⟩:=I.loc
   have vis:Vis X.env.scope x:=e3.elim (λ z=>.inr (.inl z)) λ z=>.inr (.inr z)
   obtain⟨u,ru,lk⟩:=hl i x v e1 e2 vis
   rcases lk with⟨z,_⟩|⟨_,c2,z1,z2⟩
   .rcases e3 with y|y<;>(rw[z]at y;cases y)
   .rw[e4]at z1;cases z1
    obtain⟨o,w',g,d,q⟩:=G c (ae3.mpr ⟨x,e4⟩)
    obtain⟨o2,g2,d2⟩:=z2
    rw[g]at g2;cases g2
    exact⟨o,u,q,d2,ru⟩,I.ok.inj⟩
 have a1:=h H2 ca
 have hl:=F.len _ _ _ _ a1
 have a0:=hb s us I.kIn (by rw[bp,<-r.length];exact hl)
 rw[bp]at a0
 refine jM (eR (F.run X.A X.stack s H2 ⟨us,[]⟩ us vs _ E0 hr e0 a0 r a1) λ r s' hq=>?_)
 cases r with
 | error e=>exact bM hq
 | ok fl =>
  cases fl with
  | next=>exact bM hq
  | brk=>exact bM hq
  | cont=>exact bM hq
  | ret u =>
   obtain⟨v,Y,os,bare,un,a4,rv,q⟩:=hq
   have a2:∀ b,isC X.env.cells b=true->∃ o,s.heap.get? b=some o/\s'.heap.get? b=some o/\Y b=some (.frz o (.own b)):=λ b z=>by
    obtain⟨o,v,g,d,q2⟩:=G b z
    have q3:=un.frzs b o _ q2
    exact⟨o,g,(a4 b _ q3).1,q3⟩
   have Z:∀ b u,H b=some u->isC X.env.cells b≠true:=λ b u e y=>by rw[fr b y]at e;cases e
   refine⟨v,_,I.call' (H':=ab6 X.env.cells Y) (ch:=[]) os ⟨λ b o e n hb hx=>?k,λ b o e n hb hx=>?sl,λ b o e n hx=>?fr,λ b o e hx=>un.there b o e hx,λ b xs e=>?tu,λ b o u e=>?fz,λ b ps e=>?tb⟩ (λ b o e=>?hok) bare (λ b z=>absurd z (by simp)),rv,q⟩
   case k =>
    by_cases z:isC X.env.cells b=true
    .obtain⟨o2,g,g',_⟩:=a2 b z
     rw[e]at g;cases g
     exact g'
    .exact un.keep b o e (by rw[Cc b z];exact n) hb hx
   case sl=>exact un.slot b o e (by rw[Cc b (a3 b hb)];exact n) hb hx
   case fr =>
    by_cases z:isC X.env.cells b=true
    .exact ab6.cell z
    .exact ab6.none (un.free b o e (by rw[Cc b z];exact n) hx)
   case tu =>
    rw[ab6.ne (Z b _ e)]
    exact un.tups b xs (by rw[Cc b (Z b _ e)];exact e)
   case fz =>
    rw[ab6.ne (Z b _ e)]
    exact un.frzs b o u (by rw[Cc b (Z b _ e)];exact e)
   case tb =>
    rw[ab6.ne (Z b _ e)]
    exact un.tbls b ps (by rw[Cc b (Z b _ e)];exact e)
   case hok =>
    obtain⟨z,e3⟩:=ab6.some e
    have np:∀ c u,Y c=some u->(∀ o w',u≠.frz o w')->ab6 X.env.cells Y c=some u:=λ c u q d=>by
     rw[ab6.ne λ y=>by obtain⟨o,_,_,q3⟩:=a2 c y;rw[q]at q3;cases q3;exact d _ _ rfl];exact q
    exact(a4 b o e3).stay (λ _ _ _ q=>q) (λ c q=>np c _ q λ _ _=>by nofun) λ c xs q=>np c _ q λ _ _=>by nofun
theorem aL2 {p pos}{es:yK}(F:FnOk X.prog X.w X.K X.mg X.base CX0 k f G ps sp)(Y:Room k X.A)(hg:Gl X x)(Z:X.mg x=some (.ref f))(hk:cH X.K (.ref f)=true)(hb:Binds X.K G ps [])
  (Cc:∀ x,X.fn x=true) (ha:PA X (e::es) t) (z:(x==("__debug__":Str))=false:=by decide) (he:bf (e::es) X.env=(false,eval e X.env)::bf es X.env:=by rfl) (hpl:(dR pos (bf es X.env)).any (·.1)=false:=by rfl) :
  PE X (.Call (.Name x p) (e::es) [] pos) (bO4 X.env.cells X.N X.env.kindOf sp t):=by
 intro y s W H Q I h
 refine cj (at7 I hg Z ?_ z)
 refine jN I.ok.mod.kin hk (thn (ha pos y s W H _ I h) λ us s1 ⟨vs,H1,J,r,q⟩=>⟨J.kIn,?_⟩) he hpl
 exact bE3 F Y hb Cc J r q
def bM1 (K:ah)(H:Hp)(f:Addr):Prop:=(∃ fd,H f=some (ao9 f fd))\/∃ oc od fd sl,K.lookup f=some ⟨oc,od,.func fd,sl⟩
theorem bM1.at {W:St}(h:bM1 X.K H f)(I:Inv X y W H s):PySem.W.FnAt f s.heap:=by
 rcases h with⟨z,h⟩|⟨oc,od,z,sl,h⟩
 .exact⟨_,_,_,_,aj4 I.hok h⟩
 .exact⟨_,_,_,_,I.kIn _ _ h⟩
def bV4 (P:aI)(w:World)(K:ah)(mg:yC)(base:Heap)(k:Nat)(i:Nat)(t:TA):TE:=λ W H Q=>∃ f,W[i]?=some (some (.ref f))/\bM1 K H f/\t W H λ vs H1=>bM1 K H1 f/\∃ R sp,ClOk P w K mg base k R f sp/\R H1/\sp vs H1 Q E0
theorem bT8 {W:St}{us:yG}(F:ClOk X.prog X.w X.K X.mg X.base k R f sp)(Cc:Room k X.A)(I:Inv X y W H s)(z:R H)(r:Vals vs us)(h:sp vs H Q E0) :
  wpAny (model X.prog X.w) X.A (call (.ref f) us) (EP X y W Q) X.xe s:=by
 refine jM (eR (F.run X.A X.stack s H us vs Q Cc I.env0 z r h) λ r s' hq=>?_)
 cases r with
 | error e=>exact bM hq
 | ok fl =>
  cases fl with
  | ret u=>exact I.after hq
  | next=>exact bM hq
  | brk=>exact bM hq
  | cont=>exact bM hq
theorem bg9 {X:Cx}{K}{mg:yC}{ pos}{es:yK}(hP:X.prog=P)(hw:X.w=w)(hK:X.K=K)(z:X.mg=mg)(Cc:X.base=base)(Z:Room k X.A)(hv:PE X (.Name x p) (bt4 i))(ha:PA X (e::es) t)
  (he:bf (e::es) X.env=(false,eval e X.env)::bf es X.env:=by rfl) (hpl:(dR pos (bf es X.env)).any (·.1)=false:=by rfl) :
  PE X (.Call (.Name x p) (e::es) [] pos) (bV4 P w K mg base k i t):=by
 subst hP hw hK z Cc
 intro y s W H Q I h
 obtain⟨f,Y,hf,ht⟩:=h
 refine cj (thn (hv y s W H (λ v H'=>v=.ref f/\H'=H) I ⟨.ref f,Y,rfl,rfl⟩) λ u s0 ⟨v,H0,J,r0,ev,eH⟩=>?_)
 subst ev
 subst eH
 cases r0
 exact PySem.W.callWith_F (hf.at J) (thn (ha pos y s0 W H0 _ J ht) λ us s1 ⟨vs,H1,G,r,hF,R,sp,F,hR,q⟩=>⟨hF.at G,bT8 F Z G hR r q⟩) he hpl
noncomputable def ax6 (K:ah)(names:yH):List (Str×Addr×Addr):=names.filterMap λ x=>(bq K x).map λ p=>(x,p)
theorem ar2 {K}:y∈ax6 K names↔y.1∈names/\bq K y.1=some y.2:=by
 unfold ax6
 rw[br]
 constructor
 .rintro⟨x,hx,e⟩
  obtain⟨p,hp,rfl⟩:=cy.mp e
  exact⟨hx,hp⟩
 .rintro⟨hx,e⟩
  exact⟨y.1,hx,by rw[e];rfl⟩
def bG1 (K:ah)(names:yH)(base:Heap):Prop:=∀ x∈names,∀ c P,bq K x=some (c,P)->bO base c P
def bG2 (K:ah)(names:yH)(H:Hp):Prop:=∀ x∈names,∀ c P,bq K x=some (c,P)->H P=some (.tbl #[])
noncomputable def bX8 (K:ah)(names:yH)(ts:List Addr):Bool:=names.all λ x=>match bq K x with
 | some (c,P)=>kz K c P&&ts.contains P
 | none=>true
theorem at8 {K}(h:(bq K x).isSome=true):bq K x=some (((bq K x).getD (0,0)).1,((bq K x).getD (0,0)).2):=by
 obtain⟨p,e⟩:=gP.mp h
 rw[e]
 rfl
def bZ1 (H:Hp)(P:Addr)(q:Str):Prop:=∃ ps:Array Value,H P=some (.tbl ps)/\i9 ps.toList/\∀ pos cv,dw pos ps.toList=some cv->∃ c',cv=.ref c'/\H c'=some (zX c' q)
def TabsH (T:List (Addr×Str))(H:Hp):Prop:=∀ y∈T,bZ1 H y.1 y.2
def aZ6 (H H':Hp):Prop:=∀ b o,(∀ ps,o≠.tbl ps)->H b=some o->H' b=some o
theorem aZ6.of (a:ae2 H y):aZ6 H y:=λ c o _ h=>a c o h
theorem TabsH.keep (h:TabsH T H)(k:∀ b o,(∀ Cc,o≠.lst Cc)->H b=some o->H' b=some o):TabsH T H':=λ y hy=>by
 obtain⟨ps,e,t,c⟩:=h y hy
 refine⟨ps,k _ _ (λ _=>by nofun) e,t,λ pos G q=>?_⟩
 obtain⟨z,e1,e2⟩:=c pos G q
 exact⟨z,e1,k _ _ (λ _=>by unfold zX;nofun) e2⟩
theorem TabsH.same (h:TabsH T H)(s:ae2 H H'):TabsH T H':=h.keep λ b o _ e=>s b o e
theorem TabsH.new (h:TabsH T H)(n:H a=none):TabsH T (upd H a o):=h.same ((ae2.refl H).new n)
theorem TabsH.put (h:TabsH T H)(n:H a=some (.lst y)):TabsH T (upd H a o):=h.keep λ b u d e=>by
 rw[za λ z=>by subst z;rw[n]at e;cases e;exact d _ rfl];exact e
theorem TabsH.init (h:∀ p∈T.map (·.1),H p=some (.tbl #[])):TabsH T H:=λ y hy =>
 ⟨#[],h _ (bw hy),trivial,λ pos z e=>by simp[dw]at e⟩
theorem codeAmong_add :∀(l:yG),i9 l->dw pos (l++[cF a,cF b,c])=some Cc->dw pos l=some Cc\/Cc=c:=by
 intro l
 fun_induction i9 l with
 | case1 =>
  intro _ e
  simp only[fL,dw,cF]at e
  split at e
  .exact .inr (aA e).symm
  .cases e
 | case2 x t y u z rest ih =>
  intro h e
  simp only[fq,dw]at e ⊢
  split at e
  .rename_i q
   left;rw[if_pos q];exact e
  .rename_i q
   rw[if_neg q];exact ih h e
 | case3 l h1 h2=>intro h;exact h.elim
theorem bq6 (Y:Caught cells N kd W Z H2)
  (hf:∃ pm J h,Z f=some (ao9 f (bv "<lambda>" q params body scope (ad7 cells scope.names []) pm (.ref J) h))/\Z J=some (zX J q))
  (G:∀ x,scope.names.lookup x=some .free->∃ c,cells.lookup x=some c)
  (Cc:∀(i:Nat) (x:Str) (v:V),fr[i]?=some x->cap[i]?=some v->scope.names.lookup x=some .free/\(kd x=some .cell\/kd x=some .free)/\∃ j:Nat,N[j]?=some x/\W[j]?=some (some v)) :
  aA8 H2 f q params body scope fr cap (ad7 cells scope.names []):=by
 obtain⟨pm,J,h,h1,h2⟩:=hf
 have up:∀ b o,Z b=some o->H2 b=some o:=λ b o e=>by
  rw[Y.ne b λ z=>by rw[Y.free b z]at e;cases e];exact e
 have sub:∀ x c,(ad7 cells scope.names []).lookup x=some c->cells.lookup x=some c:=λ x c e=>by
  rcases clOf_mem (aF e)with z|z
  .exact z
  .exact absurd z (by simp)
 refine⟨pm,J,h,up _ _ h1,up _ _ h2,λ x c e=>Y.cells x c (sub x c e),λ x y c e1 e2=>Y.inj x y c (sub x c e1) (sub y c e2),λ x k=>?_,λ i x v e1 e2=>?_⟩
 .obtain⟨c,e⟩:=G x k
  exact⟨c,qh e (aF k)⟩
 .obtain⟨k,kk,j,e3,e4⟩:=Cc i x v e1 e2
  obtain⟨c,e⟩:=G x k
  obtain⟨o,u,e5,e6,e7⟩:=Y.cap j x v c e3 e4 kk e
  exact⟨c,o,u,qh e (aF k),e5,e6,e7⟩
theorem Caught.same {cells}(y:Caught cells N kd W h H2):ae2 h H2:=λ b o e=>by
 rw[y.ne b λ z=>by rw[y.free b z]at e;cases e];exact e
theorem Fun.okC {K}{st}(F:Fun K x qual st f J)(G:J.code=.ref c)(S:FnScope N ps (defScope st))(len:∀ vs H Q E,sp vs H Q E->vs.length=ps.length)
  (z:∀(A:aX) (y:List Env) (s:ai) (H:Hp) (vs:List V) (Q:VK) (E:XK),Room k (A.deeper (gj qual (defScope st) s.heap.objs.size f (.ref c)))->sp vs H Q E ->
   ∃ t,PSs (bk8 CX0 P w K mg base N qual (defScope st) f (.ref c) A y s H E).nox (zD st) t/\t { nx:=λ _ H'=>Q .non H',rt:=Q } (ah3 N vs) H):FnOk P w K mg base CX0 (k+1) f J ps sp:=by
 obtain⟨oc,od,kV,a1,pm,an,Y,ct,a0,rfl,lk,hc⟩:=F.ex
 have e:=G
 subst e
 refine bT2 lk hc S len λ A y s H vs Q E Z Cc=>?_
 obtain⟨t,h,q⟩:=z A y s H vs Q E Z Cc
 exact⟨t,h.nox,q⟩
noncomputable def rowO (r:List (Option Int)):D:=.tup (r.map cq8)
theorem bb8 {K}(hc:X.calm=true)(hK:X.K=K):ac2 X (.builtin "min") (λ xs H Q=>∃ a ns,xs=[.ref a]/\SqL K H a (ns.map V.int)/\ns≠[]/\∀ m∈ns,(∀ y∈ns,m<=y)->Q (.int m) H):=by
 subst hK
 intro Z s W H xs us Q I r h
 obtain⟨a,ns,rfl,hS,hne,q⟩:=h
 obtain⟨u,rfl,ru⟩:=qX r
 cases ru
 obtain⟨its,rv,J,hz⟩:=I.list hS
 have hl:=rv.length
 rw[ax]at hl
 have a0:=fW.mpr hne
 refine call_min_walk (dT J.isList ?_)
 have Cc:a<s.heap.objs.size:=by obtain⟨o,_,e,_⟩:=J;exact aG e
 have Ww:=kZ (prog:=X.prog) (w:=X.w) (A:=X.A.in1) (I.ok.hd hc) s.heap.objs.size a (aw Cc) its.toArray
 let val:=λ i=>ns.getD i 0
 have G:∀ i v,its.toArray[i]?=some v->∃ t,v=Value.int (val i) t:=λ i v e=>by
  obtain⟨z,t,e1,e2⟩:=at0 rv (by rw[cC]at e;exact e)
  refine⟨t,?_⟩
  rw[e2]
  show Value.int z t=Value.int (ns.getD i 0) t
  rw[a7,e1]
  rfl
 refine⟨_,_,_,_,_,_,_,rfl,Ww,⟨⟨_,aE _ rfl,rfl,rfl⟩,?_⟩,λ b hb=>?_,by rw[aq];lia,jD val G,λ v h' tk hP k=>?_⟩
 .obtain⟨o,e,r⟩:=J.isList
  exact⟨o,af _ e,r⟩
 .skip
  rw[bN]
  rcases av.mp hb with z|z
  .rw[z];exact du _
  .have Y:=by simpa using z
   rw[Y];exact eV Cc
 .obtain⟨z,t,e1,e2⟩:=at0 rv (by rw[cC]at hP;exact hP)
  subst e2
  have hv:val (bL (λ i j=>decide (val i<val j)) (its.toArray.size - 1))=z:=by
   show ns.getD _ 0=z
   rw[a7,e1]
   rfl
  refine⟨.int z,H,I.kept λ b o q=>k b o ?_ (af _ q),⟨t,rfl⟩,q z (aN e1) λ y hy=>?_⟩
  .intro z
   have Y:=by simpa using z
   exact absurd (aG q) (by rw[Y];exact bF _)
  .obtain⟨j,hj,e3⟩:=dg.mp hy
   have:=jg val (its.toArray.size - 1) j (by simp only[aq];lia)
   rw[hv]at this
   have e4:val j=y:=by
    show ns.getD j 0=y
    rw[a7,ag hj]
    exact e3
   lia
noncomputable def mx (a b:Int):Int:=if b > a then b else a
section
variable {X:Cx}
end
noncomputable def mx3 (a b c:Int):Int:=mx (mx a b) c
noncomputable def rnd (x:Int):Int:=if x=0\/x=3 then x else 2
noncomputable def sharp (n:Nat)(s:Nat->Nat->Int)(i j:Nat):Int:=(minO ((aH n).map λ k=>mx3 (s i k) (rnd (s k k)) (s k j))).getD 3
section
variable {n:Nat} {s:Nat->Nat->Int}
end
def cn8 (cells:yB)(P:Addr)(name q:Str)(params:bh)(body:yL)(scope:Scope)(pos:Pos)(i:Nat):TS:=λ D W H =>
 ∃ ps:Array Value,H P=some (.tbl ps)/\i9 ps.toList /\
  (dw pos ps.toList=none->∀ c' f doc pm ctv,H c'=none->H f=none->c'≠f ->
   D.nx (W.set i (some (.ref f))) (upd (upd (upd H P (.tbl (ps++#[cF pos.line,cF pos.col,.ref c']))) c' (zX c' q)) f (ao9 f (cT name q params body scope (ad7 cells scope.names []) .none .none doc pm none (.ref c') ctv)))) /\
  (∀ cv,dw pos ps.toList=some cv->∃ c',cv=.ref c'/\∀ f doc pm ctv,H f=none->D.nx (W.set i (some (.ref f))) (upd H f (ao9 f (cT name q params body scope (ad7 cells scope.names []) .none .none doc pm none (.ref c') ctv))))
theorem cb0 {X}{params}{body:yL}{pos}(hN:X.N.Nodup)(hi:X.N[i]?=some name)(hx:Loc X.env.scope name)(a0:X.env.code=.ref c)(Cc:bO X.base c P)(hB:BM X.mg X.base)
  (d2:lamCheck scope X.env.scope=true) (hq:k7 X.env name name=q:=by rfl) (c4:params.defaults=[]:=by rfl) (e6:params.kw_defaults=[]:=by rfl) (ha:annTrees params none X.env=[]:=by rfl) (hf:X.fn name=true\/X.env.scope.names.lookup name=some .local:=by first|exact .inl rfl|exact .inr rfl) :
  PS X (.FunctionDef name params body [] none [] scope none name pos) (cn8 X.env.cells P name q params body scope pos i):=by
 intro a1 s W H D I h
 have e0:∀ y∈scope.names,y.2=.free->X.env.kindOf y.1=some .cell\/X.env.kindOf y.1=some .free:=λ y hy e=>by
  have z:=aZ.mp d2 y hy
  have z':X.env.scope.names.lookup y.1=some .cell\/X.env.scope.names.lookup y.1=some .free:=by simpa [e]using z
  exact z'
 obtain⟨ps,hP,ht,c3,a4⟩:=h
 refine PySem.W.nestDef_K c4 e6 ha ?_
 rw[hq]
 have fin:∀ {H2:Hp} {f:Addr} {s2:ai},Inv X a1 W H2 s2->D.nx (W.set i (some (.ref f))) H2->wpAny (model X.prog X.w) X.A (gW X.env name (.ref f)) (λ _ s3=>SP X a1 D .next s3) X.xe s2:=λ {H2 f s2} I2 q2=>av5 (v:=.ref f) I2 hN hi hx rfl (λ s3 I3=>⟨_,H2,I3,q2⟩) hf
 have c1:=qb (scope:=scope) (env:=X.env) λ y hy e=>I.ok.has y.1 (e0 y hy e)
 have oP:s.heap.get? P=some (eX ps):=I.hok P _ hP
 have a2:s.heap.Ns bE X.mg:=I.mod.glob.keeps I.bk
 have hC:bO s.heap c P:=Cc.keeps I.bk
 have d3:bE≠P:=λ q=>by
  obtain⟨o,es,ep,e,d,_⟩:=a2
  rw[q,oP]at e;cases e;cases d
 have hb:s.heap.BuiltinsAt X.mg P:=by
  obtain⟨bm,ob,b1,b2,b3,b4,b5,b6⟩:=hB
  refine⟨bm,ob,b1,b2,λ q=>?_,λ q=>?_,I.bk _ _ b3,b4,b5,b6⟩
  .obtain⟨o,es,ep,e,d,_⟩:=I.mod.glob
   rw[q,e]at b3;cases b3;rw[d]at b6;cases b6
  .have e:=I.bk _ _ b3
   rw[q,oP]at e;cases e;cases b4
 cases qq:dw pos ps.toList with
 | none =>
  refine PySem.W.makeFunction_K (mg:=X.mg) c1 I.ok.glob a2 a0 hC oP ht qq d3 hb λ G Y J h' tk hx hge hlt c0 a3=>?_
  have a5:P<s.heap.objs.size:=aG oP
  have e4:G≠P:=cu (ao a5 hge)
  have e5:h'.objs.size≠P:=cu (eW (ao a5 hge) hlt)
  have d0:G≠h'.objs.size:=aw hlt
  have hsz:s.heap.objs.size<=h'.objs.size:=am hge (dC hlt)
  have nP:∀ b,H b=none->b≠P:=λ b n z=>by rw[z,hP]at n;cases n
  have lt:∀ b o,H b=some o->b≠G/\b≠h'.objs.size:=λ b o e=>⟨aw (ao (I.hok.lt e) hge),aw (ao (I.hok.lt e) hsz)⟩
  have a6:∀ b o,s.heap.get? b=some o->b≠G/\b≠h'.objs.size:=λ b o e=>⟨aw (ao (aG e) hge),aw (ao (aG e) hsz)⟩
  have keep:∀ b o,b≠P->s.heap.get? b=some o->(h'.push (PySem.W.fnMade name q params body scope (ad7 X.env.cells scope.names []) J ((X.mg "__name__").getD .none) G Y)).get? b=some o:=λ b o n e=>af _ (hx b o n e)
  have Z:∀ b,b≠P->b≠G->b≠h'.objs.size->∀ o1 o2 o3,upd (upd (upd H P o1) G o2) h'.objs.size o3 b=H b:=λ b n1 n2 n3 o1 o2 o3=>by rw[za n3,za n2,za n1]
  refine fin (H2:=upd (upd (upd H P (.tbl (ps++#[cF pos.line,cF pos.col,.ref G]))) G (zX G q)) h'.objs.size (ao9 h'.objs.size (cT name q params body scope (ad7 X.env.cells scope.names []) .none .none J ((X.mg "__name__").getD .none) none (.ref G) Y))) (I.un (t':=tk) ⟨λ b o e n _ _=>keep b o (nP b n) e,λ b o e n _ _=>⟨o.slots,keep b o (nP b n) e⟩,λ b o e n _=>?fr,λ b o e _=>?th,λ b xs e=>?tu,λ b o u e=>?fz,λ b qs e=>?tb⟩ ?ok) (c3 qq G h'.objs.size J _ Y (I.hok.fresh hge) (I.hok.fresh hsz) d0)
  case fr=>rw[Z b (nP b n) (a6 b o e).1 (a6 b o e).2];exact n
  case th =>
   by_cases z:b=P
   .subst z;exact⟨_,af _ a3⟩
   .exact⟨o,keep b o z e⟩
  case tu=>rw[Z b (λ z=>by rw[z,hP]at e;cases e) (lt b _ e).1 (lt b _ e).2];exact e
  case fz=>rw[Z b (λ z=>by rw[z,hP]at e;cases e) (lt b _ e).1 (lt b _ e).2];exact e
  case tb =>
   by_cases z:b=P
   .subst z
    rw[hP]at e;cases e
    exact⟨#[cF pos.line,cF pos.col,.ref G],by rw[za (bH e5),za (bH e4),zd]⟩
   .exact⟨#[],by rw[Z b z (lt b _ e).1 (lt b _ e).2,e];simp⟩
  case ok =>
   intro b o e
   by_cases zf:b=h'.objs.size
   .subst zf
    rw[zd]at e;cases e
    exact av2 (aE _ rfl)
   .rw[za zf]at e
    by_cases zc:b=G
    .subst zc
     rw[zd]at e;cases e
     obtain⟨c2,oc,vs,t,e1,e2,e3⟩:=c0
     exact aJ4 ⟨c2,oc,vs,t,e1,af _ e2,e3⟩
    .rw[za zc]at e
     by_cases zp:b=P
     .subst zp
      rw[zd]at e;cases e
      exact af _ a3
     .rw[za zp]at e
      have b0:∀ d u,H d=some u->(∀ ps,u≠.tbl ps)->upd (upd (upd H P (.tbl (ps++#[cF pos.line,cF pos.col,.ref G]))) G (zX G q)) h'.objs.size (ao9 h'.objs.size (cT name q params body scope (ad7 X.env.cells scope.names []) .none .none J ((X.mg "__name__").getD .none) none (.ref G) Y)) d=some u:=λ d u e nt=>by
       rw[Z d (λ z=>by rw[z,hP]at e;cases e;exact nt _ rfl) (lt d _ e).1 (lt d _ e).2];exact e
      refine(I.hok b o e).stay (λ d u hd q=>keep d u ?_ q) (λ d q=>b0 d _ q λ _=>by nofun) λ d xs q=>b0 d _ q λ _=>by nofun
      rintro rfl
      rcases hd with hd|hd
      .exact zp hd.symm
      .rw[hP]at hd;cases hd
 | some cv =>
  obtain⟨G,rfl,d1⟩:=a4 cv qq
  refine PySem.W.makeFunction_hit (mg:=X.mg) c1 I.ok.glob a2 a0 hC oP ht qq hb λ Y J h' tk hk hsz=>?_
  exact fin (I.laid (t':=tk) (λ b o e=>af _ (hk b o e)) hsz (av2 (aE _ rfl))) (d1 h'.objs.size J _ Y (I.hok.fresh hsz))
def an8 (H:Hp)(f:Addr)(name qual:Str)(params:bh)(body:yL)(scope:Scope)(fr:yH)(cap:List V)(clos:yB):Prop :=
 ∃ doc pm c' ctv,H f=some (ao9 f (cT name qual params body scope clos .none .none doc pm none (.ref c') ctv))/\H c'=some (zX c' qual)/\Cells clos H /\
  (∀ x y c,clos.lookup x=some c->clos.lookup y=some c->x=y)/\(∀ x,scope.names.lookup x=some .free->∃ c,clos.lookup x=some c)/\Cap clos H fr cap
theorem bk3 {body:yL}(Z:Caught cells N kd W H1 H2)
  (hf:∃ h pm Y Cc,H1 f=some (ao9 f (cT name q params body scope (ad7 cells scope.names []) .none .none h pm none (.ref Y) Cc))/\H1 Y=some (zX Y q))
  (J:∀ x,scope.names.lookup x=some .free->∃ c,cells.lookup x=some c)
  (G:∀(i:Nat) (x:Str) (v:V),fr[i]?=some x->cap[i]?=some v->scope.names.lookup x=some .free/\(kd x=some .cell\/kd x=some .free)/\∃ j:Nat,N[j]?=some x/\W[j]?=some (some v)) :
  an8 H2 f name q params body scope fr cap (ad7 cells scope.names []):=by
 obtain⟨h,pm,Y,Cc,h1,h2⟩:=hf
 have up:∀ b o,H1 b=some o->H2 b=some o:=λ b o e=>by
  rw[Z.ne b λ z=>by rw[Z.free b z]at e;cases e];exact e
 have sub:∀ x c,(ad7 cells scope.names []).lookup x=some c->cells.lookup x=some c:=λ x c e=>by
  rcases clOf_mem (aF e)with z|z
  .exact z
  .exact absurd z (by simp)
 refine⟨h,pm,Y,Cc,up _ _ h1,up _ _ h2,λ x c e=>Z.cells x c (sub x c e),λ x y c e1 e2=>Z.inj x y c (sub x c e1) (sub y c e2),λ x k=>?_,λ i x v e1 e2=>?_⟩
 .obtain⟨c,e⟩:=J x k
  exact⟨c,qh e (aF k)⟩
 .obtain⟨k,kk,j,e3,e4⟩:=G i x v e1 e2
  obtain⟨c,e⟩:=J x k
  obtain⟨o,u,e5,e6,e7⟩:=Z.cap j x v c e3 e4 kk e
  exact⟨c,o,u,qh e (aF k),e5,e6,e7⟩
theorem an8.fn {K}(h:an8 H f name qual params body scope fr cap y):bM1 K H f:=by
 obtain⟨G,Y,J,z,Cc,_⟩:=h
 exact .inl ⟨_,Cc⟩
end L2
end
noncomputable section
namespace L2
open PySem PySem.Spec PyProof.Rows Builtin
section
variable {P:aI} {w:World} {A:aX} {E:Value->ai->Prop} {s:ai}
theorem aG3 {l:yJ}(y:s.heap.IsTupleIter it t i)(G:s.heap.IsTuple t l)(hv:l[i]?=some v)
  (k:∀ h',h'.IsTupleIter it t (i+1)->ci it s.heap h'->Q v { s with heap:=h' }):wpAny (model P w) A (b9 (.ref it)) Q E s:=by
 obtain⟨o,e1,e2,h⟩:=id y
 obtain⟨p,p1,_,n,Cc⟩:=G
 unfold b9
 refine ae (cr y.typeIs cY (cq cY y.typeIs fY ?_ (fN _)))
 show wpAny _ _ (field (.ref it) 0 >>= _) _ _ _
 refine ae (cA e1 h rfl ?_)
 rw[if_neg (λ z=>nomatch z)]
 refine ae (cA e1 h rfl ?_)
 refine ae (cX p1 Cc ?_)
 simp only[cz,hv]
 refine ae (wpAny_setField e1 h (by simp) (au ⟨v,rfl,au (k _ ⟨_,cB _ e1 (Obj.isFreed_of_fields (jQ h _)),(Obj.cls_mapFields ..).trans e2,by rw[jQ h];simp[cF]⟩ (jv ..))⟩))
theorem aS5 {l:yJ}(Cc:A.handled=none)(h:s.heap.IsTupleIter it t i)(J:s.heap.IsTuple t l)(hv:l[i]?=none)
  (k:∀ h' e,kH it s.heap h'->(∃ o,h'.get? e=some o/\o.cls=.type "StopIteration")->E (.ref e) { s with heap:=h' }):wpAny (model P w) A (b9 (.ref it)) Q E s:=by
 obtain⟨o,e1,e2,y⟩:=id h
 obtain⟨p,p1,_,n,G⟩:=J
 unfold b9
 refine ae (cr h.typeIs cY (cq cY h.typeIs fY ?_ (fN _)))
 show wpAny _ _ (field (.ref it) 0 >>= _) _ _ _
 refine ae (cA e1 y rfl ?_)
 rw[if_neg (λ z=>nomatch z)]
 refine ae (cA e1 y rfl ?_)
 refine ae (cX p1 G ?_)
 simp only[cz,hv]
 refine ae (ii (ae (wpAny_setField e1 y (by simp) ?_)))
 refine ae ?_
 simp only[newExc]
 refine ae (bB ?_ (by size_fits))
 refine ae (kG (by first|rfl|(simp only[];rfl)) (bB ?_ (by size_fits)))
 simp only[]
 refine ae (wpAny_handled ?_)
 first|rw[Cc]|rw[Cc]
 exact ae (au (wpAny_throw (k _ _ (((jv ..).extBut.push _).push _) ⟨_,aE _ rfl,rfl⟩)))
end
structure Dw (P:aI)(w:World)(K:ah)(J:It)(it:Addr)(tn:Nat->Heap->Prop):Prop where
 obj:∀ i h,tn i h->∃ o,h.get? it=some o/\∀ v,o.data≠.cell v
 keep:∀ i h h',tn i h->(∀ o,h.get? it=some o->h'.get? it=some o)->tn i h'
 item:∀(X:Cx),X.prog=P->X.w=w->X.K=K->∀(A:aX) (i:Nat) (pins:yA) (s:ai) (W:St) (H:Hp) (Q:Value->ai->Prop) (E:Value->ai->Prop),Inv X pins W H s->tn i s.heap->J.go i H ->
  (∀ x u h' tk,RelV x u->J.yld i H x H->tn (i+1) h'->ci it s.heap h'->Q u { s with heap:=h',toks:=tk })->wpAny (model P w) A (b9 (.ref it)) Q E s
 done:∀(X:Cx),X.prog=P->X.w=w->X.K=K->∀(A:aX) (i:Nat) (pins:yA) (s:ai) (W:St) (H:Hp) (Q:Value->ai->Prop) (E:Value->ai->Prop),A.handled=none->Inv X pins W H s->tn i s.heap->J.stop i H ->
  (∀ h' e,kH it s.heap h'->(∃ o,h'.get? e=some o/\o.cls=.type "StopIteration")->E (.ref e) { s with heap:=h' })->wpAny (model P w) A (b9 (.ref it)) Q E s
theorem bD3 {K} a it :Dw P w K (Itl K a) it (λ i h=>h.IsListIter it a i) where
 obj:=λ i h st=>by
  obtain⟨o,e,c,d⟩:=st
  exact⟨o,e,λ v z=>by rw[d]at z;cases z⟩
 keep:=λ i h h' st k=>st.at k
 item:=by
  intro X J hw G A i y s W H Q E I st hg k
  subst J hw G
  obtain⟨Z,x,hq,hx⟩:=hg
  obtain⟨its,rv,p,hz⟩:=I.list hq
  obtain⟨u,hu,ru⟩:=rv.get hx
  exact wpAny_nextOf_list_item st p.isList (by simpa using hu) λ h' Cc Y=>k x u h' s.toks ru ⟨rfl,λ ys hy=>by rw[I.list_inj hy hq];exact hx⟩ Cc Y
 done:=by
  intro X J hw G A i y s W H Q E hA I st hg k
  subst J hw G
  obtain⟨Z,hq,hx⟩:=hg
  obtain⟨its,rv,p,hz⟩:=I.list hq
  have hl:=rv.length
  exact wpAny_nextOf_list_end hA st p.isList (by simp;omega) k
theorem bO8 {K} a it :Dw P w K (Itt K a) it (λ i h=>h.IsTupleIter it a i) where
 obj:=λ i h st=>by
  obtain⟨o,e,c,d⟩:=st
  exact⟨o,e,λ v z=>by rw[d]at z;cases z⟩
 keep:=λ i h h' st k=>st.at k
 item:=by
  intro X J hw G A i y s W H Q E I st hg k
  subst J hw G
  obtain⟨Z,x,hq,hx⟩:=hg
  obtain⟨its,rv,p,hz⟩:=I.tuple hq
  obtain⟨u,hu,ru⟩:=rv.get hx
  exact aG3 st (p) (by simpa using hu) λ h' Cc Y=>k x u h' s.toks ru ⟨rfl,λ ys hy=>by rw[I.tuple_inj hy hq];exact hx⟩ Cc Y
 done:=by
  intro X J hw G A i y s W H Q E hA I st hg k
  subst J hw G
  obtain⟨Z,hq,hx⟩:=hg
  obtain⟨its,rv,p,hz⟩:=I.tuple hq
  have hl:=rv.length
  exact aS5 hA st (p) (by simp;omega) k
theorem bU6 {K} x t it :Dw P w K (Its x) it (λ i h=>h.IsStrIter it (iW x) x t i) where
 obj:=λ i h st=>by
  obtain⟨o,e,c,d⟩:=st
  exact⟨o,e,λ v z=>by rw[d]at z;cases z⟩
 keep:=λ i h h' st k=>by
  obtain⟨o,ho,r⟩:=st
  exact⟨o,k _ ho,r⟩
 item:=by
  intro X Z hw J A i G s W H Q E I st hg k
  subst Z hw J
  have y:i<x.cps.size:=hg
  have hc:x.cps[i]?=some x.cps[i]:=by simp[]
  unfold iW at st k
  cases ha:x.cps.all (·<128)
  .rw[ha]at st k
   exact wpAny_nextOf_wide_item st hc λ h' Cc Y=>k (.str ⟨#[x.cps[i]]⟩) _ h' (s.toks+1) ⟨_,rfl⟩ ⟨rfl,_,hc,rfl⟩ Cc Y
  .rw[ha]at st k
   exact wpAny_nextOf_ascii_item st hc λ h' Cc Y=>k (.str ⟨#[x.cps[i]]⟩) _ h' (s.toks+1) ⟨_,rfl⟩ ⟨rfl,_,hc,rfl⟩ Cc Y
 done:=by
  intro X Z hw J A i G s W H Q E hA I st hg k
  subst Z hw J
  have y:x.cps.size<=i:=hg
  have hc:x.cps[i]?=none:=by simp[y]
  unfold iW at st
  cases ha:x.cps.all (·<128)
  .rw[ha]at st
   exact wpAny_nextOf_wide_end hA st hc k
  .rw[ha]at st
   exact wpAny_nextOf_ascii_end hA st hc k
theorem Inv.turnedL {W:St}{Cc:List Addr}(I:Inv X h W H s)(f:∀ b∈Cc,FpOk X h H b)(k:∀ b o,b ∉ Cc->s.heap.get? b=some o->h'.get? b=some o):Inv X h W H { s with heap:=h',toks:=t' }:=by
 have y:∀ b u,H b=some u->b ∉ Cc:=λ b u e z=>by rw[(f b z).1]at e;cases e
 refine I.step (λ b hb=>?_) (λ b o _ _ hc e _=>k b o hc e) (λ b o _ _ hc e _=>⟨o.slots,k b o hc e⟩) (λ _ _ _ _ n=>n)
  (λ b o hc e=>⟨o,k b o hc e⟩) (λ _ _ e=>e) (λ _ _ _ e=>e) (λ b ps e=>⟨#[],by rw[e];simp⟩) (λ m Y=>?_) (λ b u e=>?_) I.bare
 .obtain⟨f0,Z,f2,f3,G,J⟩:=f b hb
  exact⟨f3,Z,G,J⟩
 .obtain⟨o,es,ep,ho,r⟩:=Y
  exact⟨o,es,ep,k _ o (λ z=>(f _ z).2.1 rfl) ho,r⟩
 .refine(I.hok b u e).stay (λ c v hc q=>k c v ?_ q) (λ _ q=>q) λ _ _ q=>q
  rcases hc with z|z
  .rw[z];exact y b u e
  .exact y c _ z
section
variable {X:Cx} {pins:yA} {W:St} {H:Hp} {s:ai} {A:aX} {E:Value->ai->Prop} {J1 J2:It} {t1 t2:Nat->Heap->Prop} {z ti to i1 i2:Addr} {n:Nat} {a b:Value}
end
def Mkr (v:Value)(o:Obj)(h:Heap):Prop:=∀ P w A E s Q ,(∀ b u,h.get? b=some u->s.heap.get? b=some u) ->
 Q (.ref s.heap.objs.size) { s with heap:=s.heap.push o }->wpAny (model P w) A (ki v) Q E s
def Sr (K:ah)(H:Hp)(x:V)(J:It):Prop:=(∃ a,x=.ref a/\(∃ xs,SqL K H a xs)/\J=Itl K a)\/(∃ a,x=.ref a/\(∃ xs,SqT K H a xs)/\J=Itt K a)\/∃ y,x=.str y/\J=Its y
theorem Sr.mk {W:St}(I:Inv X z W H s)(h:Sr X.K H x J)(r:RelV x u) :
  ∃(o:Obj) (Cc:Addr->Nat->Heap->Prop),o.isFreed=false/\Mkr u o s.heap/\(∀ it,Dw X.prog X.w X.K J it (Cc it))/\∀ it h',h'.get? it=some o->Cc it 0 h':=by
 rcases h with⟨a,e,⟨G,hq⟩,e'⟩|⟨a,e,⟨G,hq⟩,e'⟩|⟨y,e,e'⟩
 .subst e e';cases r
  obtain⟨its,rv,p,hz⟩:=I.list hq
  exact⟨_,λ it i h=>h.IsListIter it a i,rfl,λ P w A E s' Q hk q=>dT (p.isList.at λ o e=>hk _ _ e) q,λ it=>bD3 a it,λ it h' e=>⟨_,e,rfl,rfl⟩⟩
 .subst e e';cases r
  obtain⟨its,rv,p,hz⟩:=I.tuple hq
  exact⟨_,λ it i h=>h.IsTupleIter it a i,rfl,λ P w A E s' Q hk q=>jK (Heap.IsTuple.at (p) λ o e=>hk _ _ e) q,λ it=>bO8 a it,λ it h' e=>⟨_,e,rfl,rfl⟩⟩
 .subst e e';obtain⟨t,rfl⟩:=r
  exact⟨_,λ it i h=>h.IsStrIter it (iW y) y t i,rfl,λ P w A E s' Q hk q=>wpAny_pyIter_strU q,λ it=>bU6 y t it,λ it h' e=>⟨_,e,rfl,rfl⟩⟩
end L2
end
noncomputable section
namespace L2
open PySem PySem.Spec PyProof.Rows Builtin
open AutoSeq1 (wpAny_loadPart')
section
variable {X:Cx} {pins:yA} {W:St} {H:Hp} {s:ai} {A:aX} {E:Value->ai->Prop} {J1:It} {t1:Nat->Heap->Prop} {z it:Addr} {n:Nat} {old:Value}
theorem aP7 {Q:Value->ai->Prop}(D1:Dw X.prog X.w X.K J1 it t1)(ne:z≠it)(I:Inv X pins W H s)(he:iX s.heap z it n old)(h1:t1 n s.heap)(g1:J1.go n H)
  (k:∀ x u t h' tk,RelV x u->J1.yld n H x H->lB h' z it ((n:Int)+1) u s.heap.objs.size->t1 (n+1) h'->IsPair h' s.heap.objs.size (.int n t) u ->
   (∀ c o,c≠z->c≠it->s.heap.get? c=some o->h'.get? c=some o)->Q (.ref s.heap.objs.size) { s with heap:=h',toks:=tk }) :
  wpAny (model X.prog X.w) A (kP.«enumerate.__next__» ⟨[.ref z],[]⟩) (λ fin s'=>∃ v,fin=.done (.ret v)/\Q v s') E s:=by
 obtain⟨hp,g,d,b1,os⟩:=s
 show wpAny _ _ (field (.ref z) 2 >>= _) _ _ (_)
 refine ae (cA he rfl rfl ?_)
 refine ae (D1.item X rfl rfl rfl _ n pins _ W H _ _ I h1 g1 λ x u p1 tk rx yx a3 s1=>?_)
 replace s1:=s1
 have G:=(s1.2 z ne).trans he
 refine ae (cA G rfl rfl ?_)
 refine ae (cA G rfl rfl ?_)
 refine ae (wpAny_mkInt ?_)
 refine ae (dG G (by simp) λ p2 h s2=>?_)
 replace s2:=s2
 replace h:=h
 refine ae (dG h (by simp) λ p3 Cc s3=>?_)
 replace s3:=s3
 replace Cc:=Cc
 refine ae (wpAny_newTuple ?_)
 have Y:iX (p3.push { cls:=.type "tuple",data:=.seq #[.int n tk,u] }) z it ((n)+1) old:=af _ Cc
 generalize J:p3.push { cls:=.type "tuple",data:=.seq #[.int n tk,u] }=p4 at Y
 have hsz:p3.objs.size=hp.objs.size:=by rw[s3.1,s2.1,s1.1]
 have a5:=aG he
 have b0:p4.get? hp.objs.size=some { cls:=.type "tuple",data:=.seq #[.int n tk,u] }:=by rw[<-J,<-hsz];exact aE _ rfl
 have a6:∀ b o,b≠z->b≠it->hp.get? b=some o->p4.get? b=some o:=λ b o hbe a1 hb=>by
  rw[<-J];exact af _ (s3.extBut b o hbe (s2.extBut b o hbe (s1.extBut b o a1 hb)))
 have a4:t1 (n+1) p4:=D1.keep _ _ _ a3 λ o y=>by
  rw[<-J];exact af _ (s3.extBut it o ne.symm (s2.extBut it o ne.symm y))
 show wpAny _ _ (eC (.ref z) >>= _) _ _ ⟨p4,g,d,tk+1,os⟩
 rw[hsz]
 clear J Cc s3 h s2 G s1 a3 hsz p3 p2 p1
 refine ae ?_
 unfold eC
 refine ae (cA Y rfl rfl (au ?_))
 simp only[]
 refine ae (ii (ae (cA Y rfl rfl ?_)))
 refine ae (dG Y (by simp) λ p5 Z s5=>?_)
 replace s5:=s5
 replace Z:=Z
 refine ae ?_
 unfold d9
 refine ae (dG Z (by simp) λ p6 a0 s6=>?_)
 replace s6:=s6
 replace a0:=a0
 refine dG a0 (by simp) λ p7 a2 s7=>?_
 replace s7:=s7
 replace a2:=a2
 have up:=λ b o hb e=>s7.extBut b o hb (s6.extBut b o hb (s5.extBut b o hb e))
 exact ae (dA (au ⟨_,rfl,k x u tk p7 (tk+1) rx yx a2 (D1.keep _ _ _ a4 λ o e=>up it o ne.symm e) (up _ _ (cu a5) b0) λ b o hbe a1 hb=>up b o hbe (a6 b o hbe a1 hb)⟩))
end
noncomputable def Je (J1:It):It:=⟨λ i H=>J1.go i H,
 λ i H x H'=>∃ a x1,J1.yld i H x1 H/\H a=none/\x=.ref a/\H'=upd H a (.tup [.int i,x1]),λ i H=>J1.stop i H⟩
theorem aV1 {K}{elts:yK}(Z:Dw P w K J1 it t1)(ne:z≠it) :
  Turn P w K (.Tuple elts ek epos) (Je J1) [z,it] z (λ i h=>(∃ G,iX h z it i G)/\t1 i h) where
 mem:=by simp
 obj:=λ i h st b hb=>by
  obtain⟨⟨G,hz⟩,Y⟩:=st
  simp only[av,bn,or_false]at hb
  rcases hb with rfl|rfl
  .exact⟨_,hz,λ v y=>by cases y⟩
  .exact Z.obj _ _ Y
 keep:=λ i h h' st k=>by
  obtain⟨⟨G,hz⟩,Y⟩:=st
  exact⟨⟨G,k _ (by simp) _ hz⟩,Z.keep _ _ _ Y λ o e=>k _ (by simp) o e⟩
 item:=by
  intro X hP hw hK hc i Cc s W H E I hf st hg
  subst hP hw hK
  obtain⟨⟨G,hz⟩,Y⟩:=st
  have hT:s.TypeIs (.ref z) "enumerate":=⟨_,hz,rfl⟩
  unfold gh
  refine ae (wpAny_attempt (cr hT dS (cq dS hT ik
   (aP7 Z ne I hz Y hg λ x u t h' tk rx yx z' a2 T' kk=>au ?_) (gY _))))
  refine⟨_,rfl,wpAny_letOwnedTupleGo_enum z' λ a1 a4 J=>?_⟩
  replace J:=J
  have lt:∀ {c o},s.heap.get? c=some o->s.heap.objs.size≠c:=λ e=>cu (aG e)
  obtain⟨o1,e1,_⟩:=Z.obj _ _ Y
  have I1:Inv X Cc W (upd H s.heap.objs.size (.tup [.int i,x])) { s with heap:=s.heap.push { cls:=.type "tuple",data:=.seq #[.int i t,u] },toks:=tk } :=
   I.laid (λ b u e=>af _ e) (aj _) ⟨by simp[aO],[.int i t,u],.cons ⟨t,rfl⟩ (.cons rx .nil),_,aE _ rfl,rfl,_,rfl⟩
  have a0:∀ b∈[z,it],FpOk X Cc (upd H s.heap.objs.size (.tup [.int i,x])) b:=λ b hb=>by
   have q:=hf b hb
   refine⟨?_,q.2⟩
   unfold upd
   rw[if_neg ?_]
   .exact q.1
   .simp only[av,bn,or_false]at hb
    rcases hb with rfl|rfl
    .exact(lt hz).symm
    .exact(lt e1).symm
  have I2:Inv X Cc W (upd H s.heap.objs.size (.tup [.int i,x])) { s with heap:=a1,toks:=tk }:=by
   refine I1.turnedL (s:={ s with heap:=s.heap.push { cls:=.type "tuple",data:=.seq #[.int i t,u] },toks:=tk }) a0 λ b o hb e=>?_
   simp only[av,bn,or_false,not_or]at hb
   refine J.extBut _ _ hb.1 ?_
   by_cases hbT:b=s.heap.objs.size
   .subst hbT
    have:=aE s.heap (o:={ cls:=.type "tuple",data:=.seq #[.int i t,u] }) rfl
    rw[show(s.heap.push { cls:=.type "tuple",data:=.seq #[.int i t,u] }).get? s.heap.objs.size=some o from e]at this
    cases this
    exact T'
   .exact kk b o hb.1 hb.2 (by
     have e':(s.heap.push { cls:=.type "tuple",data:=.seq #[.int i t,u] }).get? b=some o:=e
     rw[gI _ _ _ hbT]at e'
     exact e')
  exact⟨.ref s.heap.objs.size,_,I2,rfl,⟨_,x,yx,I.hok.fresh (aj _),rfl,rfl⟩,⟨⟨u,by simpa using a4⟩,Z.keep _ _ _ a2 λ o e=>J.extBut _ _ ne.symm e⟩,λ b hb=>(a0 b hb).1⟩
 done:=by
  intro X hP hw hK hc i Cc s W H E I hf st hg
  subst hP hw hK
  obtain⟨⟨G,hz⟩,Y⟩:=st
  have hT:s.TypeIs (.ref z) "enumerate":=⟨_,hz,rfl⟩
  unfold gh
  refine ae (wpAny_attempt (cr (name:=bo "__next__") hT dS (cq dS hT ik ?_ (gY _))))
  show wpAny _ _ (field (.ref z) 2 >>= _) _ _ (_:ai)
  refine ae (cA hz rfl (x:=.ref it) rfl ?_)
  refine ae (Z.done X rfl rfl rfl _ i Cc s W H _ _ (I.ok.hd hc) I Y hg λ h' e he hx=>?_)
  obtain⟨o,ho,a3⟩:=hx
  refine ae (wpAny_isInstance (T := "StopIteration") (b:=true) ⟨o,ho,a3⟩ isSubtype_stop ?_)
  exact au ⟨rfl,I.turnedL (t':=s.toks) hf λ b o hb e=>by
   simp only[av,bn,or_false,not_or]at hb
   exact he b o hb.2 e⟩
 self:=λ A i s Q E st h=>by
  obtain⟨⟨G,hz⟩,_⟩:=st
  exact j9 hz h
theorem aG6 l o (y:yJ) n (z:yI)(sl:yE) :
  Meets (kP.«enumerate.__new__» ⟨[.type "enumerate",.ref l],[]⟩) (λ _ R s=>s.heap.get? l=some { cls:=.type "tuple",dict:=z,data:=.seq y n,slots:=sl }/\Mkr (.ref l) o s.heap /\
   R (.ok (.ret (.ref (s.heap.push o).objs.size))) { s with heap:=(s.heap.push o).push { cls:=.type "enumerate",data:=.fields #[.none,.bool false,.ref s.heap.objs.size,cF 0,.none,.none] } }) :=
 .of_wp λ prog w A R s h=>by
  obtain⟨hp,g,d,tk,os⟩:=s;obtain⟨hl,G,h⟩:=h
  have Cc:=sub_enumerate
  have r1:∀ {P:aI} {w:World} {A:aX} {E:Value->ai->Prop} {Q:Value->ai->Prop},Q (.ref hp.objs.size) ⟨hp.push o,g,d,tk,os⟩->wpAny (model P w) A (ki (.ref l)) Q E ⟨hp,g,d,tk,os⟩:=λ {P w A E Q} q=>G P w A E ⟨hp,g,d,tk,os⟩ Q (λ b u e=>e) q
  wp_walk using cL hl
  refine wpAny_stack_any λ st=>au ?_
  split
  .rename_i c _ _ _ _ _
   cases(c==Value.type "enumerate")
   .wp_walk using cL hl,r1
    exact⟨_,rfl,h⟩
   .wp_walk using cL hl,r1
    exact⟨_,rfl,h⟩
  .wp_walk using cL hl,r1
   exact⟨_,rfl,h⟩
theorem aD3 l o (y:yJ) n (z:yI)(sl:yE) :
  Meets (kP.«enumerate.__new__» ⟨[.type "enumerate",.ref l],[]⟩) (λ _ R s=>s.heap.get? l=some { cls:=.type "list",dict:=z,data:=.seq y n,slots:=sl }/\Mkr (.ref l) o s.heap /\
   R (.ok (.ret (.ref (s.heap.push o).objs.size))) { s with heap:=(s.heap.push o).push { cls:=.type "enumerate",data:=.fields #[.none,.bool false,.ref s.heap.objs.size,cF 0,.none,.none] } }) :=
 .of_wp λ prog w A R s h=>by
  obtain⟨hp,g,d,tk,os⟩:=s;obtain⟨hl,G,h⟩:=h
  have Cc:=sub_enumerate
  have r1:∀ {P:aI} {w:World} {A:aX} {E:Value->ai->Prop} {Q:Value->ai->Prop},Q (.ref hp.objs.size) ⟨hp.push o,g,d,tk,os⟩->wpAny (model P w) A (ki (.ref l)) Q E ⟨hp,g,d,tk,os⟩:=λ {P w A E Q} q=>G P w A E ⟨hp,g,d,tk,os⟩ Q (λ b u e=>e) q
  wp_walk using cL hl
  refine wpAny_stack_any λ st=>au ?_
  split
  .rename_i c _ _ _ _ _
   cases(c==Value.type "enumerate")
   .wp_walk using cL hl,r1
    exact⟨_,rfl,h⟩
   .wp_walk using cL hl,r1
    exact⟨_,rfl,h⟩
  .wp_walk using cL hl,r1
   exact⟨_,rfl,h⟩
theorem aQ9 {s:ai}(G:o.isFreed=false)(Cc:Mkr (.ref l) o s.heap)
  (hl:(∃ h,s.heap.IsList l h)\/∃ h,s.heap.IsTuple l h)
  (k:∀ h',iX h' (s.heap.objs.size+1) s.heap.objs.size 0 .none->h'.get? s.heap.objs.size=some o->(∀ c o,s.heap.get? c=some o->h'.get? c=some o)->Q (.ref (s.heap.objs.size+1)) { s with heap:=h' }) :
  wpAny (model P w) A (call (.type "enumerate") [.ref l]) Q E s:=by
 have hz:(s.heap.push o).objs.size=s.heap.objs.size+1:=bN ..
 have he:=by
  have:=aE (s.heap.push o) (o:={ cls:=.type "enumerate",data:=.fields #[.none,.bool false,.ref s.heap.objs.size,cF 0,.none,.none] }) rfl
  rw[hz]at this;exact this
 rcases hl with⟨h,⟨c,y,z,sl⟩,hl,hc,n,hd⟩|⟨h,⟨c,y,z,sl⟩,hl,hc,n,hd⟩
 .replace hc:=hc
  replace hd:=hd
  subst hc hd
  refine callType_new jR (by decide) (il _) (iG _) (λ obj=>iY obj _) iH (aD3 l o h n y sl) ⟨hl,Cc,?_⟩
  rw[hz]
  exact⟨⟨_,he,rfl⟩,k _ he (af _ (aE _ G)) λ b o x=>af _ (af _ x)⟩
 .replace hc:=hc
  replace hd:=hd
  subst hc hd
  refine callType_new jR (by decide) (il _) (iG _) (λ obj=>iY obj _) iH (aG6 l o h n y sl) ⟨hl,Cc,?_⟩
  rw[hz]
  exact⟨⟨_,he,rfl⟩,k _ he (af _ (aE _ G)) λ b o x=>af _ (af _ x)⟩
def bQ2 (K:ah)(ta:TA):TI:=λ W H R=>ta W H λ vs H1=>∃ a J1,vs=[.ref a]/\((∃ xs,SqL K H1 a xs)/\J1=Itl K a\/(∃ xs,SqT K H1 a xs)/\J1=Itt K a)/\R (Je J1) H1
theorem bB3 {elts:yK}(hg:Gl X "enumerate")(hm:X.mg "enumerate"=none)(ha:PA X [a] J)(hs:bf [a] X.env=[(false,eval a X.env)]:=by rfl) :
  PI X (.Tuple elts ek epos) (.Call (.Name "enumerate" p) [a] [] pos) (bQ2 X.K J):=by
 intro Cc s W H R I h
 refine Call_ (am7 I hg hm boot_enumerate (dU (thn (ha pos Cc s W H _ I h) λ us s1 ⟨vs,Y,z,r1,q1⟩=>?_) hs rfl))
 obtain⟨l,J1,e,Z,q⟩:=q1
 subst e
 cases r1 with
 | cons r rr =>
  cases rr
  have S:Sr X.K Y (.ref l) J1:=by
   rcases Z with⟨a,b⟩|⟨a,b⟩
   .exact .inl ⟨l,rfl,a,b⟩
   .exact .inr (.inl ⟨l,rfl,a,b⟩)
  have L:(∃ y,s1.heap.IsList l y)\/∃ y,s1.heap.IsTuple l y:=by
   rcases Z with⟨⟨xs,a⟩,b⟩|⟨⟨xs,a⟩,b⟩
   .obtain⟨its,rv,p,hz⟩:=z.list a
    exact .inl ⟨_,p.isList⟩
   .obtain⟨its,rv,p,hz⟩:=z.tuple a
    exact .inr ⟨_,p⟩
  obtain⟨o1,n1,f1,m1,d1,z1⟩:=S.mk z r
  cases r
  refine aQ9 f1 m1 L λ h' hz g1 kk=>j9 hz ?_
  refine⟨s1.heap.objs.size+1,[s1.heap.objs.size+1,s1.heap.objs.size],_,_,Y,rfl,z.kept kk,aV1 (d1 _) (cu (du _)),⟨⟨_,hz⟩,z1 _ _ g1⟩,λ b hb=>?_,q⟩
  have G:s1.heap.objs.size<=b:=by
   simp only[av,bn,or_false]at hb
   rcases hb with e|e<;>rw[e]<;>first|exact aj _|exact Nat.le_add_right _ _
  exact z.fpOk G (z.hok.fresh G)
end L2
end
noncomputable section
namespace L2
open PySem PySem.Spec PyProof.Rows Builtin
open AutoSeq1 (wpAny_loadPart')
theorem aF6:fillsNumberSlot (.type "tuple") "mul"=pure false :=
 PySem.fillsNumberSlot_seq eY.lookup (by decide +kernel) gZ.lookup (by decide +kernel)
theorem aP4:seqRepeat? (.type "tuple")=pure (some (.builtin "tuple.__mul__")):=by
 unfold seqRepeat?
 rw[kA (name := "__mul__") eY.lookup (by decide +kernel),kA (name := "__rmul__") gZ.lookup (by decide +kernel)]
 rfl
theorem ay6 a t l (o:Obj)(y:yJ) n (z:yI)(sl:yE) :
  Meets (kP.«int.__rmul__» ⟨[.int a t,.ref l],[]⟩) (λ _ R s=>s.heap.get? l=some { cls:=.type "tuple",dict:=z,data:=.seq y n,slots:=sl }/\R (.ok (.ret Value.notImplemented)) s) :=
 .of_wp λ prog w A R s h=>by obtain⟨hp,g,d,tk,os⟩:=s;obtain⟨hl,h⟩:=h;wp_walk;exact⟨_,rfl,h⟩
noncomputable def ao3 {α:Type}:Nat->List α->List α
 | 0,_=>[]
 | n+1,a=>a++ao3 n a
theorem aM6 l :∀ n (h:Array α),(aC n l.toArray).foldl (·++·) h=h++(ao3 n l).toArray
 | 0,h=>by simp[ao3]
 | n+1,h=>by rw[bT,dI,aM6 l n];simp[ao3]
theorem az3 {α:Type} a :∀ n (h:Array α),((aC n a).foldl (·++·) h).size=h.size+a.size*n
 | 0,h=>by simp
 | n+1,h=>by rw[bT,dI,az3 a n,Array.size_append,Nat.mul_succ];lia
def TmA (items:yJ)(k:Int)(l:Addr)(R:Value->ai->Prop)(s:ai):Prop :=
 ((items.isEmpty||k==1)=true->R (.ref l) s)/\((items.isEmpty||k==1)=false->R (.ref s.heap.objs.size) { s with heap:=s.heap.push { cls:=.type "tuple",data:=.seq ((aC k.toNat items).foldl (·++·) #[]) } })
theorem aU5 {y:yJ}(h0:0<=k)(J:k<=1000000)(hz:y.size*k.toNat<=1000000)(hl:IsTup s.heap l y)
  (h:TmA y k l Q s):wpAny (model P w) A (call (.builtin "tuple.__mul__") [.ref l,.int k t]) Q E s:=by
 refine cq eY hl.typeIs PySem.F.entry_tuple_mul ?_ (PySem.F.args_tuple_mul_2 _ _)
 obtain⟨Cc,q2⟩:=h
 refine ae (au ?_)
 rw[if_neg (by rw[decide_eq_false (by lia),decide_eq_false (by lia)];decide)]
 refine ae (jC hl ?_)
 have z:=by
  have:((y.size*k.toNat:Nat):Int)<=1000000:=by lia
  rw[kM,fX h0]at this
  exact this
 cases hb:(y.isEmpty||k==1)with
 | true =>
  rw[if_pos rfl]
  unfold k8
  refine ae (ae (hZ hl.typeIs (au ?_)))
  rw[if_pos (by decide)]
  exact ae (ii (au ⟨_,rfl,Cc hb⟩))
 | false =>
  rw[if_neg aW]
  have he:=by
   rw[fC]at hb;exact hb.1
  have q:=q2 hb
  by_cases hk:k<=0
  .rw[if_pos (by rw[decide_eq_true hk];rfl)]
   have:k.toNat=0:=by lia
   rw[this]at q
   exact ae (bB (au ⟨_,rfl,q⟩) (by size_fits))
  .rw[if_neg (by rw[decide_eq_false hk,he];decide)]
   rw[if_neg (by lia)]
   rw[if_neg (by unfold gv;rw[decide_eq_false (by unfold aO;lia)];decide)]
   refine ae (bB (au ⟨_,rfl,q⟩) ?_)
   show Array.size _<=aO
   rw[az3]
   show 0+_<=_
   rw[bz]
   have G:y.size*k.toNat<=aO:=am hz (by decide)
   exact G
theorem aI3 :∀ n,ao3 n ([]:List α)=[]
 | 0=>rfl
 | n+1=>by simp[ao3,aI3 n]
theorem bq7 (l:List α):ao3 1 l=l:=by simp[ao3]
theorem aH1 (l:List α):∀ n,(ao3 n l).length=l.length*n
 | 0=>by simp[ao3]
 | n+1=>by simp[ao3,aH1 l n,kI];lia
theorem Vals.repT {us:yG}(r:Vals h us):∀ n,Vals (ao3 n h) (ao3 n us)
 | 0=>.nil
 | n+1=>r.append (Vals.repT r n)
def cf2 (K:ah):R2:=λ x y H Q=>∃ a xs n,x=.ref a/\y=.int n/\SqT K H a xs/\(0<=n/\n<=1000000/\xs.length*n.toNat<=1000000)/\∀ p H',ae2 H H'->SqT K H' p (ao3 n.toNat xs)->(H' p=some (.tup (ao3 n.toNat xs))\/(p=a/\ao3 n.toNat xs=xs))->Q (.ref p) H'
theorem bK5 {K}(Z:X.K=K):OpR X (cG .Mult) (cf2 K):=by
 subst Z
 intro G s W H x y v u Q I Y ry h
 obtain⟨a,Cc,n,rfl,rfl,ha,⟨h0,h1,hz⟩,q⟩:=h
 cases Y
 obtain⟨t,rfl⟩:=ry
 obtain⟨its,r1,p1,a0⟩:=I.tuple ha
 have z:=r1.length
 obtain⟨⟨cls,dd,data,sl⟩,ho,hc,n1,hd⟩:=id p1
 simp only at hc hd
 subst hc hd
 refine gA (by decide) p1.typeIs (λ s'=>ib s' n t) aF6 jP eI aP4 jt.lookup
  (ic eI (ib s n t) ju (iT _ _) (ay6 n t a default its.toArray n1 dd sl) ⟨ho,⟨rfl,p1.typeIs,aU5 h0 h1 (by rw[aq,<-z];exact hz) p1 ⟨λ hb=>?_,λ hb=>?_⟩⟩⟩)
 .have ex:ao3 n.toNat Cc=Cc:=by
   rw[b8]at hb
   rcases hb with hb|hb
   .have J:=by simpa using hb
    have hx:=r1.nil_iff.mp J
    rw[hx,aI3]
   .have:=by simpa using hb
    subst this
    exact bq7 _
  exact⟨.ref a,H,I,rfl,q a H (ae2.refl H) (by rw[ex];exact ha) (.inr ⟨rfl,ex⟩)⟩
 .have hp:=I.hok.fresh (aj s.heap.objs.size)
  refine⟨.ref s.heap.objs.size,_,I.laid (λ b ob q=>af _ q) (aj _) ?_,rfl,q _ _ ((ae2.refl H).new hp) (SqT.of zd) (.inl zd)⟩
  refine⟨by rw[aH1];exact am hz (by decide),ao3 n.toNat its,r1.repT _,?_⟩
  rw[show(ao3 n.toNat its).toArray=(aC n.toNat its.toArray).foldl (·++·) #[]by rw[aM6];simp]
  exact⟨_,aE _ rfl,rfl,_,rfl⟩
end L2
end
noncomputable section
namespace L2
open PySem PySem.Spec PyProof.Rows
theorem aC3 (h:Room k A):A.units+2<cLine:=Nat.lt_of_le_of_lt (Nat.add_le_add_left (by decide) _) h.units
section
variable {κ:Type} [DecidableEq κ]
noncomputable def ar0 (kvs:List (κ×V))(k:κ):Option V:=(kvs.find? λ kv=>decide (kv.1=k)).map (·.2)
noncomputable def ao6 (kvs:List (κ×V))(k:κ)(v:V):List (κ×V) :=
 if(kvs.any λ kv=>decide (kv.1=k))=true then kvs.map (λ kv=>if kv.1=k then(kv.1,v)else kv)else kvs++[(k,v)]
theorem aj6 {k:κ}(e:p.1=k):ar0 (p::r) k=some p.2:=by simp[ar0,e]
theorem ak1 {k:κ}(e:¬ p.1=k):ar0 (p::r) k=ar0 r k:=by simp[ar0,e]
theorem aw8 k :∀ kvs:List (κ×V),(kvs.any λ h=>decide (h.1=k))=(ar0 kvs k).isSome
 | []=>rfl
 | p::r=>by
  rw[gT]
  by_cases e:p.1=k
  .simp only[aj6 e,decide_eq_true e,Bool.true_or,bW]
  .rw[ak1 e,decide_eq_false e,lu];exact aw8 k r
theorem jh kvs (k:κ) v :(ao6 kvs k v).length<=kvs.length+1:=by
 unfold ao6
 split
 .rw[ax];lia
 .rw[aD,aL,fO];lia
theorem aS8.isSome_eq (r:aS8 o u):o.isSome=u.isSome:=by
 cases o with
 | none=>cases u with
  | none=>rfl
  | some _=>exact(r).elim
 | some _=>cases u with
  | none=>exact(r).elim
  | some _=>rfl
theorem aS8.getD (r:aS8 o u)(h:RelV d d'):RelV (o.getD d) (u.getD d'):=by
 cases o with
 | none=>cases u with
  | none=>exact h
  | some _=>exact(r).elim
 | some _=>cases u with
  | none=>exact(r).elim
  | some _=>exact r
theorem KV.val (r:KV kvs vs)(k:κ):aS8 (ar0 kvs k) (jl vs k):=by
 unfold KV at r
 induction r with
 | nil=>exact True.intro
 | @cons p q ps qs h t ih =>
  obtain⟨y,Cc⟩:=h
  by_cases e:p.1=k
  .have e':=y.symm.trans e
   have b:jl (q::qs) k=some q.2:=by simp[jl,e']
   rw[aj6 e,b];exact Cc
  .have e':¬ q.1=k:=λ z=>e (y.trans z)
   have b:jl (q::qs) k=jl qs k:=by simp[jl,e']
   rw[ak1 e,b];exact ih
theorem KV.any (r:KV kvs vs)(k:κ):(kvs.any λ y=>decide (y.1=k))=vs.any λ y=>decide (y.1=k):=by
 unfold KV at r
 induction r with
 | nil=>rfl
 | cons h t ih=>rw[gT,gT,ih,h.1]
theorem KV.repl (r:KV kvs vs)(k:κ)(Y:RelV y u) :
  KV (kvs.map λ Cc=>if Cc.1=k then(Cc.1,y)else Cc) (vs.map λ Cc=>if Cc.1=k then(Cc.1,u)else Cc):=by
 unfold KV at r ⊢
 induction r with
 | nil=>exact .nil
 | @cons p q ps qs h t ih =>
  rw[aS,aS]
  refine .cons ?_ ih
  obtain⟨G,J⟩:=h
  by_cases e:p.1=k
  .rw[if_pos e,if_pos (G.symm.trans e)];exact⟨G,Y⟩
  .rw[if_neg e,if_neg (λ z=>e (G.trans z))];exact⟨G,J⟩
theorem KV.put (r:KV kvs vs)(k:κ)(h:RelV y u):KV (ao6 kvs k y) (stored vs k u):=by
 unfold ao6 stored
 rw[r.any k]
 by_cases e:(vs.any λ z=>decide (z.1=k))=true
 .rw[if_pos e,if_pos e];exact r.repl k h
 .rw[if_neg e,if_neg e];exact lS r ⟨rfl,h⟩
theorem KV.length {vs:List (κ×Value)}(r:KV kvs vs):kvs.length=vs.length:=et r
end
theorem aD4 (r:RelV (kV k) u):(zv P w).is k u=true:=by
 cases k with
 | inl i=>obtain⟨t,e⟩:=(r);subst e;exact aF5 P w i t
 | inr x=>obtain⟨t,e⟩:=(r);subst e;exact aG7 P w x t
abbrev KT (H:Hp):List (List NI×V)->List (List NI×Addr×Value)->Prop:=fI λ p q=>p.1=q.1/\NK H p.1 q.2.1/\RelV p.2 q.2.2
theorem KT.val (r:KT H kvs y) k :aS8 (ar0 kvs k) ((atKey y k).map (·.2)):=by
 induction r with
 | nil=>exact True.intro
 | @cons p q ps qs h t ih =>
  obtain⟨Cc,_,G⟩:=h
  by_cases e:p.1=k
  .have e':=Cc.symm.trans e
   have b:atKey (q::qs) k=some q.2:=by simp[atKey,e']
   rw[aj6 e,b];exact G
  .have e':¬ q.1=k:=λ z=>e (Cc.trans z)
   have b:atKey (q::qs) k=atKey qs k:=by simp[atKey,e']
   rw[ak1 e,b];exact ih
theorem KT.repl (r:KT H kvs Y) k (Z:RelV y u) :
  KT H (kvs.map λ G=>if G.1=k then(G.1,y)else G) (Y.map (putAt k u)):=by
 induction r with
 | nil=>exact .nil
 | @cons p q ps qs h t ih =>
  rw[aS,aS]
  refine .cons ?_ ih
  obtain⟨Cc,J,h3⟩:=h
  unfold putAt
  by_cases e:p.1=k
  .rw[if_pos e,if_pos (Cc.symm.trans e)];exact⟨Cc,J,Z⟩
  .rw[if_neg e,if_neg (λ z=>e (Cc.trans z))];exact⟨Cc,J,h3⟩
theorem KT.put (r:KT H kvs h) k (hb:NK H k b)(z:RelV y u) :
  KT H (ao6 kvs k y) (storedH h k b u):=by
 have e:(kvs.any λ Cc=>decide (Cc.1=k))=(atKey h k).isSome:=by
  rw[aw8,(r.val k).isSome_eq,Option.isSome_map]
 unfold ao6 storedH
 rw[e]
 by_cases q:(atKey h k).isSome=true
 .rw[if_pos q,if_pos q];exact r.repl k z
 .rw[if_neg q,if_neg q];exact lS r ⟨rfl,hb,z⟩
theorem KT.keeps (r:KT H kvs h)(y:∀ b ys,H b=some (.tup ys)->H' b=some (.tup ys)):KT H' kvs h :=
 fI.mapP r λ _ _ z=>⟨z.1,z.2.1.mono y,z.2.2⟩
section
variable {P:aI} {w:World} {H:Hp} {h:Heap} {a:Addr}
theorem cg7 (ok:HOk P w H h)(e:Rd H a u):ab9 P w H h a u:=e.ok ok
theorem aF8 (ok:HOk P w H h)(e:Rd H a (.dK kvs)):kvs.length<=aO/\(a==fh)=false/\∃ vs,KV kvs vs/\h.DictOf (zv P w) a vs :=
 cg7 ok e
theorem bc9 (ok:HOk P w H h)(e:H a=some (.dK kvs)):kvs.length<=aO/\(a==fh)=false/\∃ vs,KV kvs vs/\h.DictOf (zv P w) a vs:=aF8 ok (.inl e)
end
def aR0 (H:Hp)(a:Addr)(y:V)(r:Option V):Prop :=
 (∃ kvs k,Rd H a (.dK kvs)/\y=kV k/\r=ar0 kvs k)\/False
def cd4 (H:Hp)(a:Addr)(y v:V)(H':Hp):Prop :=
 (∃ kvs k,H a=some (.dK kvs)/\y=kV k/\kvs.length<aO/\H'=upd H a (.dK (ao6 kvs k v)))\/False
theorem aR0.k {k}(e:H a=some (.dK kvs)):aR0 H a (kV k) (ar0 kvs k):=.inl ⟨kvs,k,.inl e,rfl,rfl⟩
theorem cd4.k {k}(e:H a=some (.dK kvs))(hl:kvs.length<aO):cd4 H a (kV k) v (upd H a (.dK (ao6 kvs k v))):=.inl ⟨kvs,k,e,rfl,hl,rfl⟩
section
variable {X:Cx} {pins:yA} {W:St} {H:Hp} {s:ai} {a:Addr} {y v:V} {u r:Value} {o:Option V} {A:aX} {E:Value->ai->Prop}
theorem Inv.big (I:Inv X pins W H s):fh<s.heap.objs.size:=by
 have h:=(I.mod.glob.keeps I.bk).lt
 exact eW (by decide) h
theorem bf5 (hu:A.units+2<cLine)(I:Inv X pins W H s)(g:aR0 H a y (some v))(Y:RelV y u)(h:∀ w' s',Inv X pins W H s'->RelV v w'->Q w' s') :
  wpAny (model X.prog X.w) A (hX (.ref a) u) Q E s:=by
 rcases g with⟨kvs,k,e,J,l⟩|g
 .subst J
  obtain⟨z,hd,vs,Cc,dd⟩:=aF8 I.hok e
  obtain⟨w',hw,G⟩:=aS8.some_of (by rw[l];exact Cc.val k)
  exact wpAny_getItem_of (aD4 Y) dd.mapOf hw (h w' _ (I.tok _) G)
 .exact g.elim
theorem co7 (hu:A.units+2<cLine)(I:Inv X pins W H s)(g:aR0 H a y o)(J:RelV y u)(h:∀ s',Inv X pins W H s'->Q (.bool o.isSome) s') :
  wpAny (model X.prog X.w) A (cU .In u (.ref a)) Q E s:=by
 rcases g with⟨kvs,k,e,G,l⟩|g
 .subst G
  obtain⟨z,hd,vs,Cc,dd⟩:=aF8 I.hok e
  refine wpAny_in_of (aD4 J) hd dd.mapOf ?_
  rw[<-(Cc.val k).isSome_eq,<-l]
  exact h _ (I.tok _)
 .exact g.elim
theorem bE2 (hu:A.units+2<cLine)(I:Inv X pins W H s)(g:aR0 H a y o)(J:RelV y u)(h:∀ s',Inv X pins W H s'->Q (.bool (!o.isSome)) s') :
  wpAny (model X.prog X.w) A (cU .NotIn u (.ref a)) Q E s:=by
 rcases g with⟨kvs,k,e,G,l⟩|g
 .subst G
  obtain⟨z,hd,vs,Cc,dd⟩:=aF8 I.hok e
  refine wpAny_notIn_of (aD4 J) hd dd.mapOf ?_
  rw[<-(Cc.val k).isSome_eq,<-l]
  exact h _ (I.tok _)
 .exact g.elim
theorem aw5 (I:Inv X pins W H s)(mu:Mut (H a))(hs:ci a s.heap h')(he:∃ q,h'.get? a=some q)(new:ab9 X.prog X.w (upd H a ob) h' a ob) :
  Inv X pins W (upd H a ob) { s with heap:=h',toks:=t' } :=
 I.write mu (.inl rfl) (λ b q hb z=>(hs.2 b hb).trans z) he new
theorem aH7 (z:kvs.length<=aO)(hd:(a==fh)=false)(h:KV kvs vs)(dd:h'.DictOf (zv P w) a vs) :
  ab9 P w H' h' a (.dK kvs):=⟨z,hd,vs,h,dd⟩
theorem be1 (hu:A.units+2<cLine)(I:Inv X pins W H s)(g:cd4 H a y v H')(Y:RelV y u)(rv:RelV v r)(h:∀ s',Inv X pins W H' s'->Q () s') :
  wpAny (model X.prog X.w) A (setItem (.ref a) u r) Q E s:=by
 rcases g with⟨kvs,k,e,J,l,Z⟩|g
 .subst J Z
  obtain⟨z,hd,vs,Cc,dd⟩:=bc9 I.hok e
  have hz:vs.length<=aO:=by rw[<-Cc.length];exact z
  have hl:(ao6 kvs k v).length<=aO:=by have:=jh kvs k v;lia
  refine wpAny_setItem_pairs (aD4 Y) dd λ h' G hs=>h _ ?_
  have he:∃ q,h'.get? a=some q:=let⟨q,_,_,hq,_⟩:=G;⟨q,hq⟩
  exact aw5 I (by rw[e];exact True.intro) hs he (aH7 hl hd (Cc.put k rv) G)
 .exact g.elim
end
section
variable {X:Cx} {pins:yA} {W:St} {H:Hp} {s:ai} {a:Addr} {kvs:List (Key×V)} {k:Key} {u:Value} {A:aX} {E:Value->ai->Prop}
end
theorem aE1 {W:St}(I:Inv X h W H s)(g:aR0 H a y o):s.TypeIs (.ref a) "dict":=by
 rcases g with⟨kvs,k,e,_,_⟩|g
 .obtain⟨_,_,vs,_,dd⟩:=aF8 I.hok e
  exact dd.typeIs
 .exact g.elim
section
variable {X:Cx} {o i e value:Expr} {pos pos' tpos:Pos} {td ty tv:TE}
end
theorem aI9 (h:Heap)(hb:fh<h.objs.size):ab9 P w H (h.push { cls:=.type "dict",data:=.dict #[] }) h.objs.size (.dK []) :=
 ⟨dZ _,beq_eq_false_iff_ne.mpr (bH (aw hb)),[],.nil,Heap.DictOf.new h⟩
def bu0:TE:=λ _ H Q=>∀ p,H p=none->Q (.ref p) (upd H p (.dK []))
section
variable {X:Cx} {pos:Pos}
theorem bo3:PE X (.Dict [] [] pos) bu0:=λ y s W H Q I h =>
 wpAny_Dict_empty ⟨.ref s.heap.objs.size,_,I.laid (λ _ _ q=>af _ q) (aj _) (aI9 s.heap I.big),rfl,h _ (I.hok.fresh (aj _))⟩
end
noncomputable def be7:List (TE×TE)->St->Hp->(List (V×V)->Hp->Prop)->Prop
 | [],_,H,Q=>Q [] H
 | (tk,tv)::r,W,H,Q=>tk W H λ x H1=>tv W H1 λ y H2=>be7 r W H2 λ ps H3=>Q ((x,y)::ps) H3
abbrev VV:List (V×V)->List (Value×Value)->Prop:=fI λ p q=>RelV p.1 q.1/\RelV p.2 q.2
def PPs (X:Cx)(pos:Pos)(keys:List (Option Expr))(values:yK)(trs:List (TE×TE)):Prop :=
 ∀ pins s (W:St) H Q ,Inv X pins W H s->be7 trs W H Q ->
  wpAny (model X.prog X.w) X.A (evalPairs (pairTrees keys values X.env pos)) (λ vs s'=>∃ ps H',Inv X pins W H' s'/\VV ps vs/\Q ps H') X.xe s
theorem bF9 :PPs X pos [] [] []:=λ y s W H Q I h=>pairTrees_nil_walk ⟨[],H,I,.nil,h⟩
theorem bm1 (hk:PE X k tk)(hv:PE X v Y)(hr:PPs X pos J vs Cc) :
  PPs X pos (some k::J) (v::vs) ((tk,Y)::Cc):=λ z s W H Q I h =>
 pairTrees_cons_walk (thn (hk z s W H _ I h) λ u s1 ⟨x,H1,I1,rx,q1⟩=>thn (hv z s1 W H1 _ I1 q1) λ w2 s2 ⟨y,H2,I2,ry,q2⟩ =>
  thn (hr z s2 W H2 _ I2 q2) λ ws s3 ⟨ps,H3,Z,G,q3⟩=>⟨(x,y)::ps,H3,Z,.cons ⟨rx,ry⟩ G,q3⟩)
noncomputable def af6 (kvs more:List (Key×V)):List (Key×V):=more.foldl (λ acc kv=>ao6 acc kv.1 kv.2) kvs
theorem KV.merge:∀ {y} {z} {kvs} {vs},KV y z->KV kvs vs->KV (af6 kvs y) (merged vs z):=by
 intro y z kvs vs r
 unfold KV at r
 induction r generalizing kvs vs with
 | nil=>intro q;exact q
 | @cons p q ps qs h t ih =>
  intro r0
  have e:KV (ao6 kvs p.1 p.2) (stored vs q.1 q.2):=by
   have:=r0.put p.1 h.2
   rw[<-h.1];exact this
  exact ih e
theorem qB:∀ h kvs ,(af6 kvs h).length<=kvs.length+h.length
 | [],kvs=>by show kvs.length<=kvs.length+0;lia
 | p::r,kvs=>by
  have z:=qB r (ao6 kvs p.1 p.2)
  have y:=jh kvs p.1 p.2
  show(af6 (ao6 kvs p.1 p.2) r).length<=_
  rw[aL];lia
theorem aq8 :∀ {kvs} {ws},VV (kvs.map λ z=>(kV z.1,z.2)) ws->∃ y,Carries (zv P w) ws y/\KV kvs y
 | [],_,r=>by rw[dE]at r;cases r;exact⟨[],True.intro,.nil⟩
 | p::kvs,_,r=>by
  rw[aS]at r
  cases r with
  | @cons a b as bs h t =>
   obtain⟨y,c,q⟩:=aq8 t
   obtain⟨G,Cc⟩:=b
   exact⟨(p.1,Cc)::y,⟨aD4 h.1,rfl,c⟩,.cons ⟨rfl,h.2⟩ q⟩
def bR6 (trs:List (TE×TE)):TE:=λ W H Q=>∀ p,H p=none->be7 trs W (upd H p (.dK [])) λ ps H2=>H2 p=some (.dK [])/\∃ kvs,ps=kvs.map (λ kv=>(kV kv.1,kv.2))/\kvs.length<=15/\Q (.ref p) (upd H2 p (.dK (af6 [] kvs)))
theorem bL0 (h:PPs X pos keys y Y)(G:keys.all (·.isSome)=true)(hl:keys.length=y.length)(h0:keys≠[])
  (a0:keys.length<=15):PE X (.Dict keys y pos) (bR6 Y):=by
 intro Cc s W H Q I q
 have hn:=I.hok.fresh (aj s.heap.objs.size)
 have I1:=I.laid (t':=s.toks) (λ _ _ q=>af _ q) (aj _) (aI9 s.heap I.big)
 refine wpAny_Dict_walk (knd:=zv X.prog X.w) G hl h0 a0 (thn (h Cc _ W _ _ I1 (q _ hn)) λ ws s2 ⟨ps,H2,I2,Z,e,kvs,ep,lk,q2⟩=>?_)
 subst ep
 obtain⟨rs,c,rk⟩:=aq8 Z
 obtain⟨z,hd,a1,r0,dd⟩:=bc9 I2.hok e
 cases r0
 refine⟨rs,c,dd,λ h' J hs=>⟨.ref s.heap.objs.size,_,?_,rfl,q2⟩⟩
 have hz:(af6 [] kvs).length<=aO:=by
  have h1:=qB kvs []
  rw[fO]at h1
  rw[eJ];lia
 have he:∃ q,h'.get? s.heap.objs.size=some q:=let⟨q,_,_,hq,_⟩:=J;⟨q,hq⟩
 exact aw5 I2 (by rw[e];exact True.intro) hs he (aH7 hz hd (rk.merge .nil) J)
structure M1 (X:Cx)(o:Expr)(m:Str)(apos:Pos)(e:Expr)(cpos:Pos):Prop where
 base:eB o m X.env (eval o X.env)=eval o X.env
 few:((dR cpos (bf [e] X.env)).all (λ x=>!x.1)&&(kX cpos (iR [] X.env)).all (λ x=>x.1.isSome)
  && decide (([e]:yK).length+([]:List gF).length+(if([]:List gF).isEmpty then 0 else 1)<30))=true
 line:(apos.endLine==cpos.line)=true
 trees:dR cpos (bf [e] X.env)=[(false,eval e X.env)]
structure M2 (X:Cx)(o:Expr)(m:Str)(apos:Pos)(e f:Expr)(cpos:Pos):Prop where
 base:eB o m X.env (eval o X.env)=eval o X.env
 few:((dR cpos (bf [e,f] X.env)).all (λ x=>!x.1)&&(kX cpos (iR [] X.env)).all (λ x=>x.1.isSome)
  && decide (([e,f]:yK).length+([]:List gF).length+(if([]:List gF).isEmpty then 0 else 1)<30))=true
 line:(apos.endLine==cpos.line)=true
 trees:dR cpos (bf [e,f] X.env)=[(false,eval e X.env),(false,eval f X.env)]
def IsD (H:Hp)(a:Addr):Prop:=(∃ kvs,Rd H a (.dK kvs))\/False
theorem bb2 {W:St}(I:Inv X h W H s)(d:IsD H a) :
  s.TypeIs (.ref a) "dict"/\(∀ b,Value.ref a=.ref b->∃ ob,s.heap.get? b=some ob/\ob.dict=none)/\(a==fh)=false:=by
 rcases d with⟨kvs,e⟩|g
 .obtain⟨_,hd,vs,_,dd⟩:=aF8 I.hok e
  refine⟨dd.typeIs,λ b q=>?_,hd⟩
  cases q
  obtain⟨ob,_,_,z,y,_⟩:=dd
  exact⟨ob,z,y.2.1⟩
 .exact g.elim
section
variable {X:Cx} {pins:yA} {W:St} {H:Hp} {s:ai} {a:Addr} {y d:V} {u r:Value} {o:Option V} {A:aX} {E:Value->ai->Prop}
theorem bQ7 (hu:A.units+2<cLine)(I:Inv X pins W H s)(g:aR0 H a y o)(J:RelV y u)(Y:RelV d r)(h:∀ w' s',Inv X pins W H s'->RelV (o.getD d) w'->Q w' s') :
  wpAny (model X.prog X.w) A (call (.builtin "dict.get") [.ref a,u,r]) Q E s:=by
 rcases g with⟨kvs,k,e,G,l⟩|g
 .subst G
  obtain⟨z,hd,vs,Cc,dd⟩:=aF8 I.hok e
  refine ka iI dd.typeIs PySem.F.entry_dict_get (PySem.F.args_dict_get_3 _ _ _) (meets_dict_get_default (zv X.prog X.w) a (aD4 J) hd r) ⟨_,dd.mapOf,h _ _ (I.tok _) ?_⟩
  rw[l]
  exact(Cc.val k).getD Y
 .exact g.elim
end
def cb3 (td ty tx:TE):TE:=λ W H Q=>td W H λ x H1=>∃ a,x=.ref a/\IsD H1 a/\ty W H1 λ y H2=>tx W H2 λ z H3=>∃ o,aR0 H3 a y o/\Q (o.getD z) H3
section
variable {X:Cx} {o e f:Expr} {apos cpos:Pos} {td ty tx:TE}
theorem bj6 (hu:X.A.units+2<cLine)(ho:PE X o td)(he:PE X e ty)(hf:PE X f tx)(m:M2 X o "get" apos e f cpos):PE X (.Call (.Attribute o "get" apos) [e,f] [] cpos) (cb3 td ty tx):=by
 intro Cc s W H Q I h
 refine gJ m.base m.few m.line eN iI PySem.F.type_dict_get (thn (ho Cc s W H _ I h) λ u s1 ⟨x,Z,J,rx,a,ex,d,q1⟩=>?_)
 subst ex
 obtain rfl:u=Value.ref a:=rx
 obtain⟨t1,t2,_⟩:=bb2 J d
 refine⟨t1,t2,?_⟩
 rw[m.trees]
 refine cO rfl (d6 (cW (thn (he Cc s1 W Z _ J q1) λ iv s2 ⟨y,H2,I2,ry,q2⟩ =>
  cW (thn (hf Cc s2 W H2 _ I2 q2) λ fv s3 ⟨z,H3,Y,rz,ov,g,q3⟩=>eQ ?_))))
 exact bQ7 hu Y g ry rz λ w' s4 I4 G=>⟨_,H3,I4,G,q3⟩
end
section
variable {P:aI} {w:World} {A:aX} {E:Value->ai->Prop} {s:ai}
end
section
variable {X:Cx} {pins:yA} {W:St} {H:Hp} {s:ai}
theorem HOk.tw (ok:HOk P w H h)(hu:H a=some u)(Y:∀ y,u≠.own y)(Z:∀ Cc,u≠.tup Cc)(new:ab9 P w H h a v):HOk P w (upd H a v) h:=λ b q e=>by
 have J:∀ c y,H c=some (.own y)->upd H a v c=some (.own y):=λ c y r=>by rw[za λ z=>by subst z;rw[hu]at r;cases r;exact Y _ rfl];exact r
 have G:∀ c Cc,H c=some (.tup Cc)->upd H a v c=some (.tup Cc):=λ c Cc r=>by rw[za λ z=>by subst z;rw[hu]at r;cases r;exact Z _ rfl];exact r
 by_cases hb:b=a
 .subst hb;rw[zd]at e;cases e
  exact new.stay (λ _ _ _ r=>r) (λ c r=>J c _ r) G
 .rw[za hb]at e
  exact(ok b q e).stay (λ _ _ _ r=>r) (λ c r=>J c _ r) G
end
section
variable {prog:aI} {w:World} {A:aX} {R:km->ai->Prop} {I:Addr} {fp wr:List Addr} {n:Nat} {P:Nat->Value->Prop} {St:Nat->Heap->Prop} {kw:List (Str×Value)}
end
section
variable {X:Cx} {pins:yA} {W:St} {H:Hp} {s:ai} {a Cc:Addr} {a0:Value}
end
section
variable {P:aI} {w:World} {K:ah} {mg:yC} {base:Heap} {N:yH} {qual:Str} {scope:Scope} {f:Addr} {cd:Value} {A:aX} {outer:List Env} {s0:ai} {H0:Hp} {E:XK}
end
section
variable {X:Cx} {E:XK} {Cc:Addr} {x:Str}
end
section
variable {X:Cx} {pins:yA} {W:St} {H:Hp} {s:ai} {a Cc T:Addr} {fl fl' a0:Value} {h':Heap}
end
noncomputable abbrev Cx.hnd (X:Cx)(a:Addr)(oe:Obj):Cx:={ X with A:=X.A.mark (some (.ref a)),calm:=false,pn:=(a,oe)::X.pn,xe:=λ _ _=>False }
section
variable {X:Cx} {pins:yA} {W:St} {H:Hp} {s:ai} {a Cc:Addr} {oe:Obj} {fl:Value}
end
section
variable {prog:aI} {w:World} {A:aX} {R:km->ai->Prop} {I:Addr} {fp wr:List Addr} {n:Nat} {P:Nat->Value->Prop} {St:Nat->Heap->Prop} {h₀:Heap}
theorem aY4 (Ww:Walks prog w A.in1 I fp wr n P St)(y:Nat->Int) q S (b2:S ∉ fp)(b5:h₀.get? S=none)(b4:∀ b∈wr,h₀.get? b=none)
  (turn:∀ i v,P i v->∀ s:ai,(∀ b o,h₀.get? b=some o->s.heap.get? b=some o)->wpAny (model prog w) A.in1 (call (.ref q) [v]) (λ x s'=>∃ t h' tk,x=.int (y i) t/\s'={ s with heap:=h',toks:=tk }/\∀ b o,s.heap.get? b=some o->h'.get? b=some o) (λ _ _=>False) s) :
  ∀ k j s vb tb c ,n - (j+1)=k->j+1<=n->St (j+1) s.heap->P (bL (λ i j=>decide (y i<y j)) j) vb->(∀ b o,h₀.get? b=some o->s.heap.get? b=some o) ->
  s.heap.get? S=some { cls:=.type "list",dict:=none,data:=.seq #[vb,.int (y (bL (λ i j=>decide (y i<y j)) j)) tb] c,slots:=#[] } ->
  (∀ v h' tk,P (bL (λ i j=>decide (y i<y j)) (n - 1)) v->(∀ b o,h₀.get? b=some o->h'.get? b=some o)->R (.ok (.ret v)) { s with heap:=h',toks:=tk }) ->
  fx (model prog w) A (.builtin "min.loop" ⟨[.ref I,.ref q,.ref S],[]⟩) R s:=by
 have a6:=λ h=>b2 (Ww.sub _ h)
 have J:(toString "min"++toString ".loop":String) = "min.loop":=by decide
 have n0:∀ b o,h₀.get? b=some o->b≠S:=λ b o e z=>by rw[z,b5]at e;cases e
 have nw:∀ b o,h₀.get? b=some o->b ∉ wr:=λ b o e z=>by rw[b4 b z]at e;cases e
 intro k
 induction k with
 | zero =>
  intro j s vb tb c hk hj a5 a3 h0 hS hR
  have b3:j+1=n:=by omega
  refine cK dv ?_
  rw[bX bA _]
  refine ae (cX hS rfl ?_)
  refine ae (cg (Ww.done s _ _ (b3▸a5) λ h' tk Cc=>?_))
  have a2:=Cc S _ a6 hS
  refine ae ?_
  refine dL a2 rfl (ae (dA (au ?_)))
  refine hR vb _ tk (by rw[<-b3];exact a3) λ b o e=>(aY _ _ (bH (n0 b o e))).trans (Cc b o (nw b o e) (h0 b o e))
 | succ k ih =>
  intro j s vb tb c hk hj a5 a3 h0 hS hR
  have hlt:j+1<n:=by omega
  refine cK dv ?_
  rw[bX bA _]
  refine ae (cX hS rfl ?_)
  show wpAny _ A.in1 (tryCatch (gh (.ref I)) _ >>= _) _ _ s
  refine ae (cg (Ww.item (j+1) s _ _ hlt a5 λ v h' tk hP b0 Cc=>?_))
  have a2:=Cc S _ a6 hS
  show wpAny _ A.in1 (tryCatch (gE [v] (call (.ref q) [v])) _ >>= _) _ _ _
  refine ae (cg (cf (bU (turn (j+1) v hP _ λ b o e=>Cc b o (nw b o e) (h0 b o e)) (λ x c0 he=>?_) λ _ _ hF=>hF.elim)))
  obtain⟨t2,h2,b6,rfl,rfl,k2⟩:=he
  have a0:=k2 S _ a2
  have Z:=Ww.frame _ _ h2 b0 λ b b1 o e=>k2 b o e
  show wpAny _ A.in1 (tryCatch (gE [v,.int (y (j+1)) t2] (richCompare .Lt (.int (y (j+1)) t2) (.int (y (bL (λ i j=>decide (y i<y j)) j)) tb) >>= _)) _ >>= _) _ _ _
  refine ae (cg (cf (ae (jD (prog:=prog) (w:=w) (A:=A.in1) (P:=λ i v=>∃ t,v=.int (y i) t) y (λ i v h=>h) (j+1) (bL (λ i j=>decide (y i<y j)) j) _ _ _ _ _ ⟨t2,rfl⟩ ⟨tb,rfl⟩ ?_))))
  refine ae (cf (bP ?_))
  refine ae (dA (au ?_))
  by_cases hb:y (j+1)<y (bL (λ i j=>decide (y i<y j)) j)
  .have eb:bL (λ i j=>decide (y i<y j)) (j+1)=j+1:=by simp only[bL,hb,decide_true,if_true]
   simp only[hb,decide_true,if_true]
   refine ae ?_
   refine dL a0 rfl (ae (dA ?_))
   rw[J]
   refine au ⟨cS bA _,ih (j+1) _ v t2 _ (by omega) hlt (Ww.frame _ _ _ Z λ b b1 o e=>?_) (by rw[eb];exact hP) (λ b o e=>?_) (by rw[eb];exact cB _ a0 rfl)
    λ v' a4 G a1 Y=>?_⟩
   .exact(aY _ _ (λ h:S=b=>b2 (by rw[h];exact b1))).trans e
   .exact(aY _ _ (bH (n0 b o e))).trans (k2 b o (Cc b o (nw b o e) (h0 b o e)))
   .exact hR v' a4 G a1 Y
  .have eb:bL (λ i j=>decide (y i<y j)) (j+1)=bL (λ i j=>decide (y i<y j)) j:=by
    rw[bL]
    exact if_neg (by simpa using hb)
   simp only[hb,decide_false,cn,if_false]
   refine ae (dA ?_)
   rw[J]
   refine au ⟨cS bA _,ih (j+1) _ vb tb c (by omega) hlt Z (by rw[eb];exact a3) (λ b o e=>k2 b o (Cc b o (nw b o e) (h0 b o e))) (by rw[eb];exact a0) λ v' a4 G a1 Y=>hR v' a4 G a1 Y⟩
theorem aS1 (Ww:Walks prog w A.in1 I fp wr n P St)(Z:Nat->Int) q S (Cc:S ∉ fp)(a5:h₀.get? S=none)(Y:∀ b∈wr,h₀.get? b=none)
  (turn:∀ i v,P i v->∀ s:ai,(∀ b o,h₀.get? b=some o->s.heap.get? b=some o)->wpAny (model prog w) A.in1 (call (.ref q) [v]) (λ x s'=>∃ t h' tk,x=.int (Z i) t/\s'={ s with heap:=h',toks:=tk }/\∀ b o,s.heap.get? b=some o->h'.get? b=some o) (λ _ _=>False) s)
  (hn:0<n) (b3:St 0 s.heap) (h0:∀ b o,h₀.get? b=some o->s.heap.get? b=some o)
  (hS:s.heap.get? S=some { cls:=.type "list",dict:=none,data:=.seq #[] c,slots:=#[] })
  (hR:∀ v h' tk,P (bL (λ i j=>decide (Z i<Z j)) (n - 1)) v->(∀ b o,h₀.get? b=some o->h'.get? b=some o)->R (.ok (.ret v)) { s with heap:=h',toks:=tk }) :
  fx (model prog w) A (.builtin "min.loop" ⟨[.ref I,.ref q,.ref S],[]⟩) R s:=by
 have b0:S ∉ wr:=λ h=>Cc (Ww.sub _ h)
 have y:(toString "min"++toString ".loop":String) = "min.loop":=by decide
 have n0:∀ b o,h₀.get? b=some o->b≠S:=λ b o e z=>by rw[z,a5]at e;cases e
 have nw:∀ b o,h₀.get? b=some o->b ∉ wr:=λ b o e z=>by rw[Y b z]at e;cases e
 refine cK dv ?_
 rw[bX bA _]
 show wpAny _ A.in1 (fu (.ref S) >>= _) _ _ s
 refine ae (cX hS rfl ?_)
 show wpAny _ A.in1 (tryCatch (gh (.ref I)) _ >>= _) _ _ s
 refine ae (cg (Ww.item 0 s _ _ hn b3 λ v h' tk hP a1 G=>?_))
 have b1:=G S _ b0 hS
 show wpAny _ A.in1 (tryCatch (gE [v] (call (.ref q) [v])) _ >>= _) _ _ _
 refine ae (cg (cf (bU (turn 0 v hP _ λ b o e=>G b o (nw b o e) (h0 b o e)) (λ x b5 he=>?_) λ _ _ hF=>hF.elim)))
 obtain⟨t2,h2,b4,rfl,rfl,k2⟩:=he
 have J:=k2 S _ b1
 have a0:=Ww.frame _ _ h2 a1 λ b a3 o e=>k2 b o e
 show wpAny _ A.in1 (kt S (λ _=>#[v,.int (Z 0) t2]) >>= _) _ _ _
 refine ae ?_
 refine dL J rfl ?_
 rw[y]
 refine au ⟨cS bA _,aY4 Ww Z q S Cc a5 Y turn _ 0 _ v t2 _ rfl hn (Ww.frame _ _ _ a0 λ b a3 o e=>?_) hP (λ b o e=>?_) (cB _ J rfl) λ v' b2 a2 a6 a4=>hR v' b2 a2 a6 a4⟩
 .exact(aY _ _ (λ h:S=b=>Cc (by rw[h];exact a3))).trans e
 .exact(aY _ _ (bH (n0 b o e))).trans (k2 b o (G b o (nw b o e) (h0 b o e)))
end
theorem bi2 {h:yB}{its:yG}{z:Int}{Z:Tok}{p1 p2 p3:Pos}{ps fr:yH}
  (S:LamScope (ps++fr) ps fr scope) (a2:ps=[x]) (hl:scope.names.lookup x=some .local) (hd:A.depth<gi) (a0:s.heap.NoLimit)
  (hf:s.heap.get? f=some { cls:=.type "function",data:=.func (bv "<lambda>" qual params (.Subscript (.Name x p1) (.Constant (.int i) k p2) p3) scope h pm (.ref c') Y) }) (hc:s.heap.CodeRec (.ref c') qual)
  (G:∀(us:yG),us.length=ps.length->d4 (bv "<lambda>" qual params (.Subscript (.Name x p1) (.Constant (.int i) k p2) p3) scope h pm (.ref c') Y) ⟨us,[]⟩=pure (ps.zip us))
  (ht:IsTup s.heap t its.toArray) (h1:-(2^63)<=i) (h2:i<2^63) (hj:lA i its.length=some j) (hz:its[j]?=some (.int z Z)) (a1:(x==("__debug__":Str))=false) :
  wpAny (model P w) A (call (.ref f) [.ref t]) (λ y s'=>∃ t h' tk,y=.int z t/\s'={ s with heap:=h',toks:=tk }/\∀ b o,s.heap.get? b=some o->h'.get? b=some o) E s:=by
 subst a2
 refine jM (iZ hd hf rfl S.co S.gen rfl hc ?_)
 rw[G [.ref t] rfl]
 refine au (ah7 S.kind (λ y hy=>?_) λ env he s1 X=>?_)
 .cases aV.mp (show y∈[(x,Value.ref t)]from hy)
  exact .inl hl
 .subst he
  refine⟨a0.keeps X.toInCall.keep,i0 ?_⟩
  refine kT (jI (iO S.kind hl X.toInCall.ns (v:=.ref t) ?_ ?_) a1)
  .exact af9 (P:=[x]) (vs:=[.ref t]) (i:=0) (by simp) rfl rfl hl
  .refine jJ ?_
   obtain⟨Cc,tk,rfl,hk⟩:=X.done
   have J:IsTup Cc t its.toArray:=by
    obtain⟨o,e,r⟩:=ht
    exact⟨o,hk _ _ e,r⟩
   exact eU (x:=.int z Z) (s:={ s with heap:=Cc,toks:=tk+1 }) J.typeIs bu.lookup
    (getItem_tuple (j:=j) (Q:=λ r s'=>r=.int z Z/\∃ t h' tk,r=.int z t/\s'={ s with heap:=h',toks:=tk }/\∀ b o,s.heap.get? b=some o->h'.get? b=some o) J h1 h2 (by rw[aq];exact hj) (by simpa using hz) ⟨rfl,Z,Cc,_,rfl,rfl,hk⟩)
theorem bj5 {W:St}{Y:yB}(h:Nat->Int)
  (hc:X.calm=true) (hd:X.A.depth<gi) (I:Inv X Cc W H s) (hS:SqL X.K H a J) (hne:0<J.length) (LS:LamScope (ps++fr) ps fr scope) (b5:ps=[y]) (hl:scope.names.lookup y=some .local) (b2:(y==("__debug__":Str))=false)
  (hf:H f=some (ao9 f (bv "<lambda>" qual params (.Subscript (.Name y p1) (.Constant (.int j) k p2) p3) scope Y pm (.ref c') b1))) (a0:H c'=some (zX c' qual))
  (a3:∀(us:yG),us.length=ps.length->d4 (bv "<lambda>" qual params (.Subscript (.Name y p1) (.Constant (.int j) k p2) p3) scope Y pm (.ref c') b1) ⟨us,[]⟩=pure (ps.zip us))
  (hk:∀ i v,J[i]?=some v->∃ p ys,v=.ref p/\SqT X.K H p ys/\atI ys j=some (.int (h i))) (q:∀ v,J[bL (λ i j=>decide (h i<h j)) (J.length - 1)]?=some v->Q v H) :
  wpAny (model X.prog X.w) X.A (call (.builtin "min") [.ref a] [(bo "key",.ref f)]) (EP X Cc W Q) X.xe s:=by
 obtain⟨its,rv,pl,hz⟩:=I.list hS
 have c1:=rv.length
 have a1:(toString "min"++toString ".loop":String) = "min.loop":=by decide
 refine kmk_tree F.kind_min F.plain_min F.entry_min (kmk_min_key _ _) ?_
 show wpAny _ X.A.in1 (cQ "min" ["key", "default"] 0 ⟨[],[(bo "key",.ref f)]⟩ >>= _) _ _ s
 refine ae (kG (show cQ "min" ["key", "default"] 0 ⟨[],[(bo "key",.ref f)]⟩=pure [some (.ref f),none]from rfl) ?_)
 refine ae (au ?_)
 refine ae (dT pl.isList ?_)
 have a4:a<s.heap.objs.size:=by obtain⟨o,_,e,_⟩:=pl;exact aG e
 have Ww:=kZ (prog:=X.prog) (w:=X.w) (A:=X.A.in1) (I.ok.hd hc) s.heap.objs.size a (aw a4) its.toArray
 refine ae (bB ?_)
 generalize a2:s.heap.push _=h2
 have G:h2.objs.size=s.heap.objs.size+1:=by rw[<-a2,bN]
 have a6:∀ b o,s.heap.get? b=some o->h2.get? b=some o:=λ b o e=>by rw[<-a2];exact af _ e
 have c4:h2.objs.size ∉ [s.heap.objs.size,a]:=by
  rw[G]
  intro z
  rcases av.mp z with z|z
  .exact absurd z (ku _)
  .have z':s.heap.objs.size+1=a:=by simpa using z
   exact absurd (ao a4 (by rw[<-z'];exact db _)) (bF _)
 have c0:(h2.push { cls:=.type "list",data:=.seq ([]:yG).toArray }).IsListIter s.heap.objs.size a 0/\(h2.push { cls:=.type "list",data:=.seq ([]:yG).toArray }).IsList a its.toArray:=by
  refine⟨⟨_,af _ (by rw[<-a2];exact aE _ rfl),rfl,rfl⟩,?_⟩
  obtain⟨o,e,r⟩:=pl.isList
  exact⟨o,af _ (a6 _ _ e),r⟩
 rw[a1]
 refine au ⟨cS bA _,aS1 (h₀:=s.heap) Ww h f h2.objs.size c4 (fB (by rw[G];exact db _)) (λ b hb=>?_) (λ i v hv s' k'=>?_) (by rw[aq];lia) c0 (λ b o e=>af _ (a6 b o e)) (aE _ rfl) λ v h' tk hP k'=>?_⟩
 .rw[aV.mp hb];exact fB (aj _)
 .have hv':its[i]?=some v:=by rw[cC]at hv;exact hv
  have hi:i<its.length:=(ac.mp hv').1
  obtain⟨x,hx⟩:∃ x,J[i]?=some x:=⟨_,ag (by lia)⟩
  obtain⟨u,e1,rx⟩:=rv.get hx
  rw[hv']at e1;cases e1
  obtain⟨p,ys,rfl,hT,hat⟩:=hk i x hx
  cases rx
  obtain⟨b0,a5,b4,d0⟩:=I.tuple hT
  obtain⟨m,h1,b6,h3,h4,h5⟩:=as6 hat
  obtain⟨w',ew,b3⟩:=a5.get b6
  obtain⟨tz,rfl⟩:=b3
  have c3:=a5.length
  have hn:=ai2
  refine bi2 (A:=X.A.in1) LS b5 hl hd (I.nolimit.keeps k') (k' _ _ (aj4 I.hok hf)) ?_ a3 (t:=p) (its:=b0) ?_ (by lia) (by lia) (by rw[<-c3];exact h1) ew b2
  .obtain⟨c2,oc,vs,t,q1,q2,q3⟩:=al7 I.hok a0
   exact⟨c2,oc,vs,t,q1,k' _ _ q2,q3⟩
  .obtain⟨o,e,r⟩:=b4
   exact⟨o,k' _ _ e,r⟩
 .have Z:its[bL (λ i j=>decide (h i<h j)) (its.length - 1)]?=some v:=by rw[cC]at hP;rw[aq]at hP;exact hP
  have hi:bL (λ i j=>decide (h i<h j)) (its.length - 1)<its.length:=(ac.mp Z).1
  rw[<-c1]at Z hi
  obtain⟨x,hx⟩:∃ x,J[bL (λ i j=>decide (h i<h j)) (J.length - 1)]?=some x:=⟨_,ag hi⟩
  obtain⟨u,e1,rx⟩:=rv.get hx
  rw[Z]at e1;cases e1
  exact⟨x,H,I.kept k',rx,q x hx⟩
def ch5 (ta tl:TE)(r:V->V->Hp->VK->Prop):TE:=λ W H Q=>ta W H λ x H1=>tl W H1 λ f H2=>r x f H2 Q
def cl6 (X:Cx)(r:V->V->Hp->VK->Prop):Prop:=∀ pins   s  (W:St)  H   x y   v u   Q ,Inv X pins W H s->RelV x v->RelV y u->r x y H Q->wpAny (model X.prog X.w) X.A (call (.builtin "min") [v] [(bo "key",u)]) (EP X pins W Q) X.xe s
theorem bH0 (Y:cl6 X r)(hg:Gl X "min")(hm:X.mg "min"=none)(ha:PE X e z)(hl:PE X le J)
  (hs:bf [e] X.env=[(false,eval e X.env)]:=by rfl) :
  PE X (.Call (.Name "min" p) [e] [⟨some "key",le,kp⟩] pos) (ch5 z J r):=by
 intro y s W H Q I h
 refine cj (am7 I hg hm bk9 ?_)
 have h':an7 z bf0 W H (λ vs Cc=>match vs with|[x]=>J W Cc λ d H2=>r x d H2 Q|_=>False):=h
 refine callWith_kw (thn ((zC ha ad4 hs) pos y s W H _ I h') λ us s1 ⟨vs,Cc,Z,r1,G⟩=>?_) (by rw[hs];rfl) (by rw[hs];rfl)
 match vs,G,r1 with
 | [x],G,r1 =>
  obtain⟨u,rfl,ru⟩:=qX r1
  refine kws_cons (thn (hl y s1 W Cc _ Z G) λ v s2 ⟨d,H2,I2,rd,q2⟩=>kws_nil ?_)
  exact Y y s2 W H2 x d u v Q I2 ru rd q2
section
variable {X:Cx} {pins:yA} {W:St} {H:Hp} {s:ai} {a Cc:Addr} {oe:Obj} {fl:Value}
end
section
variable {X:Cx} {pins:yA} {W:St} {H:Hp} {s:ai} {a Cc D':Addr} {oe:Obj} {fl:Value}
end
section
open PySem.AutoSeq1 (wpAny_loadPart')
open PySem.MeetsSeq PySem.MeetsSeq2 PySem.MeetsSeq3 PySem.SeqAt
end
section
variable {A:aX} {s:ai}
end
section
variable {prog:aI} {w:World} {A:aX} {E:Value->ai->Prop} {s:ai} {x y:Str} {t u:Tok}
end
section
variable {X:Cx} {a:Addr} {oe:Obj}
end
theorem bu7 (h:(zv P w).is k u=true):RelV (kV k) u:=by
 rcases zq h with⟨i,t,rfl,rfl⟩|⟨x,t,rfl,rfl⟩
 .exact⟨t,rfl⟩
 .exact⟨t,rfl⟩
theorem KV.get :∀ {l} {m} {i:Nat} {k:κ} {v},KV l m->l[i]?=some (k,v)->∃ u,m[i]?=some (k,u)/\RelV v u:=by
 intro l m i k v r
 induction r generalizing i with
 | nil=>intro e;simp at e
 | cons h t ih =>
  intro e
  cases i with
  | zero=>cases(aA e);exact⟨_,congrArg some (Prod.ext h.1.symm rfl),h.2⟩
  | succ i=>exact ih (by simpa using e)
section
variable {X:Cx} {pins:yA} {W:St} {H:Hp} {s:ai}
theorem Inv.freezeK (I:Inv X pins W H s)(e:H a=some (.dK kvs))(ho:s.heap.get? a=some o):Inv X pins W (upd H a (.frz o (.dK kvs))) s :=
 I.un (Un.write (by rw[e];trivial) (.inl rfl) (λ _ _ _ q=>q) ⟨o,ho⟩) (I.hok.tw e (by nofun) (by nofun) ⟨ho,I.hok a _ e⟩)
theorem Inv.thawK (I:Inv X pins W H s)(e:H a=some (.frz o (.dK kvs)))(h0:∀ o u,X.H₀ a≠some (.frz o u)):Inv X pins W (upd H a (.dK kvs)) s:=by
 have h:∀ b,H b=none->upd H a (.dK kvs) b=none:=λ b n=>by rw[za λ z=>by subst z;rw[e]at n;cases n];exact n
 have B:=I.base
 refine⟨I.ok,I.os,I.bare,⟨B.keep,B.slot,λ b o q n hx=>h b (B.free b o q n hx),B.there,λ b Cc q=>?_,λ b ob u q=>?_,λ b ps q=>?_⟩,I.loc,I.cell,h _ I.free,λ x c q=>h _ (I.freeC x c q),λ p hp=>?_,I.hok.tw e (by nofun) (by nofun) ?_,I.len⟩
 .have r:=B.tups b Cc q
  rw[za λ z=>by subst z;rw[e]at r;cases r];exact r
 .rw[za λ z=>by subst z;exact h0 _ _ q];exact B.frzs b ob u q
 .obtain⟨m,r⟩:=B.tbls b ps q
  exact⟨m,by rw[za λ z=>by subst z;rw[e]at r;cases r];exact r⟩
 .obtain⟨p1,y,p3⟩:=I.pin p hp
  exact⟨p1,h _ y,p3⟩
 .exact(I.hok a _ e).2
end
noncomputable def Jk (a:Addr)(o:Obj)(kvs:List (Key×V)):It:=⟨λ i H=>H a=some (.frz o (.dK kvs))/\i<kvs.length,
 λ i H x H'=>H'=H/\∃ k v,kvs[i]?=some (k,v)/\x=kV k,λ i H=>H a=some (.frz o (.dK kvs))/\kvs.length<=i⟩
theorem bv6 (ok:HOk P w H h)(z:H a=some (.frz o (.dK kvs)))(ho:o.data=.dict Cc ep):∃ vs,KV kvs vs/\h.DictAt (zv P w) a vs ep:=by
 obtain⟨e,zz,y,vs,r,o',es,a0,J,Z,G,h4,h5,Y⟩:=(ok a _ z)
 rw[e]at J;cases J
 rw[ho]at G;cases G
 exact⟨vs,r,o,Cc,e,Z,ho,h4,h5,Y⟩
theorem aW5 {K} a it o kvs ep a0 (ho:o.data=.dict a0 ep) :
  Turn P w K tg (Jk a o kvs) [it] it (λ i h=>h.IsKeyIter it a i kvs.length ep) where
 mem:=by simp
 obj:=λ i h st b hb=>by
  have e:=by simpa using hb
  subst e
  obtain⟨o,e,c,d⟩:=st
  exact⟨o,e,λ v z=>by rw[d]at z;cases z⟩
 keep:=λ i h h' st k=>st.at λ o e=>k it (by simp) o e
 item:=by
  intro X hP hw Z hc i y s W H E I G st hg
  subst hP hw Z
  obtain⟨fz,hlt⟩:=hg
  obtain⟨vs,r,da⟩:=bv6 I.hok fz ho
  have hl:=et r
  obtain⟨u,hu,_⟩:=KV.get r (ag hlt)
  obtain⟨J,f1,f2,f3,Y,f5⟩:=G it (by simp)
  refine wpAny_pyNext_dict_item (by rw[<-hl];exact st) da hu λ key h' hk Cc sb=>?_
  rw[<-hl]at Cc
  have I1:=I.turned (t':=s.toks) (λ b o hb e=>(sb.2 b hb).trans e) J f1 f3 Y f5
  obtain⟨o',e,c,d⟩:=id Cc
  exact⟨key,rfl,be5 e c d (by decide) ⟨kV kvs[i].1,H,I1,bu7 hk,⟨rfl,_,_,ag hlt,rfl⟩,Cc,λ b hb=>(G b hb).1⟩⟩
 done:=by
  intro X hP hw Z hc i y s W H E I G st hg
  subst hP hw Z
  obtain⟨fz,a1⟩:=hg
  obtain⟨vs,r,da⟩:=bv6 I.hok fz ho
  have hl:=et r
  obtain⟨J,f1,f2,f3,Y,f5⟩:=G it (by simp)
  exact wpAny_pyNext_dict_end (I.ok.hd hc) (by rw[<-hl];exact st) da (cZ (by lia)) λ h' eb=>⟨rfl,I.turned (λ b o hb e=>eb b o hb e) J f1 f3 Y f5⟩
 self:=λ _ _ _ _ _ st h=>wpAny_pyIter_keyiter st h
section
variable {X:Cx} {tg:Expr}
def bU1 (tl:TE):TI:=λ W H R=>tl W H λ x H1=>∃ a kvs,x=.ref a/\H1 a=some (.dK kvs)/\∀ o,R (Jk a o kvs) (upd H1 a (.frz o (.dK kvs)))
theorem by5 (hl:PE X l Z):PI X tg l (bU1 Z):=by
 intro Cc s W H R I h
 refine thn (hl Cc s W H _ I h) λ v s1 ⟨x,H1,G,r1,a,kvs,ex,ha,q⟩=>?_
 subst ex
 cases r1
 obtain⟨zz,y,vs,r,o,es,z,J,h2,Y,h4,h5,h6⟩:=(G.hok a _ ha)
 have hl:=et r
 refine wpAny_pyIter_dict y ⟨o,es,J,h2,Y,h4,h5,h6⟩ ?_
 have I2:=(G.freezeK ha J).kept (t':=s1.toks) (h':=s1.heap.push { cls:=.type "dict_keyiterator",data:=.fields #[.ref a,.int 0 0,.int vs.length 0,.int z 0] }) λ b u r=>af _ r
 refine⟨s1.heap.objs.size,[s1.heap.objs.size],_,_,_,rfl,I2,aW5 a s1.heap.objs.size o kvs z es Y,⟨_,aE _ rfl,rfl,by rw[hl];rfl⟩,λ b hb=>?_,q o⟩
 have e:=by simpa using hb
 subst e
 exact(G.freezeK ha J).fpOk (aj _) ((G.freezeK ha J).hok.fresh (aj _))
theorem aL4:∀ {l:List (Key×V)} {us:yG},us.length=l.length->(∀(j:Nat) u ,us[j]?=some u->∀ k v,l[j]?=some (k,v)->RelV (kV k) u)->Vals (l.map λ z=>kV z.1) us
 | [],[],_,_=>.nil
 | [],_::_,h,_=>by cases h
 | _::_,[],h,_=>by cases h
 | (k,v)::l,u::us,h,q=>.cons (q 0 u rfl k v rfl) (aL4 (lH h) λ j Cc e y v' e'=>q (j+1) Cc e y v' e')
end
def bS8 (td ty tx:TE):TE:=λ W H Q=>td W H λ x H1=>∃ a,x=.ref a/\IsD H1 a/\ty W H1 λ y H2=>tx W H2 λ z H3=>∃ kvs k,H3 a=some (.dK kvs)/\y=kV k/\kvs.length<aO /\
 (∀ v,ar0 kvs k=some v->Q v H3)/\(ar0 kvs k=none->Q z (upd H3 a (.dK (ao6 kvs k z))))
def cf1 (td tx:TE):TE:=λ W H Q=>td W H λ x H1=>∃ a,x=.ref a/\IsD H1 a/\tx W H1 λ z H2=>∃ o kvs more,z=.ref o/\a≠o/\H2 a=some (.dK kvs)/\H2 o=some (.dK more)/\kvs.length+more.length<=aO/\Q .non (upd H2 a (.dK (af6 kvs more)))
section
variable {X:Cx} {o e f:Expr} {apos cpos:Pos} {td ty tx:TE}
theorem bk6 (ho:PE X o td)(he:PE X e ty)(hf:PE X f tx)(m:M2 X o "setdefault" apos e f cpos):PE X (.Call (.Attribute o "setdefault" apos) [e,f] [] cpos) (bS8 td ty tx):=by
 intro Cc s W H Q I h
 refine gJ m.base m.few m.line eN fQ PySem.F.type_dict_setdefault (thn (ho Cc s W H _ I h) λ u s1 ⟨x,H1,I1,rx,a,ex,d,q1⟩=>?_)
 subst ex
 obtain rfl:u=Value.ref a:=rx
 obtain⟨t1,t2,_⟩:=bb2 I1 d
 refine⟨t1,t2,?_⟩
 rw[m.trees]
 refine cO rfl (d6 (cW (thn (he Cc s1 W H1 _ I1 q1) λ iv s2 ⟨y,H2,I2,ry,q2⟩ =>
  cW (thn (hf Cc s2 W H2 _ I2 q2) λ fv s3 ⟨z,H3,Y,rz,kvs,k,ek,ey,hl,g1,g2⟩=>eQ ?_))))
 subst ey
 obtain⟨zz,hd,vs,G,dd⟩:=bc9 Y.hok ek
 refine ka fQ dd.typeIs PySem.F.entry_dict_setdefault (PySem.F.args_dict_setdefault_3 _ _ _) (kt_meets_setdefault (zv X.prog X.w) a (aD4 ry) hd fv) ⟨vs,dd,by rw[<-G.length];exact zz,λ v hv=>?_,λ hn h' J hs=>?_⟩
 .obtain⟨v',hv',rv⟩:∃ v',ar0 kvs k=some v'/\RelV v' v:=by
   have:=G.val k
   rw[hv]at this
   cases q:ar0 kvs k with
   | none=>rw[q]at this;exact this.elim
   | some v'=>rw[q]at this;exact⟨v',rfl,this⟩
  exact⟨v',H3,Y.tok _,rv,g1 v' hv'⟩
 .have Z:ar0 kvs k=none:=by
   have:=G.val k
   rw[hn]at this
   cases q:ar0 kvs k with
   | none=>rfl
   | some v'=>rw[q]at this;exact this.elim
  have he:∃ q,h'.get? a=some q:=let⟨q,_,_,hq,_⟩:=J;⟨q,hq⟩
  have a0:(ao6 kvs k z).length<=aO:=by have:=jh kvs k z;lia
  exact⟨z,_,aw5 Y (by rw[ek];exact True.intro) hs he (aH7 a0 hd (G.put k rz) J),rz,g2 Z⟩
theorem bC3 (ho:PE X o td)(he:PE X e tx)(m:M1 X o "update" apos e cpos):PE X (.Call (.Attribute o "update" apos) [e] [] cpos) (cf1 td tx):=by
 intro z s W H Q I h
 refine gJ m.base m.few m.line eN gU PySem.F.type_dict_update (thn (ho z s W H _ I h) λ u s1 ⟨x,H1,I1,rx,a,ex,d,q1⟩=>?_)
 subst ex
 obtain rfl:u=Value.ref a:=rx
 obtain⟨t1,t2,_⟩:=bb2 I1 d
 refine⟨t1,t2,?_⟩
 rw[m.trees]
 refine cO rfl (d6 (cW (thn (he z s1 W H1 _ I1 q1) λ iv s2 ⟨y,H2,I2,ry,b,kvs,J,ez,ne,ek,em,hl,g⟩=>eQ ?_)))
 subst ez
 obtain rfl:iv=Value.ref b:=ry
 obtain⟨zz,hd,vs,G,dd⟩:=bc9 I2.hok ek
 obtain⟨zm,Z,vm,Cc,dm⟩:=bc9 I2.hok em
 refine ka gU dd.typeIs PySem.F.entry_dict_update (PySem.F.args_dict_update_2 _ _) (meets_dict_update (zv X.prog X.w) a b ne Z) ⟨vs,vm,dd,dm,by rw[<-G.length,<-Cc.length];exact hl,λ h' Y _ hs=>?_⟩
 have he:∃ q,h'.get? a=some q:=let⟨q,_,_,hq,_⟩:=Y;⟨q,hq⟩
 exact⟨.non,_,aw5 I2 (by rw[ek];exact True.intro) hs he (aH7 (am (qB J kvs) hl) hd (Cc.merge G) Y),rfl,g⟩
theorem bO1 (K:PySem.W.KdlSrc prog w T r d n P G)(Y:A.handled=none)(hok:G s.heap)(hn:n<=aO)
  (h:∀(h':Heap) (tk:Nat) (Cc:yJ),s.heap.objs.size<h'.objs.size->(∀ b o,s.heap.get? b=some o->h'.get? b=some o)->kb P Cc n->R Cc.toList { s with heap:=h',toks:=tk }) :
  wpAny (model prog w) A (collect (.ref r)) R E s:=by
 have lt:=K.there _ hok
 have J:(s.heap.push { cls:=.type "list",data:=.seq ([]).toArray }).get? s.heap.objs.size=some { cls:=.type "list",data:=.seq #[] }:=aE _ rfl
 have key:=PySem.W.kdl_extend (s:={ s with heap:=s.heap.push { cls:=.type "list",data:=.seq ([]:yG).toArray } })
  (R:=λ q s'=>∃ h' tk Cc c,q=.ok (.ret (.ref s.heap.objs.size))/\s'={ s with heap:=h',toks:=tk }/\(∀ b o,s.heap.get? b=some o->h'.get? b=some o)/\h'.get? s.heap.objs.size=some { cls:=.type "list",dict:=none,data:=.seq Cc c,slots:=#[] }/\kb P Cc n)
  K Y (K.keep _ _ hok λ _ _ _ e=>af _ e) s.heap.objs.size (cu lt.1) (cu lt.2) (.ref s.heap.objs.size) 0 J
  (λ h' tk Cc c k g it=>⟨h',tk,Cc,c,rfl,rfl,λ b o e=>k b o (aw (aG e)) (af _ e),g,it⟩) hn
 unfold collect
 refine ae (wpAny_runValue (cK entry_proto_collect' ?_))
 rw[bX PySem.F.plain_proto_collect _]
 refine ae (bB (au ⟨cS g6 _,cK entry_list_iadd' ?_⟩))
 rw[bX g6 _]
 have fin:∀(q:km)  s' ,(∃ h' tk Cc c,q=.ok (.ret (.ref s.heap.objs.size))/\s'={ s with heap:=h',toks:=tk }/\(∀ b o,s.heap.get? b=some o->h'.get? b=some o)/\h'.get? s.heap.objs.size=some { cls:=.type "list",dict:=none,data:=.seq Cc c,slots:=#[] }/\kb P Cc n) ->
   ∃ h' tk Cc c,q=.ok (.ret (.ref s.heap.objs.size))/\s'={ s with heap:=h',toks:=tk }/\h'.get? s.heap.objs.size=some { cls:=.type "list",dict:=none,data:=.seq Cc c,slots:=#[] }/\R Cc.toList s':=λ q s' ⟨h',tk,Cc,c,e1,e2,k,g,it⟩=>⟨h',tk,Cc,c,e1,e2,g,e2▸h h' tk Cc (aG g) k it⟩
 refine bU key (λ f s' x=>?_) λ e s' x=>?_
 .cases f with
  | done f =>
   obtain⟨h',tk,Cc,c,e,rfl,g,z⟩:=fin _ _ x
   cases e
   exact ae (kS g (au z))
  | again c=>exact⟨x.1,eR x.2 λ q s' y=>by
    obtain⟨h',tk,Cc,c,e,rfl,g,z⟩:=fin _ _ y
    cases e
    exact ae (kS g (au z))⟩
 .obtain⟨h',tk,Cc,c,e,_⟩:=x
  cases e
theorem bI8 {vs:yG}{out:yJ}(ho:h.get? a=some (kB "list" vs.toArray n)):∃ e,(sortedHeap h a vs out).get? a=some { cls:=.type "list",data:=.seq out e }:=by
 have ha:=aG ho
 obtain⟨e1,g1⟩:∃ e1,(h.update a (fm λ _=>#[])).get? a=some (kB "list" #[] e1):=⟨_,get?_update_seq ho _⟩
 have g2:(((h.update a (fm λ _=>#[])).push (kB "tuple" vs.toArray 0)).push (kB "list" #[] 0)).get? a=some (kB "list" #[] e1):=by
  rw[gI _ _ _ (by rw[size_push',kC];exact aw (eV ha)),gI _ _ _ (by rw[kC];exact aw ha)];exact g1
 exact⟨_,get?_update_seq g2 _⟩
theorem bp5 {vs:yG}{out:yJ}{o}(hb:h.get? b=some o)(hne:b≠a):(sortedHeap h a vs out).get? b=some o :=
 (aY _ _ (bH hne)).trans (af _ (af _ ((aY _ _ (bH hne)).trans hb)))
theorem aA5 (hc:X.calm=true):ac2 X (.builtin "sorted") (λ xs H Q=>∃(p:Addr) (kvs:List (Key×V)) (ns:List Int),xs=[.ref p]/\H p=some (.dK kvs)/\kvs.map (·.1)=ns.map Sum.inl/\ns.length<64/\∀ l  (ms:List Int),H l=none->ms.Perm ns->ms.Pairwise (·<=·)->Q (.ref l) (upd H l (.lst (ms.map V.int)))):=by
 intro a4 s W H xs us Q I r h
 obtain⟨p,kvs,ns,rfl,hd,hk,hn,q⟩:=h
 obtain⟨u,rfl,rx⟩:=qX r
 cases rx
 obtain⟨zz,y,vs,r,o,es,a0,h1,h2,h3,h4,h5,h6⟩:=(I.hok p _ hd)
 have hl:=et r
 have Z:=by have:=congrArg kE hk;simpa using this
 refine Calls.call_function_entry kind_sorted plain_sorted entry_sorted (args_sorted1 _) ?_
 unfold kP.«sorted»
 refine ae (au (ae (bO1 (PySem.W.kdl_dict y) (I.ok.hd hc) ⟨o,es,h1,h2,h3,h4,h5,h6⟩ (by lia) λ h' tk z Y kp it=>?_)))
 have J:z.toList.length=ns.length:=by rw[dq];exact it.1.trans (hl.symm.trans Z)
 have vi:=by
  have:Vals (ns.map V.int) z.toList:=by
   have e:ns.map V.int=kvs.map λ kv=>kV kv.1:=by
    have:(kvs.map (·.1)).map kV=(ns.map Sum.inl).map kV:=by rw[hk]
    rw[cR,cR]at this
    exact this.symm
   rw[e]
   refine aL4 (by rw[dq];exact it.1.trans hl.symm) λ j u e k v hk=>?_
   obtain⟨k',x',e1,e2⟩:=it.2 j u (by rw[<-iJ];exact e)
   obtain⟨u',e3,_⟩:=KV.get r hk
   rw[e3]at e1;cases e1
   exact bu7 e2
  exact aP6 this
 refine ae (wpAny_newList ?_ (by rw[J,eJ];lia))
 have g:(h'.push (kB "list" z.toList.toArray 0)).get? h'.objs.size=some (kB "list" z.toList.toArray 0):=aE _ rfl
 refine ae (cf (cq slot_list_sort ⟨_,g,rfl⟩ entry_list_sort (list_sort_tree g vi (by lia) λ out G a1 a2 a3=>⟨_,rfl,?_⟩) (args_list_sort _)))
 refine au ⟨_,rfl,?_⟩
 obtain⟨e,he⟩:=bI8 g
 have Cc:=dC Y
 refine⟨.ref h'.objs.size,_,I.laid (t':=tk) (λ b ob hb=>bp5 (af _ (kp b ob hb)) (aw (aG (kp b ob hb)))) Cc (show ab9 X.prog X.w _ _ _ (.lst (G.map V.int))from⟨?_,out.toList,e,an0 a1,by rw[Array.toArray_toList];exact he⟩),rfl,q _ G (I.hok.fresh Cc) a2 a3⟩
 rw[ax,a2.length_eq,eJ];omega
end
end L2
end
noncomputable section
namespace DV
inductive D where
 | non|bl (b:Bool)|int (i:Int)|str (x:List Nat)|tup (l:List D)|ref (n:Nat)|fn (f:String)|clo (f:String) (cs:List D)
noncomputable instance:DecidableEq D:=λ a b=>eO (a=b)
noncomputable instance (x:D):Decidable (x=.non):=match x with
 | .non=>.isTrue rfl
 | .bl _=>.isFalse nofun
 | .int _=>.isFalse nofun
 | .str _=>.isFalse nofun
 | .tup _=>.isFalse nofun
 | .ref _=>.isFalse nofun
 | .fn _=>.isFalse nofun
 | .clo _ _=>.isFalse nofun
inductive O where
 | lst (l:List D)|ro (l:List D)|dic (l:List (D×D))|ins (c:String) (fs:List (D×D))|dicF (l:List (D×D))
noncomputable instance:DecidableEq O:=λ a b=>eO (a=b)
noncomputable abbrev Sto:=List O
noncomputable def O.kd:O->Nat
 | .lst _=>0|.ro _=>1|.dic _=>2|.ins _ _=>3|.dicF _=>2
inductive R (α:Type) where
 | ok (a:α) (s:Sto)|exc (e:D) (s:Sto)|bad
noncomputable abbrev M α :=Sto->R α
noncomputable def R.bind (r:R α)(f:α->Sto->R β):R β:=match r with
 | .ok a s=>f a s
 | .exc e s=>.exc e s
 | .bad=>.bad
@[simp] theorem R.bind_ok a s (f:α->Sto->R β):(R.ok a s).bind f=f a s:=rfl
@[simp] theorem R.bind_bad (f:α->Sto->R β):(R.bad).bind f=.bad:=rfl
@[simp] theorem R.bind_exc e s (f:α->Sto->R β):(R.exc e s).bind f=.exc e s:=rfl
theorem R.bind_inv {r:R α}{b:β}(h:r.bind f=.ok b t):∃ a s,r=.ok a s/\f a s=.ok b t:=by
 cases r with
 | ok a s=>exact⟨a,s,rfl,h⟩
 | exc e s=>cases h
 | bad=>cases h
@[simp] theorem R.bind_assoc (r:R α) f (g:β->Sto->R γ):(r.bind f).bind g=r.bind λ a s=>(f a s).bind g:=by cases r<;>rfl
mutual
noncomputable def D.bnd (n:Nat):D->Bool
 | .tup l=>D.bndL n l
 | .ref k=>decide (k<n)
 | .clo _ l=>D.bndL n l
 | _=>true
noncomputable def D.bndL (n:Nat):List D->Bool
 | []=>true
 | d::l=>D.bnd n d&&D.bndL n l
end
noncomputable def O.bnd (n:Nat):O->Bool
 | .lst l=>D.bndL n l
 | .ro l=>D.bndL n l
 | .dic l=>D.bndL n (l.map (·.1))&&D.bndL n (l.map (·.2))
 | .ins _ l=>D.bndL n (l.map (·.1))&&D.bndL n (l.map (·.2))
 | .dicF l=>D.bndL n (l.map (·.1))&&D.bndL n (l.map (·.2))
mutual
noncomputable def D.plain:D->Bool
 | .non=>true|.int _=>true|.str _=>true
 | .tup l=>D.plainL l
 | _=>false
noncomputable def D.plainL:List D->Bool
 | []=>true
 | d::l=>D.plain d&&D.plainL l
end
mutual
noncomputable def D.ncl:D->Bool
 | .tup l=>D.nclL l
 | .clo _ _=>false
 | _=>true
noncomputable def D.nclL:List D->Bool
 | []=>true
 | d::l=>D.ncl d&&D.nclL l
end
noncomputable def O.ncl:O->Bool
 | .lst l=>D.nclL l
 | .ro l=>D.nclL l
 | .dic l=>D.nclL (l.map (·.2))
 | .dicF l=>D.nclL (l.map (·.2))
 | .ins _ l=>D.nclL (l.map (·.2))
noncomputable def D.key:D->Bool
 | .int _=>true|.str _=>true|_=>false
noncomputable def D.hdI:List D->Bool
 | .int _::_=>true|.non::_=>true|.tup _::_=>true|_=>false
noncomputable def D.keyF:D->Bool
 | .int _=>true|.non=>true|.str x=>decide (x.length<=1000)|_=>false
noncomputable def LIM:Nat:=1000000
@[irreducible] noncomputable def BIG:Nat:=2^60000
@[irreducible] noncomputable def DIVL:Nat:=2^4096
inductive BOp where
 | add|sub|mul|fdiv|mod|pow|shl|shr|band|bor
 deriving DecidableEq
inductive COp where
 | eq|ne|lt|le|gt|ge|isin|notin
 deriving DecidableEq
inductive Cn where
 | non|bl (b:Bool)|int (i:Int)|str (x:List Nat)
 deriving DecidableEq
noncomputable def Cn.d:Cn->D
 | .non=>.non|.bl b=>.bl b|.int i=>.int i|.str x=>.str x
inductive Bi where
 | len|abs|int|str|min2|max2|max3|min3|isInt|isBool|isStr|isTup|isList|ord
 deriving DecidableEq
inductive Mk where
 | tuple|list|all|any|sum|min|max|sorted|lenset
 deriving DecidableEq
inductive Mt where
 | append|partition
 deriving DecidableEq
inductive Tg where
 | one (i:Nat)|tup (is:List Nat)
 deriving DecidableEq
set_option genInjectivity false
mutual
inductive E where
 | var (i:Nat)|cst (c:Cn)|glob (x:String)
 | bin (op:BOp) (a b:E)|not (a:E)
 | cmp (op:COp) (a b:E)|chain (o p:COp) (a b c:E)
 | isN (a:E)|notN (a:E)
 | and (a b:E)|or (a b:E)|ite (c a b:E)
 | tup (es:Es)|lst (es:Es)|dic (ks vs:Es)
 | ix (a b:E)|slU (a hi:E)
 | call (f:String) (as:As)|callC (f:String) (as:As)|callV (i:Nat) (es:Es)
 | bi (b:Bi) (es:Es)|mk (k:Mk) (l:L)|mkD (k:Mk) (l:L) (d:E)
 | meth (m:Mt) (o:E) (es:Es)|ext (o:E) (l:L)|mkDs (k:Mk) (e d:E)|minK (id:String) (e:E) (j:Int)
 | gtd (o k d:E)|sdf (o k d:E)|upd (o x:E)|srtD (e:E)
inductive Es where
 | nil|cons (e:E) (es:Es)
inductive As where
 | nil|ex (e:E) (as:As)|lam (id:String) (caps:List Nat) (as:As)|fn (f:String) (as:As)
inductive I where
 | seq (e:E)|rng1 (a:E)|enum (it:I)|keys (e:E)
inductive L where
 | comp (tg:Tg) (it:I) (e:E) (caps:yD)|compIf (tg:Tg) (it:I) (c e:E) (caps:yD)|disp (es:Es)|seq (e:E)
end
mutual
inductive S where
 | asg (tg:Tg) (e:E)|setIx (o i e:E)|ex (e:E)|ret (e:E)
 | ite (c:E) (a b:Ss)|whl (c:E) (b:Ss)|for_ (tg:Tg) (it:I) (b:Ss)|cont|und (i:Nat)|forK (tg:Tg) (e:E) (b:Ss)
inductive Ss where
 | nil|cons (s:S) (ss:Ss)
end
set_option genInjectivity true
noncomputable abbrev Env:=List (Option D)
noncomputable def ad1 (o:O):M D:=λ s=>.ok (.ref s.length) (s++[o])
noncomputable def pur (d:D):M D:=λ s=>.ok d s
noncomputable def bad :M α:=λ _=>.bad
noncomputable def mulOk (a b:Int):Bool:=decide (a.natAbs<2^64)||decide (b.natAbs<2^64)||(decide (a.natAbs<BIG)&&decide (b.natAbs<BIG))
noncomputable def rep:Nat->List Nat->List Nat
 | 0,_=>[]
 | n+1,a=>a++rep n a
noncomputable def aS7:Nat->List D->List D
 | 0,_=>[]
 | n+1,a=>a++aS7 n a
noncomputable def qF:BOp->D->D->M D
 | .add,.int a,.int b=>pur (.int (a+b))
 | .add,.str a,.str b=>if a.length+b.length<=LIM then pur (.str (a++b))else bad
 | .add,.tup a,.tup b=>if a.length+b.length<=LIM then pur (.tup (a++b))else bad
 | .add,.ref a,.ref b=>λ s=>match s[a]?,s[b]? with
  | some (.lst l),some (.lst m)=>if l.length+m.length<=LIM then ad1 (.lst (l++m)) s else .bad
  | _,_=>.bad
 | .mul,.int a,.int b=>if mulOk a b then pur (.int (a*b))else bad
 | .mul,.str a,.int n=>if 0<=n/\n<=1000000/\a.length*n.toNat<=LIM then pur (.str (rep n.toNat a))else bad
 | .mul,.tup a,.int n=>if 0<=n/\n<=1000000/\a.length*n.toNat<=LIM then pur (.tup (aS7 n.toNat a))else bad
 | .mul,.ref a,.int n=>λ s=>match s[a]? with
  | some (.lst l)=>if 0<=n/\n<=1000000/\l.length*n.toNat<=LIM then ad1 (.lst (aS7 n.toNat l)) s else .bad
  | _=>.bad
 | .fdiv,.int a,.int b=>if 0<b/\b<(DIVL)then pur (.int (a / b))else bad
 | .mod,.int a,.int b=>if 0<b then pur (.int (a % b))else bad
 | .pow,.int a,.int b=>if 0<=b/\b<=1000000/\a.natAbs<2^64 then pur (.int (a^b.toNat))else bad
 | .shl,.int a,.int b=>if 0<=b/\b<=1000000/\a.natAbs<2^128 then pur (.int (a*2^b.toNat))else bad
 | .bor,.int a,.int b=>if 0<=a/\0<=b then pur (.int ((a.toNat ||| b.toNat)))else bad
 | _,_,_=>bad
noncomputable def kd (s:Sto):D->Nat
 | .non=>0|.bl _=>1|.int _=>1|.str _=>2|.tup _=>3
 | .ref r=>match s[r]? with|some (.lst _)=>4|_=>9
 | _=>9
noncomputable def aE8 (a b:Nat):Bool:=a==9||b==9||a==b
noncomputable def b2i (b:Bool):Int:=if b then 1 else 0
noncomputable def aQ0:D->D->Option Bool
 | .non,.non=>some true
 | .bl a,.bl b=>some (a==b)
 | .int a,.int b=>some (a==b)
 | .bl a,.int b=>some (b2i a==b)
 | .int a,.bl b=>some (a==b2i b)
 | .str a,.str b=>some (a==b)
 | _,_=>none
noncomputable def ad2 (s:Sto)(a b:D):Option Bool:=match aQ0 a b with
 | some z=>some z
 | none=>if aE8 (kd s a) (kd s b)then none else some false
noncomputable def eqL (f:D->D->Option Bool):List D->List D->Option Bool
 | [],[]=>some true
 | [],_::_=>some false
 | _::_,[]=>some false
 | a::l,b::m=>match f a b,eqL f l m with
  | some x,some y=>some (x&&y)
  | _,_=>none
noncomputable def eqv (s:Sto):Nat->D->D->Option Bool
 | 0,a,b=>ad2 s a b
 | n+1,a,b=>match a,b with
  | .tup l,.tup m=>eqL (eqv s n) l m
  | .ref x,.ref y=>match s[x]?,s[y]? with
   | some (.lst l),some (.lst m)=>if l.length=m.length then eqL (eqv s n) l m else some false
   | _,_=>none
  | a,b=>ad2 s a b
noncomputable def DEEP:Nat:=30
noncomputable def eqM (a b:D):M D:=λ s=>match eqv s DEEP a b with
 | some r=>.ok (.bl r) s
 | none=>.bad
noncomputable def inL (s:Sto)(x:D):List D->Option Bool
 | []=>some false
 | y::l=>match eqv s DEEP y x,inL s x l with
  | some a,some b=>some (a||b)
  | _,_=>none
noncomputable def look (k:D):List (D×D)->Option D
 | []=>none
 | (a,v)::l=>if a=k then some v else look k l
noncomputable def inM (a b:D):M Bool:=λ s=>match b with
 | .tup l=>match inL s a l with|some r=>.ok r s|none=>.bad
 | .ref r=>match s[r]? with
  | some (.lst l)=>match inL s a l with|some r=>.ok r s|none=>.bad
  | some (.dic l)=>if a.key then .ok (look a l).isSome s else .bad
  | _=>.bad
 | .str y=>match a with|.str [c]=>.ok (decide (c∈y)) s|_=>.bad
 | _=>.bad
noncomputable def bj4:D->Option (Int×List Nat)
 | .tup [.int i,.str x]=>some (i,x)
 | _=>none
noncomputable def cd8 (f:Int->List Nat->Int->List Nat->Bool)(a b:D):M D:=λ s=>match bj4 a,bj4 b with
 | some (i,x),some (j,y)=>.ok (.bl (f i x j y)) s
 | _,_=>.bad
noncomputable def z0:COp->D->D->M D
 | .eq,a,b=>eqM a b
 | .ne,a,b=>λ s=>match eqv s DEEP a b with|some r=>.ok (.bl (!r)) s|none=>.bad
 | .lt,.int a,.int b=>pur (.bl (decide (a<b)))
 | .le,.int a,.int b=>pur (.bl (decide (a<=b)))
 | .gt,.int a,.int b=>pur (.bl (decide (b<a)))
 | .isin,a,b=>λ s=>(inM a b s).bind λ r s=>.ok (.bl r) s
 | .notin,a,b=>λ s=>(inM a b s).bind λ r s=>.ok (.bl (!r)) s
 | _,_,_=>bad
noncomputable def ixn (n:Nat)(i:Int):Option Nat:=if 0<=i then(if i<n then some i.toNat else none)else if -(n)<=i then some (i+n).toNat else none
noncomputable def sbd (n:Nat)(i:Int):Nat:=if 0<=i then min i.toNat n else(i+n).toNat
noncomputable def loB (n:Nat):Option Int->Nat
 | none=>0
 | some i=>sbd n i
noncomputable def hiB (n:Nat):Option Int->Nat
 | none=>n
 | some i=>sbd n i
noncomputable def aC6 {α:Type}(l:List α)(lo hi:Option Int):List α:=(l.drop (loB l.length lo)).take (hiB l.length hi - loB l.length lo)
noncomputable def ixM (a b:D):M D:=λ s=>match a,b with
 | .tup l,.int i=>match(ixn l.length i).bind λ j=>l[j]? with|some d=>.ok d s|none=>.bad
 | .str l,.int i=>match(ixn l.length i).bind λ j=>l[j]? with|some c=>.ok (.str [c]) s|none=>.bad
 | .ref r,b=>match s[r]? with
  | some (.lst l)=>match b with
   | .int i=>match(ixn l.length i).bind λ j=>l[j]? with|some d=>.ok d s|none=>.bad
   | _=>.bad
  | some (.ro l)=>match b with
   | .int i=>match(ixn l.length i).bind λ j=>l[j]? with|some d=>.ok d s|none=>.bad
   | _=>.bad
  | some (.dic l)=>if b.key then match look b l with|some d=>.ok d s|none=>.bad else .bad
  | _=>.bad
 | _,_=>.bad
noncomputable def slM (a:D)(lo hi:Option Int):M D:=λ s=>match a with
 | .tup l=>.ok (.tup (aC6 l lo hi)) s
 | .str l=>.ok (.str (aC6 l lo hi)) s
 | .ref r=>match s[r]? with
  | some (.lst l)=>ad1 (.lst (aC6 l lo hi)) s
  | _=>.bad
 | _=>.bad
noncomputable def ap1:List D->Option (List Bool)
 | []=>some []
 | .bl b::l=>(ap1 l).map (b::·)
 | _=>none
noncomputable def qi:List D->Option (List Int)
 | []=>some []
 | .int i::l=>(qi l).map (i::·)
 | _=>none
noncomputable def ar1:List D->Option (List (List Nat))
 | []=>some []
 | .str i::l=>(ar1 l).map (i::·)
 | _=>none
noncomputable def bB8 (d:D):M D:=λ s=>match d with
 | .tup l=>.ok (.int l.length) s
 | .str l=>.ok (.int l.length) s
 | .ref r=>match s[r]? with
  | some (.lst l)=>.ok (.int l.length) s
  | some (.ro l)=>.ok (.int l.length) s
  | _=>.bad
 | _=>.bad
noncomputable def isK (k:Nat)(d:D):M D:=λ s=>match d with
 | .non=>.ok (.bl false) s
 | .bl _=>.ok (.bl (k==1||k==2)) s
 | .int _=>.ok (.bl (k==1)) s
 | .str _=>.ok (.bl (k==3)) s
 | .tup _=>.ok (.bl (k==4)) s
 | .ref r=>match s[r]? with
  | some (.lst _)=>.ok (.bl (k==5)) s
  | _=>.bad
 | _=>.bad
noncomputable def bi1 (f:D->M D):List D->M D
 | [d]=>f d
 | _=>bad
noncomputable def aQ1:List D->M D
 | [.str [c]]=>λ s=>if 48<=c/\c<=57 then .ok (.int ((c - 48:Nat))) s else .bad
 | _=>bad
noncomputable def aW9:List D->M D
 | [.int i]=>λ s=>if 0<=i/\i<=9 then .ok (.str [48+i.toNat]) s else .bad
 | [.str w]=>λ s=>.ok (.str w) s
 | _=>bad
noncomputable def bi:Bi->List D->M D
 | .len,l=>bi1 bB8 l
 | .abs,l=>λ s=>match qi l with|some [i]=>.ok (.int (if i<0 then -i else i)) s|_=>.bad
 | .int,l=>λ s=>match ap1 l with|some [b]=>.ok (.int (if b then 1 else 0)) s|some _=>.bad|none=>aQ1 l s
 | .str,l=>aW9 l
 | .min2,l=>λ s=>match qi l with|some [a,b]=>.ok (.int (if b<a then b else a)) s|_=>.bad
 | .max2,l=>λ s=>match qi l with|some [a,b]=>.ok (.int (if b > a then b else a)) s|_=>.bad
 | .max3,l=>λ s=>match qi l with|some [a,b,c]=>.ok (.int (max (max a b) c)) s|_=>.bad
 | .isInt,l=>bi1 (isK 1) l
 | .isBool,l=>bi1 (isK 2) l
 | .isStr,l=>bi1 (isK 3) l
 | .isTup,l=>bi1 (isK 4) l
 | .isList,l=>bi1 (isK 5) l
 | _,_=>bad
noncomputable def minI:List Int->Option Int
 | []=>none
 | a::l=>some (l.foldl min a)
noncomputable def cl9:List Int->Option Int
 | []=>none
 | a::l=>some (l.foldl max a)
noncomputable def ins (a:Int):List Int->List Int
 | []=>[a]
 | b::l=>if a<=b then a::b::l else b::ins a l
noncomputable def zT:List Int->List Int
 | []=>[]
 | a::l=>ins a (zT l)
noncomputable def co5 (is:List Int):Bool:=is.all (λ i=>decide (-1000000000<=i/\i<=1000000000))&&decide (is.length<=1000000)
noncomputable def mk:Mk->List D->M D
 | .tuple,l=>λ s=>.ok (.tup l) s
 | .list,l=>ad1 (.lst l)
 | .all,l=>λ s=>match ap1 l with|some bs=>.ok (.bl (bs.all id)) s|none=>.bad
 | .any,l=>λ s=>match ap1 l with|some bs=>.ok (.bl (bs.any id)) s|none=>.bad
 | .sum,l=>λ s=>match qi l with|some is=>if co5 is then .ok (.int is.sum) s else .bad|none=>.bad
 | .min,l=>λ s=>match(qi l).bind minI with|some m=>.ok (.int m) s|none=>.bad
 | .max,l=>λ s=>match(qi l).bind cl9 with|some m=>.ok (.int m) s|none=>.bad
 | .sorted,l=>λ s=>match qi l with|some is=>ad1 (.lst ((zT is).map D.int)) s|none=>.bad
 | .lenset,l=>bad
noncomputable def mkD (k:Mk)(l:List D)(d:D):M D:=λ s=>match k with
 | .min=>match qi l with|some is=>(match minI is with|some m=>.ok (.int m) s|none=>.ok d s)|none=>.bad
 | .max=>match qi l with|some is=>(match cl9 is with|some m=>.ok (.int m) s|none=>.ok d s)|none=>.bad
 | _=>.bad
noncomputable def ae6 (k v:D)(l:List (D×D)):List (D×D):=if(look k l).isSome then l.map (λ p=>if p.1=k then(p.1,v)else p)else l++[(k,v)]
noncomputable def setIx (o i v:D):Sto->R Unit:=λ s=>match o with
 | .ref r=>match s[r]? with
  | some (.lst l)=>match i with
   | .int i=>match ixn l.length i with|some j=>.ok () (s.set r (.lst (l.set j v)))|none=>.bad
   | _=>.bad
  | some (.dic l)=>if i.key&&decide (l.length<LIM)then .ok () (s.set r (.dic (ae6 i v l)))else .bad
  | _=>.bad
 | _=>.bad
noncomputable def meth:Mt->D->List D->M D
 | .append,.ref r,[d]=>λ s=>match s[r]? with
  | some (.lst l)=>if l.length<LIM then .ok .non (s.set r (.lst (l++[d])))else .bad
  | _=>.bad
 | _,_,_=>bad
noncomputable def bw0 (o:D)(l:List D):M D:=λ s=>match o with
 | .ref r=>match s[r]? with
  | some (.lst m)=>if m.length+l.length<=LIM then .ok .non (s.set r (.lst (m++l)))else .bad
  | _=>.bad
 | _=>.bad
structure Fns where
 call:String->List D->M D
 lam:String->List D->List D->M D
 con:String->Option D
 xcall:String->List D->Sto->Option (String×Sto)
 xc:String->Bool
 xt:String->Bool
 cdc:String->Option (List (List Nat×List Nat))
 kd:String->Bool
 mcall:String->String->List D->M D
 new:String->List D->M D
 att:String->List Nat->Bool
noncomputable def bg1 (U:Env)(i:Nat):M D:=λ s=>match U[i]? with|some (some d)=>.ok d s|_=>.bad
noncomputable def ae7 (U:Env):List Nat->Option (List D)
 | []=>some []
 | i::is=>match U[i]?,ae7 U is with|some (some d),some l=>some (d::l)|_,_=>none
noncomputable def qe (U:Env)(caps:yD):Env:=caps.map λ o=>match o with|none=>none|some j=>(U[j]?).join
noncomputable def aJ8 (U:Env)(i:Nat)(d:D):Option Env:=if i < U.length then some (U.set i (some d))else none
noncomputable def ae9 (U:Env)(i:Nat):Option Env:=if i < U.length then some (U.set i none)else none
noncomputable def an6 (U:Env):List Nat->List D->Option Env
 | [],[]=>some U
 | i::is,d::l=>(aJ8 U i d).bind λ U=>an6 U is l
 | _,_=>none
noncomputable def jd (U:Env):Tg->D->Option Env
 | .one i,d=>aJ8 U i d
 | .tup is,.tup l=>an6 U is l
 | _,_=>none
structure Sq where
 its:List D
 src:List Nat
noncomputable def ak4 (d:D):M Sq:=λ s=>match d with
 | .tup l=>.ok ⟨l,[]⟩ s
 | .str l=>.ok ⟨l.map λ c=>.str [c],[]⟩ s
 | .ref r=>match s[r]? with
  | some (.lst l)=>.ok ⟨l,[r]⟩ s
  | some (.ro l)=>.ok ⟨l,[]⟩ s
  | _=>.bad
 | _=>.bad
noncomputable def bd9 (d:D):M Sq:=λ s=>match d with
 | .tup l=>.ok ⟨l,[]⟩ s
 | .str l=>.ok ⟨l.map λ c=>.str [c],[]⟩ s
 | .ref r=>match s[r]? with
  | some (.lst l)=>.ok ⟨l,[r]⟩ s
  | some (.ro l)=>.ok ⟨l,[]⟩ s
  | _=>.bad
 | _=>.bad
noncomputable def at2 (d:D):M Sq:=λ s=>match d with
 | .tup l=>.ok ⟨l,[]⟩ s
 | .ref r=>match s[r]? with
  | some (.lst l)=>.ok ⟨l,[r]⟩ s
  | some (.ro l)=>.ok ⟨l,[]⟩ s
  | _=>.bad
 | _=>.bad
noncomputable def at4 (d:D):M Sq:=λ s=>match d with
 | .ref r=>match s[r]? with
  | some (.dic l)=>if l.all (λ p=>p.1.keyF)then .ok ⟨l.map (·.1),[r]⟩ (s.set r (.dicF l))else .bad
  | _=>.bad
 | _=>.bad
noncomputable def aO9 (s:Sto)(src:List Nat):Bool:=src.all λ r=>match s[r]? with|some (.dicF _)=>false|_=>true
noncomputable def au0 (src:List Nat)(a:α):Sto->R α:=λ s=>match src with
 | [r]=>match s[r]? with
  | some (.dicF l)=>.ok a (s.set r (.dic l))
  | _=>.bad
 | _=>.bad
noncomputable def bp7 (o k e:D):M D:=λ s=>match o with
 | .ref r=>match s[r]? with
  | some (.dic l)=>if k.key then .ok ((look k l).getD e) s else .bad
  | _=>.bad
 | _=>.bad
noncomputable def aV3 (o k e:D):M D:=λ s=>match o with
 | .ref r=>match s[r]? with
  | some (.dic l)=>if k.key&&decide (l.length<LIM)then(match look k l with|some v=>.ok v s|none=>.ok e (s.set r (.dic (ae6 k e l))))else .bad
  | _=>.bad
 | _=>.bad
noncomputable def bn5 (l m:List (D×D)):List (D×D):=m.foldl (λ a p=>ae6 p.1 p.2 a) l
noncomputable def bq8 (o x:D):M D:=λ s=>match o with
 | .ref r=>match x with
  | .ref q=>match s[r]? with
   | some (.dic l)=>match s[q]? with
    | some (.dic m)=>if r≠q/\l.length+m.length<=LIM then .ok .non (s.set r (.dic (bn5 l m)))else .bad
    | _=>.bad
   | _=>.bad
  | _=>.bad
 | _=>.bad
noncomputable def as3 (o:D):M D:=λ s=>match o with
 | .ref r=>match s[r]? with
  | some (.dic l)=>match qi (l.map (·.1))with
   | some is=>if is.length<64 then ad1 (.lst ((zT is).map D.int)) s else .bad
   | none=>.bad
  | _=>.bad
 | _=>.bad
noncomputable def bs7 (d:D):Sto->R (List D):=λ s=>match d with
 | .tup l=>.ok l s
 | .str l=>.ok (l.map λ c=>.str [c]) s
 | .ref r=>match s[r]? with
  | some (.lst l)=>.ok l s
  | some (.ro l)=>.ok l s
  | _=>.bad
 | _=>.bad
noncomputable def aJ7 (d:D):Sto->R (List D):=λ s=>match d with
 | .ref r=>match s[r]? with
  | some (.lst l)=>.ok l s
  | _=>.bad
 | _=>.bad
noncomputable def bl5 (j:Int):D->Option Int
 | .tup l=>match(ixn l.length j).bind λ k=>l[k]? with|some (.int z)=>some z|_=>none
 | _=>none
noncomputable def ai8 (j:Int):List D->Option (List Int)
 | []=>some []
 | d::l=>match bl5 j d with
  | some z=>(match ai8 j l with|some zs=>some (z::zs)|none=>none)
  | none=>none
noncomputable def aN5 (f:Nat->Int):Nat->Nat
 | 0=>0
 | k+1=>if f (k+1)<f (aN5 f k)then k+1 else aN5 f k
noncomputable def aG4 (j:Int)(l:List D):M D:=λ s=>match ai8 j l with
 | some ks=>(match l[aN5 (λ i=>ks.getD i 0) (l.length - 1)]? with|some d=>.ok d s|none=>.bad)
 | none=>.bad
noncomputable def Ww62:Int:=4611686018427387904
noncomputable def qY (a b:Int):List D:=(aH (b - a).toNat).map λ(k:Nat)=>.int (a+k)
noncomputable def ad6 (n:Nat):List D->List D
 | []=>[]
 | d::l=>.tup [.int n,d]::ad6 (n+1) l
noncomputable def chk (s0 s:Sto)(src:List Nat):Bool:=src.all λ r=>decide (s[r]?=s0[r]?)
noncomputable def tru (r:R D)(f:Bool->Sto->R α):R α:=r.bind λ d s=>match d with|.bl b=>f b s|_=>.bad
@[simp] theorem tru_bl b s (f:Bool->Sto->R α):tru (.ok (.bl b) s) f=f b s:=rfl
noncomputable def ad9 (ok:Sto->Bool)(g:D->Env->Sto->R (Option D×Env)):List D->Env->Sto->R (List D)
 | [],_,s=>if ok s then .ok [] s else .bad
 | d::l,U,s=>if ok s then(g d U s).bind λ p s=>(ad9 ok g l p.2 s).bind λ r s=>.ok (match p.1 with|some v=>v::r|none=>r) s else .bad
mutual
noncomputable def ev (F:Fns):E->Env->Sto->R D
 | .var i,U,s=>bg1 U i s
 | .cst c,_,s=>.ok c.d s
 | .glob x,_,s=>match F.con x with|some d=>.ok d s|none=>.bad
 | .bin op a b,U,s=>(ev F a U s).bind λ x s=>(ev F b U s).bind λ y s=>qF op x y s
 | .not a,U,s=>tru (ev F a U s) λ b s=>.ok (.bl (!b)) s
 | .cmp op a b,U,s=>(ev F a U s).bind λ x s=>(ev F b U s).bind λ y s=>z0 op x y s
 | .chain o p a b c,U,s=>(ev F a U s).bind λ x s=>(ev F b U s).bind λ y s=>tru (z0 o x y s) λ k s=>if k then(ev F c U s).bind λ z s=>z0 p y z s else .ok (.bl false) s
 | .isN a,U,s=>(ev F a U s).bind λ x s=>.ok (.bl (decide (x=.non))) s
 | .notN a,U,s=>(ev F a U s).bind λ x s=>.ok (.bl (!decide (x=.non))) s
 | .and a b,U,s=>tru (ev F a U s) λ c s=>if c then tru (ev F b U s) λ c s=>.ok (.bl c) s else .ok (.bl false) s
 | .or a b,U,s=>tru (ev F a U s) λ c s=>if c then .ok (.bl true) s else tru (ev F b U s) λ c s=>.ok (.bl c) s
 | .ite c a b,U,s=>tru (ev F c U s) λ k s=>if k then ev F a U s else ev F b U s
 | .tup es,U,s=>(evs F es U s).bind λ l s=>.ok (.tup l) s
 | .lst es,U,s=>(evs F es U s).bind λ l s=>ad1 (.lst l) s
 | .dic .nil .nil,U,s=>ad1 (.dic []) s
 | .dic (.cons k .nil) (.cons v .nil),U,s=>(ev F k U (s++[.dic []])).bind λ kd s1=>(ev F v U s1).bind λ vd s2=>if kd.key=true/\s2[s.length]?=some (.dic [])then .ok (.ref s.length) (s2.set s.length (.dic [(kd,vd)]))else .bad
 | .dic _ _,U,s=>.bad
 | .ix a b,U,s=>(ev F a U s).bind λ x s=>(ev F b U s).bind λ y s=>ixM x y s
 | .slU a hi,U,s=>(ev F a U s).bind λ x s=>(ev F hi U s).bind λ y s=>match y with|.int i=>slM x none (some i) s|_=>.bad
 | .call f as,U,s=>(ai7 F as U s).bind λ l s=>F.call f l s
 | .callC f as,U,s=>(ai7 F as U s).bind λ l s=>(F.call f l s).bind λ d s'=>if(d.ncl&&s'.all O.ncl)=true then .ok d s' else .bad
 | .callV i es,U,s=>(evs F es U s).bind λ l s=>match U[i]? with
  | some (some (.fn f))=>F.call f l s
  | some (some (.clo id cs))=>F.lam id cs l s
  | _=>.bad
 | .bi b es,U,s=>(evs F es U s).bind λ l s=>bi b l s
 | .mk k it,U,s=>(evL F it U s).bind λ q s=>mk k q s
 | .mkD k it d,U,s=>(evL F it U s).bind λ q s=>(ev F d U s).bind λ d s=>mkD k q d s
 | .meth m o es,U,s=>(ev F o U s).bind λ x s=>(evs F es U s).bind λ l s=>meth m x l s
 | .ext o it,U,s=>(ev F o U s).bind λ x s=>(evL F it U s).bind λ q s=>bw0 x q s
 | .mkDs k e d,U,s=>(ev F e U s).bind λ x s=>(ev F d U s).bind λ z s=>(aJ7 x s).bind λ q s=>mkD k q z s
 | .minK _ e j,U,s=>(ev F e U s).bind λ x s=>(aJ7 x s).bind λ q s=>aG4 j q s
 | .gtd o k d,U,s=>(ev F o U s).bind λ x s=>(ev F k U s).bind λ y s=>(ev F d U s).bind λ z s=>bp7 x y z s
 | .sdf o k d,U,s=>(ev F o U s).bind λ x s=>(ev F k U s).bind λ y s=>(ev F d U s).bind λ z s=>aV3 x y z s
 | .upd o x,U,s=>(ev F o U s).bind λ a s=>(ev F x U s).bind λ b s=>bq8 a b s
 | .srtD e,U,s=>(ev F e U s).bind λ x s=>as3 x s
noncomputable def evs (F:Fns):Es->Env->Sto->R (List D)
 | .nil,_,s=>.ok [] s
 | .cons e es,U,s=>(ev F e U s).bind λ d s=>(evs F es U s).bind λ l s=>.ok (d::l) s
noncomputable def ai7 (F:Fns):As->Env->Sto->R (List D)
 | .nil,_,s=>.ok [] s
 | .ex e as,U,s=>(ev F e U s).bind λ d s=>(ai7 F as U s).bind λ l s=>.ok (d::l) s
 | .lam id caps as,U,s=>match ae7 U caps with
  | some cs=>(ai7 F as U s).bind λ l s=>.ok (.clo id cs::l) s
  | none=>.bad
 | .fn f as,U,s=>(ai7 F as U s).bind λ l s=>.ok (.fn f::l) s
noncomputable def evI (F:Fns):I->Env->Sto->R Sq
 | .seq e,U,s=>(ev F e U s).bind λ d s=>ak4 d s
 | .rng1 a,U,s=>(ev F a U s).bind λ x s=>match x with|.int i=>if -Ww62<=i/\i<Ww62 then .ok ⟨qY 0 i,[]⟩ s else .bad|_=>.bad
 | .enum (.seq e),U,s=>(ev F e U s).bind λ d s=>(at2 d s).bind λ q s=>.ok ⟨ad6 0 q.its,q.src⟩ s
 | .enum _,_,_=>.bad
 | .keys e,U,s=>(ev F e U s).bind λ d s=>at4 d s
noncomputable def evL (F:Fns):L->Env->Sto->R (List D)
 | .comp tg it e caps,U,s=>(evI F it U s).bind λ q s0=>if q.its.length<=LIM then ad9 (λ s=>chk s0 s q.src) (λ d U s=>match jd U tg d with
   | some U=>(ev F e U s).bind λ v s=>.ok (some v,U) s
   | none=>.bad) q.its (qe U caps) s0 else .bad
 | .compIf tg it c e caps,U,s=>(evI F it U s).bind λ q s0=>if q.its.length<=LIM then ad9 (λ s=>chk s0 s q.src) (λ d U s=>match jd U tg d with
   | some U=>tru (ev F c U s) λ k s=>if k then(ev F e U s).bind λ v s=>.ok (some v,U) s else .ok (none,U) s
   | none=>.bad) q.its (qe U caps) s0 else .bad
 | .disp es,U,s=>evs F es U s
 | .seq e,U,s=>(ev F e U s).bind λ d s=>bs7 d s
end
inductive Ct where
 | next (U:Env)|ret (d:D)|cont (U:Env)|brk (U:Env)
noncomputable def aC7 (ok:Sto->Bool)(g:D->Env->Sto->R Ct):List D->Env->Sto->R Ct
 | [],U,s=>if ok s then .ok (.next U) s else .bad
 | d::l,U,s=>if ok s then(g d U s).bind λ c s=>match c with
   | .next U=>aC7 ok g l U s
   | .cont U=>aC7 ok g l U s
   | .brk U=>.ok (.next U) s
   | .ret d=>.ok (.ret d) s
  else .bad
noncomputable def jk (c:Env->Sto->R D)(g:Env->Sto->R Ct):Nat->Env->Sto->R Ct
 | 0,_,_=>.bad
 | n+1,U,s=>tru (c U s) λ b s=>if b then(g U s).bind λ c' s=>match c' with
   | .next U=>jk c g n U s
   | .cont U=>jk c g n U s
   | .brk U=>.ok (.next U) s
   | .ret d=>.ok (.ret d) s
  else .ok (.next U) s
open Classical in
noncomputable def whl (c:Env->Sto->R D)(g:Env->Sto->R Ct)(U:Env)(s:Sto):R Ct :=
 if h:∃ n,jk c g n U s≠.bad then jk c g h.choose U s else .bad
mutual
noncomputable def ex (F:Fns):S->Env->Sto->R Ct
 | .asg tg e,U,s=>(ev F e U s).bind λ d s=>match jd U tg d with|some U=>.ok (.next U) s|none=>.bad
 | .setIx o i e,U,s=>(ev F e U s).bind λ d s=>(ev F o U s).bind λ x s=>(ev F i U s).bind λ y s=>(setIx x y d s).bind λ _ s=>.ok (.next U) s
 | .ex e,U,s=>(ev F e U s).bind λ _ s=>.ok (.next U) s
 | .ret e,U,s=>(ev F e U s).bind λ d s=>.ok (.ret d) s
 | .ite c a b,U,s=>tru (ev F c U s) λ k s=>if k then exs F a U s else exs F b U s
 | .whl c b,U,s=>whl (ev F c) (exs F b) U s
 | .for_ tg it b,U,s=>(evI F it U s).bind λ q s0=>aC7 (λ s=>chk s0 s q.src) (λ d U s=>match jd U tg d with
   | some U=>exs F b U s
   | none=>.bad) q.its U s0
 | .cont,U,s=>.ok (.cont U) s
 | .und i,U,s=>match ae9 U i with|some U=>.ok (.next U) s|none=>.bad
 | .forK tg e b,U,s=>(evI F (.keys e) U s).bind λ q s0=>if aO9 s q.src then(aC7 (λ s=>chk s0 s q.src) (λ d U s=>match jd U tg d with
   | some U=>exs F b U s
   | none=>.bad) q.its U s0).bind (λ c s=>au0 q.src c s)else .bad
noncomputable def exs (F:Fns):Ss->Env->Sto->R Ct
 | .nil,U,s=>.ok (.next U) s
 | .cons st ss,U,s=>(ex F st U s).bind λ c s=>match c with|.next U=>exs F ss U s|c=>.ok c s
end
structure Df where
 name:String
 ps:Nat
 vs:Nat
 body:Ss
structure Lm where
 id:String
 ps:Nat
 cs:Nat
 body:E
structure Pr where
 df:String->Option Df
 lm:String->Option Lm
 con:String->Option D
 xf:String->Option Nat
 tf:String->Option Nat
 xc:String->Bool
 xt:String->Bool
 cdc:String->Option (List (List Nat×List Nat))
 mt:String->String->Option Df
 att:String->List Nat->Bool
noncomputable def as5 (st st':Sto):Bool:=(aH st.length).all λ i=>decide (st'[i]?=st[i]?)||(match st'[i]? with|some o=>o.bnd st.length|none=>false)
noncomputable def zr (st:Sto)(d:D)(st':Sto):R D :=
 if as5 st st' then
  match d with
  | .ref r=>if r<st.length then .ok d (st'.take st.length)else match st'[r]? with
   | some o=>if o.bnd st.length then .ok (.ref st.length) (st'.take st.length++[o])else .ok d st'
   | none=>.bad
  | d=>if d.bnd st.length then .ok d (st'.take st.length)else .ok d st'
 else .ok d st'
noncomputable def bv2 (F:Fns)(d:Df)(l:List D)(s:Sto):R D:=if l.length=d.ps then(exs F d.body (l.map some++aC d.vs none) s).bind λ c s'=>match c with
 | .ret v=>zr s v s'
 | .next _=>zr s .non s'
 | _=>.bad else .bad
noncomputable def aa1 (P:Pr):Nat->Fns
 | 0=>⟨λ _ _ _=>.bad,λ _ _ _ _=>.bad,P.con,λ _ _ _=>none,P.xc,P.xt,P.cdc,λ _=>false,λ _ _ _ _=>.bad,λ _ _ _=>.bad,P.att⟩
 | n+1=>⟨λ f l s=>match P.df f with
   | some d=>if l.length=d.ps then(exs (aa1 P n) d.body (l.map some++aC d.vs none) s).bind λ c s'=>match c with
     | .ret v=>zr s v s'
     | .next _=>zr s .non s'
     | _=>.bad else .bad
   | none=>.bad,
  λ id cs l s=>match P.lm id with
   | some d=>if l.length=d.ps/\cs.length=d.cs/\(D.nclL l&&D.nclL cs&&s.all O.ncl)=true then(ev (aa1 P n) d.body (l.map some++cs.map some) s).bind λ v s'=>zr s v s' else .bad
   | none=>.bad,P.con,
  λ _ _ _=>none,P.xc,P.xt,P.cdc,λ _=>false,λ _ _ _ _=>.bad,λ _ _ _=>.bad,P.att⟩
def KP (s s':Sto):Prop:=∀(i:Nat) o ,s[i]?=some o->∃ o',s'[i]?=some o'/\o'.kd=o.kd
theorem KP.refl s :KP s s:=λ i o h=>⟨o,h,rfl⟩
theorem KP.trans (h:KP a b)(g:KP b c):KP a c:=λ i o e=>by
 obtain⟨y,e1,k1⟩:=h i o e
 obtain⟨z,e2,k2⟩:=g i y e1
 exact⟨z,e2,k2.trans k1⟩
theorem KP.app s t :KP s (s++t):=λ i o e=>⟨o,by rw[aQ (ac.mp e).1];exact e,rfl⟩
theorem KP.set (h:s[r]?=some y)(k:o.kd=y.kd):KP s (s.set r o):=λ i u e=>by
 by_cases z:r=i
 .subst z
  rw[h]at e;cases e
  exact⟨o,aJ (ac.mp h).1,k⟩
 .exact⟨u,by rw[aB z];exact e,rfl⟩
def KR (s:Sto)(r:R α):Prop:=∀ a s',r=.ok a s'->KP s s'
theorem KR.bad :KR s (.bad:R α):=λ _ _ h=>by cases h
theorem KR.ok {a:α}:KR s (.ok a s):=λ _ _ h=>by cases h;exact KP.refl _
theorem KR.bind {f:α->Sto->R β}(h:KR s r)(g:∀ a s1,KR s1 (f a s1)):KR s (r.bind f):=λ b s' e=>by
 obtain⟨a,s1,e1,e2⟩:=R.bind_inv e
 exact(h a s1 e1).trans (g a s1 b s' e2)
theorem KR.tru {f:Bool->Sto->R α}(h:KR s r)(g:∀ a s1,KR s1 (f a s1)):KR s (tru r f):=KR.bind h λ a s1=>by
 cases a with
 | bl b=>exact g b s1
 | _=>exact KR.bad
theorem KR.if {c}[Decidable c]{a b:R α}(h:KR s a)(g:KR s b):KR s (if c then a else b):=by split;exact h;exact g
theorem KR.al :KR s (ad1 o s):=λ _ _ h=>by cases h;exact KP.app _ _
theorem KR.pu :KR s (pur d s):=λ _ _ h=>by cases h;exact KP.refl _
theorem KR.bd :KR s ((DV.bad:M D) s):=λ _ _ h=>by cases h
theorem KR.im {c}{_:Decidable c}{d}:KR s ((if c then pur d else DV.bad) s):=by split;exact KR.pu;exact KR.bd
theorem KR.ia {c}{_:Decidable c}{o}:KR s (if c then ad1 o s else .bad):=KR.if KR.al KR.bd
theorem bg5 op x y s :KR s (qF op x y s):=by
 cases op with
 | add=>cases x with
  | int a=>cases y with
   | int b=>exact KR.pu
   | _=>exact KR.bd
  | str a=>cases y with
   | str b=>exact KR.im
   | _=>exact KR.bd
  | tup a=>cases y with
   | tup b=>exact KR.im
   | _=>exact KR.bd
  | ref a=>cases y with
   | ref b =>
    show KR s (match s[a]?,s[b]? with|some (.lst l),some (.lst m)=>if l.length+m.length<=LIM then ad1 (.lst (l++m)) s else .bad|_,_=>.bad)
    split
    .exact KR.ia
    .exact KR.bd
   | _=>exact KR.bd
  | _=>exact KR.bd
 | sub=>intro a s' h;exact absurd h (by nofun)
 | mul=>cases x with
  | int a=>cases y with
   | int b=>exact KR.im
   | _=>exact KR.bd
  | str a=>cases y with
   | int b=>exact KR.im
   | _=>exact KR.bd
  | tup a=>cases y with
   | int b=>exact KR.im
   | _=>exact KR.bd
  | ref a=>cases y with
   | int n =>
    show KR s (match s[a]? with|some (.lst l)=>if 0<=n/\n<=1000000/\l.length*n.toNat<=LIM then ad1 (.lst (aS7 n.toNat l)) s else .bad|_=>.bad)
    split
    .exact KR.ia
    .exact KR.bd
   | _=>exact KR.bd
  | _=>exact KR.bd
 | fdiv=>cases x with
  | int a=>cases y with
   | int b=>exact KR.im
   | _=>exact KR.bd
  | _=>exact KR.bd
 | mod=>cases x with
  | int a=>cases y with
   | int b=>exact KR.im
   | _=>exact KR.bd
  | _=>exact KR.bd
 | pow=>cases x with
  | int a=>cases y with
   | int b=>exact KR.im
   | _=>exact KR.bd
  | _=>exact KR.bd
 | shl=>cases x with
  | int a=>cases y with
   | int b=>exact KR.im
   | _=>exact KR.bd
  | _=>exact KR.bd
 | shr=>intro a s' h;exact absurd h (by nofun)
 | band=>intro a s' h;exact absurd h (by nofun)
 | bor=>cases x with
  | int a=>cases y with
   | int b=>exact KR.im
   | _=>exact KR.bd
  | _=>exact KR.bd
theorem bK7 f x y s :KR s (cd8 f x y s):=by
 intro a s' h
 unfold cd8 at h
 split at h<;>cases h
 exact KP.refl _
theorem bb5 op x y s :KR s (z0 op x y s):=by
 have z:∀ a b:D,KR s (inM a b s):=λ a b=>by
  intro r s' h
  unfold inM at h
  split at h
  .split at h<;>cases h;exact KP.refl _
  .split at h
   .split at h<;>cases h;exact KP.refl _
   .split at h<;>cases h;exact KP.refl _
   .cases h
  .split at h<;>cases h;exact KP.refl _
  .cases h
 cases op with
 | isin=>exact KR.bind (z x y) λ _ _=>KR.ok
 | notin=>exact KR.bind (z x y) λ _ _=>KR.ok
 | eq=>intro a s' h;change eqM x y s=_ at h;unfold eqM at h;split at h<;>cases h;exact KP.refl _
 | ne =>
  intro a s' h
  change(match eqv s DEEP x y with|some r=>R.ok (D.bl (!r)) s|none=>.bad)=_ at h
  split at h<;>cases h;exact KP.refl _
 | _ =>
  intro a s' h
  cases x with
  | int i=>(cases y with
   | int j=>cases h<;>exact KP.refl _
   | _=>cases h)
  | tup l=>(cases y with
   | tup m=>first|exact bK7 _ _ _ _ _ _ h|cases h
   | _=>cases h)
  | _=>cases h
theorem ci4 x y s :KR s (ixM x y s):=by
 intro a s' h
 unfold ixM at h
 repeat' split at h
 all_goals first|(cases h;exact KP.refl _;done)|(cases h;done)
theorem ck6 x z y s :KR s (slM x z y s):=by
 intro a s' h
 unfold slM at h
 repeat' split at h
 all_goals first|(cases h;exact KP.refl _;done)|(cases h;exact KP.app _ _;done)|(cases h;done)
theorem bD4 x s :KR s (bs7 x s):=by
 intro a s' h
 unfold bs7 at h
 repeat' split at h
 all_goals first|(cases h;exact KP.refl _;done)|(cases h;done)
theorem aU1 x s :KR s (aJ7 x s):=by
 intro a s' h
 unfold aJ7 at h
 repeat' split at h
 all_goals first|(cases h;exact KP.refl _;done)|(cases h;done)
theorem bD0 x s :KR s (ak4 x s):=by
 intro a s' h
 unfold ak4 at h
 repeat' split at h
 all_goals first|(cases h;exact KP.refl _;done)|(cases h;done)
theorem bm9 x s :KR s (at2 x s):=by
 intro a s' h
 unfold at2 at h
 repeat' split at h
 all_goals first|(cases h;exact KP.refl _;done)|(cases h;done)
theorem bD1 l s :KR s (aW9 l s):=by
 intro a s' h
 unfold aW9 at h
 split at h
 .split at h<;>cases h;exact KP.refl _
 .cases h;exact KP.refl _
 .cases h
theorem bE1 l s :KR s (aQ1 l s):=by
 intro a s' h
 unfold aQ1 at h
 split at h
 .split at h<;>cases h;exact KP.refl _
 .cases h
theorem cg9 b l s :KR s (bi b l s):=by
 have k1:∀ f:D->M D,(∀ d,KR s (f d s))->KR s (bi1 f l s):=λ f y=>by
  cases l with
  | nil=>exact KR.bad
  | cons d t=>(cases t with
   | nil=>exact y d
   | cons _ _=>exact KR.bad)
 have k2:∀ k d,KR s (isK k d s):=λ k d=>by
  intro a s' h
  unfold isK at h
  repeat' split at h
  all_goals first|(cases h;exact KP.refl _;done)|(cases h;done)
 have z:∀ d,KR s (bB8 d s):=λ d=>by
  intro a s' h
  unfold bB8 at h
  repeat' split at h
  all_goals first|(cases h;exact KP.refl _;done)|(cases h;done)
 cases b with
 | len=>exact k1 _ z
 | isInt=>exact k1 _ (k2 1)
 | isBool=>exact k1 _ (k2 2)
 | isStr=>exact k1 _ (k2 3)
 | isTup=>exact k1 _ (k2 4)
 | isList=>exact k1 _ (k2 5)
 | str=>exact bD1 l s
 | int =>
  intro a s' h
  have h:(match ap1 l with|some [b]=>R.ok (D.int (if b then 1 else 0)) s|some _=>.bad|none=>aQ1 l s)=.ok a s':=h
  split at h
  .cases h;exact KP.refl _
  .cases h
  .exact bE1 l s a s' h
 | _ =>
  intro a s' h
  unfold bi at h
  first|(cases h;done)|(simp only at h;split at h<;>first|(cases h;exact KP.refl _;done)|(cases h;done))
theorem ce5 k l s :KR s (mk k l s):=by
 cases k with
 | tuple=>exact KR.ok
 | list=>exact KR.al
 | lenset=>exact KR.bad
 | _ =>
  intro a s' h
  unfold mk at h
  simp only at h
  repeat' split at h
  all_goals first|(cases h;exact KP.refl _;done)|(cases h;exact KP.app _ _;done)|(cases h;done)
theorem bw6 k l d s :KR s (mkD k l d s):=by
 intro a s' h
 unfold mkD at h
 repeat' split at h
 all_goals first|(cases h;exact KP.refl _;done)|(cases h;done)
theorem bC9 m o l s :KR s (meth m o l s):=by
 have y:∀ {r:Nat} {f:List D->R D},(∀ l,s[r]?=some (.lst l)->KR s (f l))->KR s (match s[r]? with|some (.lst l)=>f l|_=>.bad):=λ {r f} h=>by
  cases e:s[r]? with
  | none=>exact KR.bad
  | some ob=>cases ob with
   | lst l=>exact h l e
   | _=>exact KR.bad
 cases o with
 | ref r=>cases m with
  | append=>match l with
   | [d]=>exact y λ l e=>KR.if (λ _ _ h=>by cases h;exact KP.set e rfl) KR.bad
   | []=>exact KR.bd
   | _::_::_=>exact KR.bd
  | _=>exact KR.bd
 | _=>cases m<;>exact KR.bd
theorem bx0 o l s :KR s (bw0 o l s):=by
 intro a s' h
 unfold bw0 at h
 repeat' split at h
 all_goals first|(cases h;done)|(rename_i e _;cases h;exact KP.set e rfl;done)
theorem bo4 o i v s :KR s (setIx o i v s):=by
 intro a s' h
 unfold setIx at h
 cases o with
 | ref r =>
  simp only at h
  cases e:s[r]? with
  | none=>rw[e]at h;cases h
  | some ob =>
   rw[e]at h
   cases ob with
   | lst l =>
    cases i with
    | int k=>simp only at h;split at h<;>cases h;exact KP.set e rfl
    | _=>cases h
   | dic l=>simp only at h;split at h<;>cases h;exact KP.set e rfl
   | _=>cases h
 | _=>cases h
theorem bq9 d s :KR s (at4 d s):=by
 intro a s' h
 unfold at4 at h
 split at h
 .split at h
  .rename_i e
   split at h
   .cases h;exact KP.set e rfl
   .cases h
  .cases h
 .cases h
theorem bq1 src (a:α) s :KR s (au0 src a s):=by
 intro b s' h
 unfold au0 at h
 split at h
 .split at h
  .rename_i e;cases h;exact KP.set e rfl
  .cases h
 .cases h
theorem bJ4 o k e s :KR s (bp7 o k e s):=by
 intro a s' h
 unfold bp7 at h
 repeat' split at h
 all_goals first|(cases h;exact KP.refl _;done)|(cases h;done)
theorem bx8 o k e s :KR s (aV3 o k e s):=by
 intro a s' h
 unfold aV3 at h
 split at h
 .split at h
  .rename_i q
   split at h
   .split at h
    .cases h;exact KP.refl _
    .cases h;exact KP.set q rfl
   .cases h
  .cases h
 .cases h
theorem by8 o x s :KR s (bq8 o x s):=by
 intro a s' h
 unfold bq8 at h
 split at h
 .split at h
  .split at h
   .rename_i q
    split at h
    .split at h
     .cases h;exact KP.set q rfl
     .cases h
    .cases h
   .cases h
  .cases h
 .cases h
theorem bo7 o s :KR s (as3 o s):=by
 intro a s' h
 unfold as3 at h
 repeat' split at h
 all_goals first|(cases h;exact KP.app _ _;done)|(cases h;done)
structure FK (F:Fns):Prop where
 call:∀ f l s,KR s (F.call f l s)
 lam:∀ id cs l s,KR s (F.lam id cs l s)
theorem ar8 (hg:∀ d U s,KR s (g d U s)):∀ l U s ,KR s (ad9 ok g l U s)
 | [],U,s=>KR.if KR.ok KR.bad
 | d::l,U,s=>KR.if (KR.bind (hg d U s) λ p s1=>KR.bind (ar8 hg l p.2 s1) λ r s2=>KR.ok) KR.bad
section
variable {F:Fns} (hF:FK F)
theorem bw9 U i s :KR s (bg1 U i s):=by
 intro a s' h
 unfold bg1 at h
 split at h<;>cases h;exact KP.refl _
include hF
mutual
theorem zo:∀(e:E) (U:Env) (s:Sto),KR s (ev F e U s)
 | .var i,U,s=>bw9 U i s
 | .cst c,U,s=>KR.ok
 | .glob x,U,s=>by
  intro a s' h
  change(match F.con x with|some d=>R.ok d s|none=>.bad)=_ at h
  split at h<;>cases h;exact KP.refl _
 | .bin op a b,U,s=>KR.bind (zo a U s) λ x s=>KR.bind (zo b U s) λ y s=>bg5 op x y s
 | .not a,U,s=>KR.tru (zo a U s) λ b s=>KR.ok
 | .cmp op a b,U,s=>KR.bind (zo a U s) λ x s=>KR.bind (zo b U s) λ y s=>bb5 op x y s
 | .chain o p a b c,U,s=>KR.bind (zo a U s) λ x s=>KR.bind (zo b U s) λ y s=>KR.tru (bb5 o x y s) λ k s=>KR.if (KR.bind (zo c U s) λ z s=>bb5 p y z s) KR.ok
 | .isN a,U,s=>KR.bind (zo a U s) λ x s=>KR.ok
 | .notN a,U,s=>KR.bind (zo a U s) λ x s=>KR.ok
 | .and a b,U,s=>KR.tru (zo a U s) λ c s=>KR.if (KR.tru (zo b U s) λ c s=>KR.ok) KR.ok
 | .or a b,U,s=>KR.tru (zo a U s) λ c s=>KR.if KR.ok (KR.tru (zo b U s) λ c s=>KR.ok)
 | .ite c a b,U,s=>KR.tru (zo c U s) λ k s=>KR.if (zo a U s) (zo b U s)
 | .tup es,U,s=>KR.bind (ai5 es U s) λ l s=>KR.ok
 | .lst es,U,s=>KR.bind (ai5 es U s) λ l s=>KR.al
 | .dic .nil .nil,U,s=>KR.al
 | .dic (.cons k .nil) (.cons v .nil),U,s=>by
  intro a s' h
  obtain⟨kd,s1,e1,h⟩:=R.bind_inv (show(ev F k U (s++[.dic []])).bind _=_ from h)
  obtain⟨Cc,s2,e2,h⟩:=R.bind_inv h
  split at h
  case isFalse=>cases h
  rename_i hc
  cases h
  exact((KP.app _ _).trans ((zo k U _ _ _ e1).trans (zo v U _ _ _ e2))).trans (KP.set hc.2 rfl)
 | .dic .nil (.cons _ _),U,s=>KR.bad
 | .dic (.cons _ .nil) .nil,U,s=>KR.bad
 | .dic (.cons _ .nil) (.cons _ (.cons _ _)),U,s=>KR.bad
 | .dic (.cons _ (.cons _ _)) _,U,s=>KR.bad
 | .gtd o k d,U,s=>KR.bind (zo o U s) λ x s=>KR.bind (zo k U s) λ y s=>KR.bind (zo d U s) λ z s=>bJ4 x y z s
 | .sdf o k d,U,s=>KR.bind (zo o U s) λ x s=>KR.bind (zo k U s) λ y s=>KR.bind (zo d U s) λ z s=>bx8 x y z s
 | .upd o x,U,s=>KR.bind (zo o U s) λ a s=>KR.bind (zo x U s) λ b s=>by8 a b s
 | .srtD e,U,s=>KR.bind (zo e U s) λ x s=>bo7 x s
 | .ix a b,U,s=>KR.bind (zo a U s) λ x s=>KR.bind (zo b U s) λ y s=>ci4 x y s
 | .slU a hi,U,s=>KR.bind (zo a U s) λ x s=>KR.bind (zo hi U s) λ y s=>by
  cases y with
  | int i=>exact ck6 _ _ _ _
  | _=>exact KR.bad
 | .call f as,U,s=>KR.bind (ah4 as U s) λ l s=>hF.call f l s
 | .callC f as,U,s=>KR.bind (ah4 as U s) λ l s=>KR.bind (hF.call f l s) λ d s'=>KR.if KR.ok KR.bad
 | .callV i es,U,s=>KR.bind (ai5 es U s) λ l s=>by
  intro a s' h
  split at h
  .exact hF.call _ _ _ _ _ h
  .exact hF.lam _ _ _ _ _ _ h
  .cases h
 | .bi b es,U,s=>KR.bind (ai5 es U s) λ l s=>cg9 b l s
 | .mk k it,U,s=>KR.bind (aO3 it U s) λ q s=>ce5 k q s
 | .mkD k it d,U,s=>KR.bind (aO3 it U s) λ q s=>KR.bind (zo d U s) λ d s=>bw6 k q d s
 | .meth m o es,U,s=>KR.bind (zo o U s) λ x s=>KR.bind (ai5 es U s) λ l s=>bC9 m x l s
 | .ext o it,U,s=>KR.bind (zo o U s) λ x s=>KR.bind (aO3 it U s) λ q s=>bx0 x q s
 | .mkDs k e d,U,s=>KR.bind (zo e U s) λ x s=>KR.bind (zo d U s) λ z s=>KR.bind (aU1 x s) λ q s=>bw6 k q z s
 | .minK _ e j,U,s=>KR.bind (zo e U s) λ x s=>KR.bind (aU1 x s) λ q s=>by
  intro a s' h
  unfold aG4 at h
  split at h
  .split at h<;>cases h;exact KP.refl _
  .cases h
theorem ai5:∀(es:Es) (U:Env) (s:Sto),KR s (evs F es U s)
 | .nil,U,s=>KR.ok
 | .cons e es,U,s=>KR.bind (zo e U s) λ d s=>KR.bind (ai5 es U s) λ l s=>KR.ok
theorem ah4:∀(as:As) (U:Env) (s:Sto),KR s (ai7 F as U s)
 | .nil,U,s=>KR.ok
 | .ex e as,U,s=>KR.bind (zo e U s) λ d s=>KR.bind (ah4 as U s) λ l s=>KR.ok
 | .lam id caps as,U,s=>by
  intro a s' h
  change(match ae7 U caps with|some cs=>(ai7 F as U s).bind λ l s=>R.ok (D.clo id cs::l) s|none=>.bad)=_ at h
  split at h
  .exact KR.bind (ah4 as U s) (λ l s=>KR.ok) _ _ h
  .cases h
 | .fn f as,U,s=>KR.bind (ah4 as U s) λ l s=>KR.ok
theorem az9:∀(it:I) (U:Env) (s:Sto),KR s (evI F it U s)
 | .seq e,U,s=>KR.bind (zo e U s) λ d s=>bD0 d s
 | .rng1 a,U,s=>KR.bind (zo a U s) λ x s=>by
  cases x with
  | int i=>exact KR.if KR.ok KR.bad
  | _=>exact KR.bad
 | .enum (.seq e),U,s=>KR.bind (zo e U s) λ d s=>KR.bind (bm9 d s) λ q s=>KR.ok
 | .enum (.rng1 _),U,s=>KR.bad
 | .enum (.enum _),U,s=>KR.bad
 | .enum (.keys _),U,s=>KR.bad
 | .keys e,U,s=>KR.bind (zo e U s) λ d s=>bq9 d s
theorem aO3:∀(it:L) (U:Env) (s:Sto),KR s (evL F it U s)
 | .comp tg it e caps,U,s=>KR.bind (az9 it U s) λ q s0=>KR.if (ar8 (λ d U s=>by
   intro a s' h
   split at h
   .exact KR.bind (zo e _ s) (λ v s=>KR.ok) _ _ h
   .cases h) _ _ _) KR.bad
 | .compIf tg it c e caps,U,s=>KR.bind (az9 it U s) λ q s0=>KR.if (ar8 (λ d U s=>by
   intro a s' h
   split at h
   .exact KR.tru (zo c _ s) (λ k s=>KR.if (KR.bind (zo e _ s) λ v s=>KR.ok) KR.ok) _ _ h
   .cases h) _ _ _) KR.bad
 | .disp es,U,s=>ai5 es U s
 | .seq e,U,s=>KR.bind (zo e U s) λ d s=>bD4 d s
end
theorem aw7 (hg:∀ d U s,KR s (g d U s)):∀ l U s ,KR s (aC7 ok g l U s)
 | [],U,s=>KR.if KR.ok KR.bad
 | d::l,U,s=>KR.if (KR.bind (hg d U s) λ c s=>by
   cases c with
   | next U=>exact aw7 hg l U s
   | cont U=>exact aw7 hg l U s
   | brk U=>exact KR.ok
   | ret d=>exact KR.ok) KR.bad
theorem aE0 (hc:∀ U s,KR s (c U s))(hg:∀ U s,KR s (g U s)):∀ n U s ,KR s (jk c g n U s)
 | 0,U,s=>KR.bad
 | n+1,U,s=>KR.tru (hc U s) λ b s=>KR.if (KR.bind (hg U s) λ h s=>by
   cases h with
   | next U=>exact aE0 hc hg n U s
   | cont U=>exact aE0 hc hg n U s
   | brk U=>exact KR.ok
   | ret d=>exact KR.ok) KR.ok
mutual
theorem bP1:∀(st:S) (U:Env) (s:Sto),KR s (ex F st U s)
 | .asg tg e,U,s=>KR.bind (zo hF e U s) λ d s=>by
  intro a s' h
  split at h<;>cases h;exact KP.refl _
 | .setIx o i e,U,s=>KR.bind (zo hF e U s) λ d s=>KR.bind (zo hF o U s) λ x s=>KR.bind (zo hF i U s) λ y s=>KR.bind (bo4 x y d s) λ _ s=>KR.ok
 | .ex e,U,s=>KR.bind (zo hF e U s) λ d s=>KR.ok
 | .ret e,U,s=>KR.bind (zo hF e U s) λ d s=>KR.ok
 | .ite c a b,U,s=>KR.tru (zo hF c U s) λ k s=>KR.if (ad8 a U s) (ad8 b U s)
 | .forK tg e b,U,s=>KR.bind (az9 hF (.keys e) U s) λ q s0=>KR.if (KR.bind (aw7 hF (λ d U s=>by
   intro a s' h
   split at h
   .exact ad8 b _ _ _ _ h
   .cases h) _ _ _) λ c s=>bq1 _ c s) KR.bad
 | .whl c b,U,s=>by
  intro r s' h
  change whl (ev F c) (exs F b) U s=_ at h
  unfold whl at h
  split at h
  .exact aE0 hF (λ U s=>zo hF c U s) (λ U s=>ad8 b U s) _ U s _ _ h
  .cases h
 | .for_ tg it b,U,s=>KR.bind (az9 hF it U s) λ q s0=>aw7 hF (λ d U s=>by
   intro a s' h
   split at h
   .exact ad8 b _ _ _ _ h
   .cases h) _ _ _
 | .cont,U,s=>KR.ok
 | .und i,U,s=>by
  intro a s' h
  change(match ae9 U i with|some U=>R.ok (Ct.next U) s|none=>.bad)=_ at h
  split at h<;>cases h;exact KP.refl _
theorem ad8:∀(h:Ss) (U:Env) (s:Sto),KR s (exs F h U s)
 | .nil,U,s=>KR.ok
 | .cons st h,U,s=>KR.bind (bP1 st U s) λ c s=>by
  cases c with
  | next U=>exact ad8 h U s
  | _=>exact KR.ok
end
end
theorem zG (h:KP s st):KR s (zr s d st):=by
 have tk:∀ t,KP s (st.take s.length++t):=λ t i o e=>by
  obtain⟨Cc,e',k⟩:=h i o e
  have z:=(ac.mp e).1
  have G:=(ac.mp e').1
  refine⟨Cc,?_,k⟩
  rw[aQ (by rw[bG];lia),jS,if_pos z];exact e'
 have y:=by have:=tk [];rwa [bp]at this
 intro a s' e
 unfold zr at e
 repeat' split at e
 all_goals first|(cases e;exact y;done)|(cases e;exact tk _;done)|(cases e;exact h;done)|(cases e;done)
theorem qO P :∀ n,FK (aa1 P n)
 | 0=>⟨λ _ _ _=>KR.bad,λ _ _ _ _=>KR.bad⟩
 | n+1=>by
  refine⟨λ f l s=>?_,λ id cs l s=>?_⟩
  .intro a s' h
   unfold aa1 at h
   simp only at h
   split at h
   case h_2=>cases h
   split at h
   case isFalse=>cases h
   obtain⟨c,s1,e1,h⟩:=R.bind_inv h
   have k1:=ad8 (qO P n) _ _ _ _ _ e1
   cases c with
   | ret v=>exact zG k1 _ _ h
   | next U=>exact zG k1 _ _ h
   | _=>cases h
  .intro a s' h
   unfold aa1 at h
   simp only at h
   split at h
   case h_2=>cases h
   split at h
   case isFalse=>cases h
   obtain⟨v,s1,e1,h⟩:=R.bind_inv h
   exact zG (zo (qO P n) _ _ _ _ _ e1) _ _ h
end DV
end
open DV renaming Sto->lX,D->lY,Env->l7,ev->l8,R->mf,LIM->mq,aa1->mr,eqv->mw,tru->my,Fns->mz,DEEP->mB,Pr->mD,look->mF,ae6->mG,eqL->mH,rep->mJ,kd->mK,Es->mM,O->mO,ad2->mP,evs->mQ,aC6->mR,ad6->mU,ae7->mV,ixn->mW,jd->mY,qi->m7,Sq->m8,chk->m9,Tg->ng,Ct->nh,minI->ni,Bi->nj,aS7->nk,sbd->nq,E->nr,loB->nu,ad1->nv,inL->ny,As->nB,aE8->nD,aJ8->nE,ad9->nF,ai7->nG,bn5->nH,Df->nI,bv2->nJ,M->nK,qe->nM,Ss->nN,Lm->nO,COp->nQ,hiB->nR,slM->nT,ap1->nU,bd9->nV,an6->nW,aC7->nX,ar1->nY,ins->nZ,bi->n4,qY->n5,Mk->n6,Mt->n8,mk->n9,aQ0->og,inM->oh,bi1->ol,mkD->om,aJ7->on,evI->oq,aN5->ot,ai8->ou,meth->ow,zo->ox,BOp->oy,pur->oz,isK->oA,Ww62->oD,at4->oE,at2->oF,au0->oG,S->oH,bl5->oI,as3->oJ,exs->oK,ae9->oM,as5->oN
open DV.D renaming bndL->lZ,bnd->l9,hdI->mZ,nclL->nA,ncl->oB
open DV.O renaming bnd->mn,ncl->oC
noncomputable section
namespace L2
theorem fb {p:Prop}(h:(DV.R.bad:mf α)=.ok d s):p:=nomatch h
open PySem PySem.Spec PyProof.Rows
structure LamI where
 qual:Str
 params:bh
 body:Expr
 scope:Scope
 ps:List Str
 fr:List Str
 nm:Option (Str×Pos)
def CloAt (H:Hp)(f:Addr)(J:LamI)(cap:List V)(clos:yB):Prop:=match J.nm with
 | none=>aA8 H f J.qual J.params J.body J.scope J.fr cap clos
 | some p=>an8 H f p.1 J.qual J.params [.Return (some J.body) p.2] J.scope J.fr cap clos
def ag3 (H:Hp)(f:Addr)(J:LamI)(clos:yB):Prop:=match J.nm with
 | none=>∃ pm c' ctv,H f=some (ao9 f (bv "<lambda>" J.qual J.params J.body J.scope clos pm (.ref c') ctv))/\H c'=some (zX c' J.qual)
 | some p=>∃ doc pm c' ctv,H f=some (ao9 f (cT p.1 J.qual J.params [.Return (some J.body) p.2] J.scope clos .none .none doc pm none (.ref c') ctv))/\H c'=some (zX c' J.qual)
structure Gm where
 K:ah
 fa:String->Option Addr
 lg:String->LamI->Prop
 T:List (Addr×Str)
 cls:String->Option Addr
variable (Γ:Gm)
mutual
noncomputable def RV (C:Nat->Addr)(H:Hp):lY->V->Prop
 | .non,v=>v=.non
 | .bl b,v=>v=.bl b
 | .int i,v=>v=.int i
 | .str x,v=>v=.str ⟨x.toArray⟩/\x.length<=mq
 | .tup l,v=>∃ a xs,v=.ref a/\(SqT Γ.K H a xs/\(mZ l=true->H a=some (.tup xs)))/\RVL C H l xs
 | .ref n,v=>v=.ref (C n)
 | .fn f,v=>∃ a,Γ.fa f=some a/\v=.ref a
 | .clo id cs,v=>∃ f cap J clos,v=.ref f/\Γ.lg id J/\CloAt H f J cap clos/\cap.length=J.fr.length/\RVL C H cs cap
noncomputable def RVL (C:Nat->Addr)(H:Hp):List lY->List V->Prop
 | [],xs=>xs=[]
 | d::l,xs=>∃ x r,xs=x::r/\RV C H d x/\RVL C H l r
end
noncomputable def bV5:HO->Bool
 | .tup _=>true
 | .frz _ (.dK _)=>false
 | .frz _ _=>true
 | .ext _=>true
 | _=>false
def Kp (H H':Hp):Prop:=∀ b o,H b=some o->bV5 o=true->H' b=some o
theorem Kp.refl H :Kp H H:=λ _ _ h _=>h
theorem Kp.trans (a:Kp H y)(b:Kp y H2):Kp H H2:=λ c o h f=>b c o (a c o h f) f
theorem Kp.new (a:Kp H y)(h:y p=none):Kp H (upd y p o):=λ c u e f=>by
 have e1:=a c u e f
 rw[za (zu e1 h)];exact e1
theorem Kp.put (a:Kp H y)(h:y p=some u)(hu:bV5 u=false):Kp H (upd y p o):=λ c v e f=>by
 have e1:=a c v e f
 rw[za (λ z=>by subst z;rw[h]at e1;cases e1;rw[hu]at f;cases f)];exact e1
theorem Kp.sqT {K}(e:Kp H H')(h:SqT K H a y):SqT K H' a y:=by
 rcases h with(h|⟨o,h⟩)|h
 .exact .inl (.inl (e _ _ h rfl))
 .exact .inl (.inr ⟨o,e _ _ h rfl⟩)
 .exact .inr h
theorem aA8.kp (h:aA8 H f qual params body scope fr cap y)(e:Kp H H'):aA8 H' f qual params body scope fr cap y:=by
 obtain⟨pm,c',Cc,h1,Y,J,h4,Z,G⟩:=h
 refine⟨pm,c',Cc,e _ _ h1 rfl,e _ _ Y rfl,λ x c q=>?_,h4,Z,λ i x v a b=>?_⟩
 .obtain⟨o,v,z,d⟩:=J x c q
  exact⟨o,v,e _ _ z rfl,d⟩
 .obtain⟨c,o,u,z1,z2,z3⟩:=G i x v a b
  exact⟨c,o,u,z1,e _ _ z2 rfl,z3⟩
theorem an8.kp (h:an8 H f name qual params body scope fr cap y)(e:Kp H H'):an8 H' f name qual params body scope fr cap y:=by
 obtain⟨G,pm,c',Cc,h1,Z,Y,h4,h5,J⟩:=h
 refine⟨G,pm,c',Cc,e _ _ h1 rfl,e _ _ Z rfl,λ x c q=>?_,h4,h5,λ i x v a b=>?_⟩
 .obtain⟨o,v,z,d⟩:=Y x c q
  exact⟨o,v,e _ _ z rfl,d⟩
 .obtain⟨c,o,u,z1,z2,z3⟩:=J i x v a b
  exact⟨c,o,u,z1,e _ _ z2 rfl,z3⟩
theorem CloAt.kp (h:CloAt H f J cap y)(e:Kp H H'):CloAt H' f J cap y:=by
 unfold CloAt at h ⊢
 cases q:J.nm with
 | none=>rw[q]at h;exact aA8.kp h e
 | some p=>rw[q]at h;exact an8.kp h e
theorem ag3.kp (h:ag3 H f J y)(e:Kp H H'):ag3 H' f J y:=by
 unfold ag3 at h ⊢
 cases q:J.nm with
 | none =>
  rw[q]at h
  obtain⟨Z,G,z,Y,Cc⟩:=h
  exact⟨Z,G,z,e _ _ Y rfl,e _ _ Cc rfl⟩
 | some p =>
  rw[q]at h
  obtain⟨a0,Z,G,z,Y,Cc⟩:=h
  exact⟨a0,Z,G,z,e _ _ Y rfl,e _ _ Cc rfl⟩
theorem CloAt.fn {K}(h:CloAt H f J cap y):bM1 K H f:=by
 unfold CloAt at h
 cases q:J.nm with
 | none=>rw[q]at h;obtain⟨Y,G,Cc,z,_⟩:=h;exact .inl ⟨_,z⟩
 | some p=>rw[q]at h;exact an8.fn h
structure Gw (C:Nat->Addr)(n:Nat)(H:Hp)(C':Nat->Addr)(H':Hp):Prop where
 map:∀ i,i<n->C' i=C i
 kp:Kp H H'
variable {Γ:Gm}
mutual
theorem RV.monoW {C C':Nat->Addr}{n:Nat}{H H':Hp}(g:Gw C n H C' H'):∀(d:lY) (v:V),d.bnd n=true->RV Γ C H d v->RV Γ C' H' d v
 | .non,_,_,h=>by unfold RV at h ⊢;exact h
 | .bl _,_,_,h=>by unfold RV at h ⊢;exact h
 | .int _,_,_,h=>by unfold RV at h ⊢;exact h
 | .str _,_,_,h=>by unfold RV at h ⊢;exact h
 | .tup l,_,b,h=>by
  unfold RV at h ⊢
  unfold l9 at b
  obtain⟨a,Cc,e,q,r⟩:=h
  exact⟨a,Cc,e,⟨g.kp.sqT q.1,λ z=>g.kp _ _ (q.2 z) rfl⟩,RVL.monoW g l Cc b r⟩
 | .ref k,_,b,h=>by
  unfold RV at h ⊢
  unfold l9 at b
  rw[g.map k (of_decide_eq_true b)];exact h
 | .fn _,_,_,h=>by unfold RV at h ⊢;exact h
 | .clo id cs,_,b,h=>by
  unfold RV at h ⊢
  unfold l9 at b
  obtain⟨f,cap,J,y,e,Z,Y,G,h4⟩:=h
  exact⟨f,cap,J,y,e,Z,Y.kp g.kp,G,RVL.monoW g cs cap b h4⟩
theorem RVL.monoW {C C':Nat->Addr}{n:Nat}{H H':Hp}(g:Gw C n H C' H'):∀(l:List lY) (y:List V),lZ n l=true->RVL Γ C H l y->RVL Γ C' H' l y
 | [],_,_,h=>by unfold RVL at h ⊢;exact h
 | d::l,_,b,h=>by
  unfold RVL at h ⊢
  unfold lZ at b
  rw[ak]at b
  obtain⟨x,r,e,q,t⟩:=h
  exact⟨x,r,e,RV.monoW g d x b.1 q,RVL.monoW g l r b.2 t⟩
end
mutual
theorem zl {n m:Nat}(h:n<=m):∀ d:lY,d.bnd n=true->d.bnd m=true
 | .non,_=>rfl
 | .bl _,_=>rfl
 | .int _,_=>rfl
 | .str _,_=>rfl
 | .tup l,b=>by unfold l9 at b ⊢;exact aa4 h l b
 | .ref k,b=>by unfold l9 at b ⊢;exact decide_eq_true (ao (of_decide_eq_true b) h)
 | .fn _,_=>rfl
 | .clo _ l,b=>by unfold l9 at b ⊢;exact aa4 h l b
theorem aa4 {n m:Nat}(h:n<=m):∀ l:List lY,lZ n l=true->lZ m l=true
 | [],_=>rfl
 | d::l,b=>by
  unfold lZ at b ⊢
  rw[ak]at b ⊢
  exact⟨zl h d b.1,aa4 h l b.2⟩
end
theorem aa5 :∀ {l},lZ n l=true↔∀ d∈l,d.bnd n=true
 | []=>by unfold lZ;simp
 | d::l=>by
  unfold lZ
  rw[ak,aa5 ]
  simp
theorem zI (h:lZ n l=true)(h':lZ n m=true):lZ n (l++m)=true :=
 aa5.mpr λ d hd=>(a8.mp hd).elim (aa5.mp h d) (aa5.mp h' d)
theorem aK6 (h:lZ n l=true)(s:∀ d∈m,d∈l):lZ n m=true:=aa5.mpr λ d hd=>aa5.mp h d (s d hd)
theorem af7 {i:Nat}(h:lZ n l=true)(e:l[i]?=some d):d.bnd n=true:=aa5.mp h d (aN e)
section
variable {C:Nat->Addr} {H:Hp}
theorem RVL.nil:RVL Γ C H [] []:=by unfold RVL;rfl
theorem RVL.cons (a:RV Γ C H d x)(b:RVL Γ C H l h):RVL Γ C H (d::l) (x::h):=by unfold RVL;exact⟨x,h,rfl,a,b⟩
theorem RVL.unnil (h:RVL Γ C H [] y):y=[]:=by unfold RVL at h;exact h
theorem RVL.uncons (h:RVL Γ C H (d::l) y):∃ x r,y=x::r/\RV Γ C H d x/\RVL Γ C H l r:=by unfold RVL at h;exact h
theorem RVL.length:∀ {l} {y},RVL Γ C H l y->y.length=l.length
 | [],_,h=>by rw[h.unnil];rfl
 | d::l,_,h=>by
  obtain⟨x,r,rfl,_,t⟩:=h.uncons
  rw[aL,aL,RVL.length t]
theorem RVL.get:∀ {l} {z} {i:Nat} {d},RVL Γ C H l z->l[i]?=some d->∃ x,z[i]?=some x/\RV Γ C H d x
 | [],_,_,_,_,e=>by simp at e
 | d::l,_,0,d',h,e=>by
  obtain⟨x,r,rfl,q,t⟩:=h.uncons
  have e':=by simpa using e
  subst e'
  exact⟨x,rfl,q⟩
 | d::l,_,i+1,_,h,e=>by
  obtain⟨x,r,rfl,q,t⟩:=h.uncons
  obtain⟨y,e1,e2⟩:=RVL.get t (by simpa using e)
  exact⟨y,by simpa using e1,e2⟩
theorem RVL.get' {i:Nat}(h:RVL Γ C H l z)(e:z[i]?=some x):∃ d,l[i]?=some d/\RV Γ C H d x:=by
 have hl:=h.length
 have Cc:i<l.length:=by rw[<-hl];exact(ac.mp e).1
 obtain⟨y,e1,e2⟩:=h.get (ag Cc)
 rw[e]at e1;cases e1
 exact⟨_,ag Cc,e2⟩
theorem RVL.append:∀ {l m} {y ys},RVL Γ C H l y->RVL Γ C H m ys->RVL Γ C H (l++m) (y++ys)
 | [],_,_,_,h,h'=>by rw[h.unnil];exact h'
 | d::l,_,_,_,h,h'=>by
  obtain⟨x,r,rfl,q,t⟩:=h.uncons
  exact .cons q (RVL.append t h')
theorem RVL.drop:∀ {l} {y} n ,RVL Γ C H l y->RVL Γ C H (l.drop n) (y.drop n)
 | _,_,0,h=>h
 | [],_,n+1,h=>by rw[h.unnil];exact .nil
 | d::l,_,n+1,h=>by
  obtain⟨x,r,rfl,q,t⟩:=h.uncons
  exact RVL.drop n t
theorem RVL.take:∀ {l} {y} n ,RVL Γ C H l y->RVL Γ C H (l.take n) (y.take n)
 | _,_,0,h=>.nil
 | [],_,n+1,h=>by rw[h.unnil];exact .nil
 | d::l,_,n+1,h=>by
  obtain⟨x,r,rfl,q,t⟩:=h.uncons
  exact .cons q (RVL.take n t)
theorem RVL.set:∀ {l} {y} {d} {x} i ,RVL Γ C H l y->RV Γ C H d x->RVL Γ C H (l.set i d) (y.set i x)
 | [],_,_,_,_,h,_=>by rw[h.unnil];exact .nil
 | d::l,_,_,_,0,h,q=>by
  obtain⟨x,r,rfl,_,t⟩:=h.uncons
  exact .cons q t
 | d::l,_,_,_,i+1,h,q=>by
  obtain⟨x,r,rfl,z,t⟩:=h.uncons
  exact .cons z (RVL.set i t q)
theorem RV.intE (h:RV Γ C H (.int i) v):v=.int i:=by unfold RV at h;exact h
theorem RV.blE (h:RV Γ C H (.bl i) v):v=.bl i:=by unfold RV at h;exact h
theorem RV.nonE (h:RV Γ C H .non v):v=.non:=by unfold RV at h;exact h
theorem RV.strE (h:RV Γ C H (.str x) v):v=.str ⟨x.toArray⟩:=by unfold RV at h;exact h.1
theorem RV.strL (h:RV Γ C H (.str x) v):x.length<=mq:=by unfold RV at h;exact h.2
theorem RV.tupE (h:RV Γ C H (.tup l) v):∃ a y,v=.ref a/\SqT Γ.K H a y/\RVL Γ C H l y:=by unfold RV at h;obtain⟨a,y,e,q,r⟩:=h;exact⟨a,y,e,q.1,r⟩
theorem RV.tupZ (h:RV Γ C H (.tup l) v):∃ a y,(v=.ref a/\(mZ l=true->H a=some (.tup y)))/\SqT Γ.K H a y/\RVL Γ C H l y:=by unfold RV at h;obtain⟨a,y,e,q,r⟩:=h;exact⟨a,y,⟨e,q.2⟩,q.1,r⟩
theorem RVL.tonil (h:RVL Γ C H l []):l=[]:=cI.mp h.length.symm
theorem RV.refE (h:RV Γ C H (.ref n) v):v=.ref (C n):=by unfold RV at h;exact h
theorem RV.intI :RV Γ C H (.int i) (.int i):=by unfold RV;rfl
theorem RV.blI :RV Γ C H (.bl i) (.bl i):=by unfold RV;rfl
theorem RV.nonI:RV Γ C H .non .non:=by unfold RV;rfl
theorem RV.strI (h:x.length<=mq):RV Γ C H (.str x) (.str ⟨x.toArray⟩):=by unfold RV;exact⟨rfl,h⟩
theorem RV.tupI (h:H a=some (.tup y))(q:RVL Γ C H l y):RV Γ C H (.tup l) (.ref a):=by unfold RV;exact⟨a,y,rfl,⟨SqT.of h,λ _=>h⟩,q⟩
theorem RV.tupC (h:SqT Γ.K H a y)(z:mZ l=true->H a=some (.tup y))(q:RVL Γ C H l y):RV Γ C H (.tup l) (.ref a):=by unfold RV;exact⟨a,y,rfl,⟨h,z⟩,q⟩
theorem RV.refI :RV Γ C H (.ref n) (.ref (C n)):=by unfold RV;rfl
end
theorem bJ9 (h:mZ (nk n l)=true):mZ l=true:=by
 cases n with
 | zero=>cases h
 | succ n =>
  cases l with
  | nil => 
   have:∀ k,nk k ([])=[]:=λ k=>by
    induction k with
    | zero=>rfl
    | succ k ih=>show[]++nk k []=[];rw[ih];rfl
   rw[this]at h;cases h
  | cons a l =>
   have e:nk (n+1) (a::l)=a::(l++nk n (a::l)):=rfl
   rw[e]at h
   cases a with
   | int _=>rfl
   | non=>rfl
   | tup _=>rfl
   | _=>cases h
theorem be4 (h:(mR l y Cc).length=l.length):mR l y Cc=l:=by
 unfold mR at h ⊢
 rw[bG,fj]at h
 by_cases z:l=[]
 .subst z;simp
 .have hp:=fW.mpr z
  have e1:nu l.length y=0:=by lia
  rw[e1]at h ⊢
  rw[eZ]
  exact io (by lia)
def SqF (K:ah)(H:Hp)(a:Addr)(xs:List V):Prop:=SqL K H a xs/\∀ H',Kp H H'->SqL K H' a xs
noncomputable def jf:lY->Option Key
 | .int i=>some (.inl i)
 | .str x=>some (.inr ⟨x.toArray⟩)
 | _=>none
noncomputable def RVD {κ:Type}(kf:lY->Option κ)(Γ:Gm)(C:Nat->Addr)(H:Hp):List (lY×lY)->List (κ×V)->Prop
 | [],kvs=>kvs=[]
 | (d,e)::l,kvs=>∃ k v r,kvs=(k,v)::r/\kf d=some k/\RV Γ C H e v/\RVD kf Γ C H l r
noncomputable def ch6:lY->Option Str
 | .str x=>some ⟨x.toArray⟩
 | _=>none
variable (Γ)
noncomputable def RO (C:Nat->Addr)(H:Hp)(a:Addr):mO->Prop
 | .lst l=>∃ xs,H a=some (.lst xs)/\RVL Γ C H l xs
 | .ro l=>∃ xs,SqF Γ.K H a xs/\RVL Γ C H l xs
 | .dic l=>∃ kvs,H a=some (.dK kvs)/\RVD jf Γ C H l kvs
 | .dicF l=>∃ o kvs,H a=some (.frz o (.dK kvs))/\RVD jf Γ C H l kvs
 | .ins c l=>∃ Cc dx gs,(Γ.cls c=some Cc/\Cls Γ.K Cc)/\(∀ p∈gs,ca2 Γ.K Cc p.1)/\H a=some (.ins Cc dx gs)/\RVD ch6 Γ C H l gs
noncomputable abbrev okd:mO->Nat:=DV.O.kd
noncomputable def isMut:mO->Bool
 | .ro _=>false
 | _=>true
structure Rp (C:Nat->Addr)(H:Hp)(s:lX):Prop where
 inj:∀(i j:Nat) (o o':mO),s[i]?=some o->s[j]?=some o'->isMut o=true->isMut o'=true->C i=C j->i=j
 obj:∀(i:Nat) (o:mO),s[i]?=some o->RO Γ C H (C i) o
 wf:∀(i:Nat) (o:mO),s[i]?=some o->o.bnd s.length=true
 tab:TabsH Γ.T H
structure RE (C:Nat->Addr)(H:Hp)(n:Nat)(U:l7)(W:St):Prop where
 len:U.length=W.length
 val:∀(i:Nat) (d:lY),U[i]?=some (some d)->d.bnd n=true/\∃ v,W[i]?=some (some v)/\RV Γ C H d v
structure Gr (C:Nat->Addr)(s:lX)(H:Hp)(C':Nat->Addr)(s':lX)(H':Hp):Prop where
 w:Gw C s.length H C' H'
 le:s.length<=s'.length
 new:∀ i:Nat,s.length<=i->i<s'.length->H (C' i)=none
 kd:∀(i:Nat) (o o':mO),s[i]?=some o->s'[i]?=some o'->okd o'=okd o
 st:∀ b,H b≠none->H' b≠none
 fz:∀ b o kvs,H b=some (.frz o (.dK kvs))->H' b=some (.frz o (.dK kvs))
 fr:∀ b o,H b=some o->(∀ ps,o≠.tbl ps)->(∀(i:Nat) (ob:mO),s[i]?=some ob->isMut ob=true->C i≠b)->H' b=some o
variable {Γ}
theorem bB6 (h:okd y=okd o)(m:isMut y=true):isMut o=true:=by
 cases o with
 | ro _=>cases y with
  | ro _=>cases m
  | _=>cases h
 | _=>rfl
theorem Gr.mu (g:Gr C s H C' s' H')(i:Nat) o h (e:s[i]?=some o)(e':s'[i]?=some h)(m:isMut h=true):isMut o=true:=bB6 (g.kd i o h e e') m
theorem Gr.refl C s H :Gr C s H C s H:=⟨⟨λ _ _=>rfl,Kp.refl H⟩,aj _,λ i Cc y=>absurd y (by lia),λ i o z e e'=>by rw[e]at e';cases e';rfl,λ _ h=>h,λ _ _ _ h=>h,λ _ _ h _ _=>h⟩
theorem Gr.trans (a:Gr C s H C1 s1 Y)(b:Gr C1 s1 Y C2 s2 H2)(_h:s.length<=s1.length):Gr C s H C2 s2 H2:=by
 refine⟨⟨λ i y=>(b.w.map i (ao y a.le)).trans (a.w.map i y),a.w.kp.trans b.w.kp⟩,am a.le b.le,λ i h1 h2=>?_,λ i o o' e e'=>?_,λ c h=>b.st c (a.st c h),λ c o kvs h=>b.fz c o kvs (a.fz c o kvs h),λ c o h J ne=>?_⟩
 .by_cases y:i<s1.length
  .rw[b.w.map i y];exact a.new i h1 y
  .have e:=b.new i (by lia) h2
   cases q:H (C2 i)with
   | none=>rfl
   | some o=>exact absurd e (a.st _ (by rw[q];simp))
 .have hl:i<s1.length:=ao (ac.mp e).1 a.le
  obtain⟨Cc,e1⟩:∃ Cc,s1[i]?=some Cc:=⟨s1[i],ag hl⟩
  exact(b.kd i Cc o' e1 e').trans (a.kd i o Cc e e1)
 .refine b.fr c o (a.fr c o h J ne) J λ i ob e m z=>?_
  by_cases y:i<s.length
  .obtain⟨G,Z⟩:∃ G,s[i]?=some G:=⟨s[i],ag y⟩
   exact ne i G Z (a.mu i G ob Z e m) (by rw[<-a.w.map i y];exact z)
  .have:=a.new i (by lia) (ac.mp e).1
   rw[z,h]at this;cases this
theorem RV.mono (g:Gr C s H C' s' H') d v (b:d.bnd s.length=true)(h:RV Γ C H d v):RV Γ C' H' d v:=RV.monoW g.w d v b h
theorem RVL.mono (g:Gr C s H C' s' H') d v (b:lZ s.length d=true)(h:RVL Γ C H d v):RVL Γ C' H' d v:=RVL.monoW g.w d v b h
theorem RE.mono (h:RE Γ C H s.length U W)(g:Gr C s H C' s' H')(hn:s.length<=s'.length):RE Γ C' H' s'.length U W :=
 ⟨h.len,λ i d e=>by
  obtain⟨b,v,e1,e2⟩:=h.val i d e
  exact⟨zl hn d b,v,e1,RV.mono g d v b e2⟩⟩
def ae0 (Γ:Gm)(C:Nat->Addr)(s:lX)(H:Hp)(d:lY)(s':lX)(Q:VK):Prop :=
 ∀ v C' H',Gr C s H C' s' H'->s.length<=s'.length->d.bnd s'.length=true->RV Γ C' H' d v->Rp Γ C' H' s'->Q v H'
theorem ae0.trans (h:ae0 Γ C s H d s' Q)(g:Gr C s H C1 s1 y)(l:s.length<=s1.length):ae0 Γ C1 s1 y d s' Q :=
 λ v C' H' g' z b r p=>h v C' H' (g.trans g' l) (am l z) b r p
theorem ae0.here (h:ae0 Γ C s H d s Q)(p:Rp Γ C H s)(b:d.bnd s.length=true)(r:RV Γ C H d v):Q v H :=
 h v C H (Gr.refl C s H) (aj _) b r p
theorem RVD.monoW (g:Gw C n H C' H'):∀ l (kvs:List (κ×V)),lZ n (l.map (·.2))=true->RVD y Γ C H l kvs->RVD y Γ C' H' l kvs
 | [],_,_,h=>h
 | (d,e)::l,_,b,h=>by
  obtain⟨k,v,r,e1,e2,Cc,z⟩:=h
  rw[aS]at b
  unfold lZ at b
  rw[ak]at b
  exact⟨k,v,r,e1,e2,RV.monoW g e v b.1 Cc,RVD.monoW g l r b.2 z⟩
theorem RO.mono (h:RO Γ C H a o)(g:Gw C n H C' H')(b:o.bnd n=true)(hl:isMut o=true->∀ u,H a=some u->H' a=some u):RO Γ C' H' a o:=by
 cases o with
 | lst l =>
  unfold mn at b
  obtain⟨y,e,r⟩:=h
  exact⟨y,hl rfl _ e,RVL.monoW g l y b r⟩
 | ro l =>
  unfold mn at b
  obtain⟨y,e,r⟩:=h
  exact⟨y,⟨e.2 _ g.kp,λ H2 k=>e.2 _ (g.kp.trans k)⟩,RVL.monoW g l y b r⟩
 | dic l =>
  unfold mn at b
  rw[ak]at b
  obtain⟨kvs,e,r⟩:=h
  exact⟨kvs,hl rfl _ e,RVD.monoW g l kvs b.2 r⟩
 | dicF l =>
  unfold mn at b
  rw[ak]at b
  obtain⟨ob,kvs,e,r⟩:=h
  exact⟨ob,kvs,hl rfl _ e,RVD.monoW g l kvs b.2 r⟩
 | ins c l =>
  unfold mn at b
  rw[ak]at b
  obtain⟨Cc,G,gs,J,z,e,r⟩:=h
  exact⟨Cc,G,gs,J,z,hl rfl _ e,RVD.monoW g l gs b.2 r⟩
theorem RO.there (h:RO Γ C H a o)(m:isMut o=true):∃ u,H a=some u/\bV5 u=false/\(∀ ps,u≠.tbl ps)/\((∀ l,o≠.dicF l)->∀ ob kvs,u≠.frz ob (.dK kvs)):=by
 cases o with
 | lst l=>obtain⟨y,e,_⟩:=h;exact⟨_,e,rfl,by nofun,λ _ _ _ z=>(by cases z)⟩
 | ro l=>cases m
 | dic l=>obtain⟨y,e,_⟩:=h;exact⟨_,e,rfl,by nofun,λ _ _ _ z=>(by cases z)⟩
 | dicF l=>obtain⟨ob,y,e,_⟩:=h;exact⟨_,e,rfl,by nofun,λ z=>absurd rfl (z l)⟩
 | ins c l=>obtain⟨_,_,_,_,_,e,_⟩:=h;exact⟨_,e,rfl,by nofun,λ _ _ _ z=>(by cases z)⟩
theorem Rp.addr (p:Rp Γ C H s)(e:s[i]?=some (.lst l)):∃ h,H (C i)=some (.lst h)/\RVL Γ C H l h:=p.obj i _ e
theorem qd (h:n<=m)(o:mO)(b:o.bnd n=true):o.bnd m=true:=by
 cases o with
 | lst l=>unfold mn at b ⊢;exact aa4 h l b
 | ro l=>unfold mn at b ⊢;exact aa4 h l b
 | dic l =>
  unfold mn at b ⊢
  rw[ak]at b ⊢
  exact⟨aa4 h _ b.1,aa4 h _ b.2⟩
 | dicF l =>
  unfold mn at b ⊢
  rw[ak]at b ⊢
  exact⟨aa4 h _ b.1,aa4 h _ b.2⟩
 | ins c l =>
  unfold mn at b ⊢
  rw[ak]at b ⊢
  exact⟨aa4 h _ b.1,aa4 h _ b.2⟩
theorem TabsH.keepF (h:TabsH T H)(k:∀ b o,(bV5 o=true\/∃ ps,o=.tbl ps)->H b=some o->H' b=some o):TabsH T H':=λ y hy=>by
 obtain⟨ps,e,t,c⟩:=h y hy
 refine⟨ps,k _ _ (.inr ⟨_,rfl⟩) e,t,λ pos Cc q=>?_⟩
 obtain⟨z,e1,e2⟩:=c pos Cc q
 exact⟨z,e1,k _ _ (.inl rfl) e2⟩
theorem Rp.new (r:Rp Γ C H s)(hp:H p=none)(hb:o.bnd s.length=true)
  (ho:∀ C' H',Gw C s.length H C' H'->H' p=some u->RO Γ C' H' p o):Gr C s H (λ i=>if i=s.length then p else C i) (s++[o]) (upd H p u)/\Rp Γ (λ i=>if i=s.length then p else C i) (upd H p u) (s++[o]):=by
 have g:Gw C s.length H (λ i=>if i=s.length then p else C i) (upd H p u):=⟨λ i y=>if_neg (aw y),(Kp.refl H).new hp⟩
 have key:∀ i z,(s++[o])[i]?=some z->(i<s.length/\s[i]?=some z)\/(i=s.length/\z=o):=λ i z e=>by
  rcases gK i s.length with h|h|h
  .rw[aQ h]at e;exact .inl ⟨h,e⟩
  .subst h;simp at e;exact .inr ⟨rfl,e.symm⟩
  .rw[cZ (by simp;lia)]at e;cases e
 refine⟨⟨g,by simp,λ i h1 h2=>?_,λ i o1 o2 e1 e2=>?_,λ b hb=>?_,λ b ob kvs hb=>by rw[za (zu hb hp)];exact hb,λ b ob hb _ _=>by rw[za (zu hb hp)];exact hb⟩,λ i j J G Cc ej Z Y e=>?_,λ i z e=>?_,λ i z e=>?_,r.tab.new hp⟩
 .rw[aD,bK]at h2
  rw[if_pos (by lia)];exact hp
 .rcases key i o2 e2 with⟨_,e⟩|⟨y,_⟩
  .rw[e1]at e;cases e;rfl
  .have:=(ac.mp e1).1;lia
 .unfold upd;split
  .simp
  .exact hb
 .rcases key i J Cc with⟨y,Cc⟩|⟨y,rfl⟩<;>rcases key j G ej with⟨hj,ej⟩|⟨hj,ej'⟩
  .rw[if_neg (aw y),if_neg (aw hj)]at e
   exact r.inj i j J G Cc ej Z Y e
  .rw[if_neg (aw y),if_pos hj]at e
   obtain⟨u,hu,_⟩:=(r.obj i J Cc).there Z
   rw[e,hp]at hu;cases hu
  .rw[if_neg (aw hj),if_pos y]at e
   obtain⟨u,hu,_⟩:=(r.obj j G ej).there Y
   rw[<-e,hp]at hu;cases hu
  .rw[y,hj]
 .rcases key i z e with⟨y,e⟩|⟨y,rfl⟩
  .show RO Γ _ _ (if i=s.length then p else C i) z
   rw[if_neg (aw y)]
   exact(r.obj i z e).mono g (r.wf i z e) λ _ v hv=>by rw[za (zu hv hp)];exact hv
  .show RO Γ _ _ (if i=s.length then p else C i) z
   rw[if_pos y]
   exact ho _ _ g zd
 .rw[aD,bK]
  rcases key i z e with⟨y,e⟩|⟨y,rfl⟩
  .exact qd (db _) _ (r.wf i z e)
  .exact qd (db _) _ hb
theorem Rp.set1 (r:Rp Γ C H s)(hk:s[k]?=some Cc)(Y:isMut Cc=true)(hb:o.bnd s.length=true)
  (ho:∀ H',Gw C s.length H C H'->H' (C k)=some u->RO Γ C H' (C k) o) (a2:okd o=okd Cc):((∀ l,Cc≠.dicF l)->Gr C s H C (s.set k o) (upd H (C k) u))/\Rp Γ C (upd H (C k) u) (s.set k o):=by
 obtain⟨v0,G,f0,a1,a0⟩:=(r.obj k Cc hk).there Y
 have Z:=(ac.mp hk).1
 have g:Gw C s.length H C (upd H (C k) u):=⟨λ _ _=>rfl,(Kp.refl H).put G f0⟩
 have key:∀ i y,(s.set k o)[i]?=some y->(i≠k/\s[i]?=some y)\/(i=k/\y=o):=λ i y e=>by
  by_cases h:i=k
  .subst h;rw[aJ Z]at e;exact .inr ⟨rfl,(aA e).symm⟩
  .rw[aB (bH h)]at e;exact .inl ⟨h,e⟩
 have mm:∀ i y,(s.set k o)[i]?=some y->isMut y=true->∃ J,s[i]?=some J/\isMut J=true:=λ i y e m=>by
  rcases key i y e with⟨_,e⟩|⟨h,_⟩
  .exact⟨y,e,m⟩
  .exact⟨Cc,by rw[h];exact hk,Y⟩
 refine⟨λ nf=>⟨g,by simp,λ i h1 h2=>by rw[aU]at h2;lia,λ i o1 o2 e1 e2=>?_,λ b hb=>?_,λ b ob kvs hb=>by rw[za λ z=>by subst z;rw[G]at hb;cases hb;exact a0 nf _ _ rfl];exact hb,λ b ob hb nt ne=>by rw[za (bH (ne k Cc hk Y))];exact hb⟩,λ i j oi oj ei ej mi mj e=>?_,λ i y e=>?_,λ i y e=>?_,r.tab.keepF λ b v hv q=>?_⟩
 .rcases key i o2 e2 with⟨_,e⟩|⟨h,rfl⟩
  .rw[e1]at e;cases e;rfl
  .subst h;rw[hk]at e1;cases e1;exact a2
 .unfold upd;split
  .simp
  .exact hb
 .obtain⟨o1,e1,m1⟩:=mm i oi ei mi
  obtain⟨o2,e2,m2⟩:=mm j oj ej mj
  exact r.inj i j o1 o2 e1 e2 m1 m2 e
 .rcases key i y e with⟨h,e⟩|⟨h,rfl⟩
  .refine(r.obj i y e).mono g (r.wf i y e) λ m v hv=>?_
   rw[za λ z=>h (r.inj i k y Cc e hk m Y z)];exact hv
  .subst h
   exact ho _ g zd
 .rw[aU]
  rcases key i y e with⟨_,e⟩|⟨_,rfl⟩
  .exact r.wf i y e
  .exact hb
 .rw[za λ z=>by
   subst z;rw[G]at q;cases q
   rcases hv with h|⟨ps,h⟩
   .rw[f0]at h;cases h
   .exact a1 _ h]
  exact q
theorem Rp.set (r:Rp Γ C H s)(hk:s[k]?=some y)(z:isMut y=true)(hb:o.bnd s.length=true)
  (ho:∀ H',Gw C s.length H C H'->H' (C k)=some u->RO Γ C H' (C k) o) (h:okd o=okd y:=by rfl) (Cc:∀ l,y≠.dicF l:=by nofun):Gr C s H C (s.set k o) (upd H (C k) u)/\Rp Γ C (upd H (C k) u) (s.set k o) :=
 ⟨(r.set1 hk z hb ho h).1 Cc,(r.set1 hk z hb ho h).2⟩
theorem Rp.same (r:Rp Γ C H s)(e:ae2 H H'):Gr C s H C s H'/\Rp Γ C H' s:=by
 have g:Gw C s.length H C H':=⟨λ _ _=>rfl,λ b o h _=>e b o h⟩
 exact⟨⟨g,aj _,λ i Cc y=>absurd y (by omega),λ i o z e e'=>by rw[e]at e';cases e';rfl,λ b hb=>by
  cases q:H b with
  | none=>exact absurd q hb
  | some o=>rw[e b o q];simp,λ b o kvs h=>e b _ h,λ b o h _ _=>e b o h⟩,r.inj,λ i o h=>(r.obj i o h).mono g (r.wf i o h) λ _ u hu=>e _ u hu,r.wf,r.tab.same e⟩
section
variable {C:Nat->Addr} {H:Hp} {s:lX} {Q:VK}
theorem ae0.alloc (h:ae0 Γ C s H (.ref s.length) (s++[.lst l]) Q)(r:Rp Γ C H s)(hl:RVL Γ C H l y)(hb:lZ s.length l=true)(hp:H p=none):Q (.ref p) (upd H p (.lst y)):=by
 obtain⟨g,z⟩:=r.new (o:=.lst l) hp hb λ C' H' g e=>⟨y,e,RVL.monoW g l y hb hl⟩
 have:=h (.ref p) _ _ g (by simp) (by unfold l9;simp) (by unfold RV;simp) z
 exact this
theorem ae0.tup (h:ae0 Γ C s H (.tup l) s Q)(r:Rp Γ C H s)(hl:RVL Γ C H l y)(hb:lZ s.length l=true)(hp:H p=none):Q (.ref p) (upd H p (.tup y)):=by
 obtain⟨g,z⟩:=r.same ((ae2.refl H).new hp)
 exact h _ _ _ g (aj _) (by unfold l9;exact hb) (RV.tupI zd (RVL.mono g l y hb hl)) z
theorem ae0.put (h:ae0 Γ C s H d (s.set k (.lst l)) Q)(r:Rp Γ C H s)(hk:s[k]?=some (.lst l0))(hl:RVL Γ C H l y)(hb:lZ s.length l=true)
  (hd:d.bnd s.length=true) (hv:RV Γ C H d v):Q v (upd H (C k) (.lst y)):=by
 obtain⟨g,z⟩:=r.set (o:=.lst l) hk rfl hb λ H' g e=>⟨y,e,RVL.monoW g l y hb hl⟩
 exact h _ _ _ g (by simp) (by rw[aU];exact hd) (RV.mono g d v hd hv) z
end
variable {Γ:Gm}
theorem zW (ha:jf a=some k)(hb:jf b=some k):a=b:=by
 cases a with
 | int i =>
  cases ha
  cases b with
  | int j=>cases hb;rfl
  | str y=>cases hb
  | _=>cases hb
 | str x =>
  cases ha
  cases b with
  | int j=>cases hb
  | str y =>
   have h:=aA hb
   injection h with h
   injection h with h
   have z:=by simpa using h
   rw[z]
  | _=>cases hb
 | _=>cases ha
theorem qQ (h:d.key=true):∃ k,jf d=some k:=by
 cases d with
 | int i=>exact⟨_,rfl⟩
 | str x=>exact⟨_,rfl⟩
 | _=>cases h
theorem aq7 (h:jf d=some k)(r:RV Γ C H d v):v=kV k:=by
 cases d with
 | int i=>cases h;exact r.intE
 | str x=>cases h;exact r.strE
 | _=>cases h
def bS3 {κ:Type}(kf:lY->Option κ):Prop:=∀ {a b} {k},kf a=some k->kf b=some k->a=b
section
variable {κ:Type} [DecidableEq κ] {kf:lY->Option κ}
theorem RVD.val (Cc:bS3 kf)(hk:kf d=some k):∀ {l} {kvs},RVD kf Γ C H l kvs->(mF d l=none/\ar0 kvs k=none)\/∃ e v,mF d l=some e/\ar0 kvs k=some v/\RV Γ C H e v/\e∈l.map (·.2)
 | [],kvs,h=>by
  have h:=h
  subst h
  exact .inl ⟨rfl,rfl⟩
 | (a,e)::l,kvs,h=>by
  obtain⟨y,v,r,rfl,e2,Z,J⟩:=h
  by_cases z:a=d
  .subst z
   rw[hk]at e2;cases e2
   exact .inr ⟨e,v,by unfold mF;rw[if_pos rfl],aj6 rfl,Z,by simp⟩
  .have G:¬ y=k:=λ q=>z (Cc e2 (by rw[q];exact hk))
   have e5:mF d ((a,e)::l)=mF d l:=by
    conv=>lhs;unfold mF
    rw[if_neg z]
   rw[e5,ak1 (G)]
   rcases RVD.val Cc hk J with q|⟨e',v',Y,q2,q3,q4⟩
   .exact .inl q
   .exact .inr ⟨e',v',Y,q2,q3,by simp at q4 ⊢;exact .inr q4⟩
theorem RVD.repl (Cc:bS3 kf)(hk:kf d=some k)(hv:RV Γ C H e v):∀ {l} {kvs},RVD kf Γ C H l kvs->RVD kf Γ C H (l.map λ p=>if p.1=d then(p.1,e)else p) (kvs.map λ y=>if y.1=k then(y.1,v)else y)
 | [],kvs,h=>by
  have h:=h
  subst h;exact(rfl)
 | (a,e0)::l,kvs,h=>by
  obtain⟨G,v0,r,rfl,e2,Z,J⟩:=h
  rw[aS,aS]
  by_cases z:a=d
  .subst z
   rw[hk]at e2;cases e2
   rw[if_pos rfl,if_pos rfl]
   exact⟨k,v,_,rfl,hk,hv,RVD.repl Cc hk hv J⟩
  .have Y:¬ G=k:=λ q=>z (Cc e2 (by rw[q];exact hk))
   rw[if_neg z,if_neg Y]
   exact⟨G,v0,_,rfl,e2,Z,RVD.repl Cc hk hv J⟩
theorem RVD.snoc (Cc:bS3 kf)(hk:kf d=some k)(hv:RV Γ C H e v):∀ {l} {kvs},RVD kf Γ C H l kvs->RVD kf Γ C H (l++[(d,e)]) (kvs++[(k,v)])
 | [],kvs,h=>by
  have h:=h
  subst h;exact⟨k,v,[],rfl,hk,hv,rfl⟩
 | (a,e0)::l,kvs,h=>by
  obtain⟨y,v0,r,rfl,e2,G,z⟩:=h
  exact⟨y,v0,_,rfl,e2,G,RVD.snoc Cc hk hv z⟩
theorem RVD.put (y:bS3 kf)(hk:kf d=some k)(hv:RV Γ C H e v)(h:RVD kf Γ C H l kvs):RVD kf Γ C H (mG d e l) (ao6 kvs k v):=by
 unfold mG ao6
 rw[aw8]
 rcases h.val y hk with⟨z,q2⟩|⟨e',v',z,q2,_⟩
 .rw[z,q2];exact h.snoc y hk hv
 .rw[z,q2];exact h.repl y hk hv
theorem RVD.get :∀ {l} {kvs} {i:Nat} {d e},RVD kf Γ C H l kvs->l[i]?=some (d,e)->∃ k v,kvs[i]?=some (k,v)/\kf d=some k/\RV Γ C H e v
 | [],_,_,_,_,_,h=>by cases h
 | (a,b)::l,kvs,0,d,e,h,q=>by
  obtain⟨k,v,r,rfl,e2,z,y⟩:=h
  cases q
  exact⟨k,v,rfl,e2,z⟩
 | (a,b)::l,kvs,i+1,d,e,h,q=>by
  obtain⟨k,v,r,rfl,e2,z,y⟩:=h
  exact RVD.get (i:=i) y (q)
theorem RVD.keys :∀ {l} {kvs},RVD kf Γ C H l kvs->∀ kv∈kvs,∃ d,kf d=some kv.1
 | [],kvs,h,kv,hk=>by
  have h:=h
  subst h;cases hk
 | (a,b)::l,kvs,h,kv,hk=>by
  obtain⟨k,v,r,rfl,e2,Cc,y⟩:=h
  rcases av.mp hk with z|z
  .subst z;exact⟨a,e2⟩
  .exact RVD.keys y kv z
theorem RVD.length :∀ {l} {kvs},RVD kf Γ C H l kvs->kvs.length=l.length
 | [],kvs,h=>by
  have h:=h
  subst h;rfl
 | (a,e)::l,kvs,h=>by
  obtain⟨z,v,r,rfl,e2,Cc,y⟩:=h
  rw[aL,aL,RVD.length y]
end
theorem av4 (h:(DV.O.dic l).bnd n=true)(hd:d.bnd n=true)(he:e.bnd n=true):(DV.O.dic (mG d e l)).bnd n=true:=by
 unfold mn at h ⊢
 rw[ak]at h ⊢
 obtain⟨z,y⟩:=h
 have g1:=aa5.mp z
 have g2:=aa5.mp y
 unfold mG
 refine⟨aa5.mpr λ x hx=>?_,aa5.mpr λ x hx=>?_⟩
 .obtain⟨p,hp,rfl⟩:=aK.mp hx
  split at hp
  .obtain⟨q,hq,rfl⟩:=aK.mp hp
   split
   .exact g1 _ (bw (f:=(·.1)) hq)
   .exact g1 _ (bw hq)
  .rcases a8.mp hp with q|q
   .exact g1 _ (bw q)
   .rw[aV.mp q];exact hd
 .obtain⟨p,hp,rfl⟩:=aK.mp hx
  split at hp
  .obtain⟨q,hq,rfl⟩:=aK.mp hp
   split
   .exact he
   .exact g2 _ (bw hq)
  .rcases a8.mp hp with q|q
   .exact g2 _ (bw q)
   .rw[aV.mp q];exact he
theorem ai9 (h:mH f (a::l) (b::m)=some z):∃ x y,f a b=some x/\mH f l m=some y/\z=(x&&y):=by
 unfold mH at h
 cases e1:f a b with
 | none=>rw[e1]at h;cases h
 | some x =>
  cases e2:mH f l m with
  | none=>rw[e1,e2]at h;cases h
  | some y=>rw[e1,e2]at h;exact⟨x,y,rfl,rfl,(aA h).symm⟩
theorem bb9 :∀ {l m} {z},mH f l m=some z->∃ e,(∀ j d d',l[j]?=some d->m[j]?=some d'->f d d'=some (e j))/\((l.length==m.length)&&(aH (min l.length m.length)).all e)=z
 | [],[],z,h=>by
  unfold mH at h
  cases h
  exact⟨λ _=>true,λ j d d' h=>by simp at h,by simp⟩
 | [],b::m,z,h=>by
  unfold mH at h
  cases h
  exact⟨λ _=>true,λ j d d' h=>by simp at h,by simp⟩
 | a::l,[],z,h=>by
  unfold mH at h
  cases h
  exact⟨λ _=>true,λ j d d' G Cc=>by simp at Cc,by simp⟩
 | a::l,b::m,z,h=>by
  obtain⟨x,y,e1,e2,J⟩:=ai9 h
  obtain⟨e,G,Cc⟩:=bb9 e2
  refine⟨λ j=>match j with|0=>x|j+1=>e j,λ j d d' g1 g2=>?_,?_⟩
  .cases j with
   | zero=>simp at g1 g2;subst g1;subst g2;exact e1
   | succ j=>exact G j d d' (by simpa using g1) (by simpa using g2)
  .rw[aL,aL,show min (l.length+1) (m.length+1)=min l.length m.length+1 by lia,List.range_succ_eq_map,dP,lI,J,<-Cc]
   have:((l.length+1==m.length+1)=(l.length==m.length)):=by
    by_cases q:l.length=m.length
    .simp[]
    .have:=by omega
     simp[]
   rw[this]
   show((l.length==m.length)&&(x&&(aH _).all e))=_
   cases x<;>cases(l.length==m.length)<;>simp
section
variable {X:Cx} {pins:yA} {W:St} {H:Hp} {sh:ai} {C:Nat->Addr} {s:lX}
theorem ak9 (I:Inv X pins W H sh)(h:H a=some (.lst y))(h':SqT X.K H a ys):False:=by
 rcases h' with(z|⟨o,z⟩)|⟨o,its,n,hk,_⟩
 .rw[h]at z;cases z
 .rw[h]at z;cases z
 .have:=(I.bs a o (I.mod.kin a o hk)).2
  rw[h]at this;cases this
theorem rv_two (I:Inv X pins W H sh)(hK:X.K=Γ.K)(R:Rp Γ C H s)(G:RV Γ C H a x)(y:RV Γ C H b x)(n1:mK s a≠9)(z:mK s b≠9):a=b\/∃ l m p J,a=.tup l/\b=.tup m/\x=.ref p/\RVL Γ C H l J/\RVL Γ C H m J:=by
 have Cc:∀ {r:Nat},mK s (.ref r)≠9->∃ l,s[r]?=some (.lst l):=λ {r} h=>by
  have h:(match s[r]? with|some (DV.O.lst l)=>4|_=>9:Nat)≠9:=h
  cases hs:s[r]? with
  | none=>rw[hs]at h;exact absurd rfl h
  | some o =>
   rw[hs]at h
   cases o with
   | lst l=>exact⟨l,rfl⟩
   | _=>exact absurd rfl h
 cases a with
 | non=>have e:=G.nonE;subst e;cases b with
  | non=>exact .inl rfl
  | bl _=>cases y.blE
  | int _=>cases y.intE
  | str _=>cases y.strE
  | tup _=>obtain⟨_,_,e,_⟩:=y.tupE;cases e
  | ref _=>cases y.refE
  | fn _=>exact absurd rfl z
  | clo _ _=>exact absurd rfl z
 | bl p=>have e:=G.blE;subst e;cases b with
  | non=>cases y.nonE
  | bl _=>cases y.blE;exact .inl rfl
  | int _=>cases y.intE
  | str _=>cases y.strE
  | tup _=>obtain⟨_,_,e,_⟩:=y.tupE;cases e
  | ref _=>cases y.refE
  | fn _=>exact absurd rfl z
  | clo _ _=>exact absurd rfl z
 | int p=>have e:=G.intE;subst e;cases b with
  | non=>cases y.nonE
  | bl _=>cases y.blE
  | int _=>cases y.intE;exact .inl rfl
  | str _=>cases y.strE
  | tup _=>obtain⟨_,_,e,_⟩:=y.tupE;cases e
  | ref _=>cases y.refE
  | fn _=>exact absurd rfl z
  | clo _ _=>exact absurd rfl z
 | str p=>have e:=G.strE;subst e;cases b with
  | non=>cases y.nonE
  | bl _=>cases y.blE
  | int _=>cases y.intE
  | str q =>
   have e':p.toArray=q.toArray:=Str.mk.inj (V.str.inj y.strE)
   have Z:p=q:=by simpa using congrArg jV e'
   subst Z;exact .inl rfl
  | tup _=>obtain⟨_,_,e,_⟩:=y.tupE;cases e
  | ref _=>cases y.refE
  | fn _=>exact absurd rfl z
  | clo _ _=>exact absurd rfl z
 | tup l =>
  obtain⟨p,J,e,Y,d1⟩:=G.tupE;subst e;cases b with
  | non=>cases y.nonE
  | bl _=>cases y.blE
  | int _=>cases y.intE
  | str _=>cases y.strE
  | tup m =>
   obtain⟨p',ys,e,q2,d2⟩:=y.tupE
   cases e
   rw[<-hK]at Y q2
   rw[I.tuple_inj q2 Y]at d2
   exact .inr ⟨l,m,p,J,rfl,rfl,rfl,d1,d2⟩
  | ref r =>
   cases y.refE
   obtain⟨m,hm⟩:=Cc z
   obtain⟨ys,hy,_⟩:=R.addr hm
   rw[<-hK]at Y
   exact(ak9 I hy Y).elim
  | fn _=>exact absurd rfl z
  | clo _ _=>exact absurd rfl z
 | ref r =>
  have e:=G.refE;subst e
  obtain⟨l,hl⟩:=Cc n1
  obtain⟨J,hx,_⟩:=R.addr hl
  cases b with
  | non=>cases y.nonE
  | bl _=>cases y.blE
  | int _=>cases y.intE
  | str _=>cases y.strE
  | tup m =>
   obtain⟨p',ys,e,q2,d2⟩:=y.tupE
   cases e
   rw[<-hK]at q2
   exact(ak9 I hx q2).elim
  | ref r' =>
   obtain⟨m,hm⟩:=Cc z
   have e:C r=C r':=V.ref.inj y.refE
   rw[R.inj r r' _ _ hl hm rfl rfl e]
   exact .inl rfl
  | fn _=>exact absurd rfl z
  | clo _ _=>exact absurd rfl z
 | fn _=>exact absurd rfl n1
 | clo _ _=>exact absurd rfl n1
theorem qV (h:mP s a b=some z):og a b=some z\/(og a b=none/\nD (mK s a) (mK s b)=false/\z=false):=by
 unfold mP at h
 cases e:og a b with
 | some w=>rw[e]at h;exact .inl h
 | none =>
  rw[e]at h
  cases q:nD (mK s a) (mK s b)with
  | true=>rw[q]at h;cases h
  | false=>rw[q]at h;exact .inr ⟨rfl,rfl,(aA h).symm⟩
theorem bp1 (h:og a b=some z):mK s a≠9/\mK s b≠9:=by
 cases a<;>cases b<;>first|(cases h;done)|(constructor<;>(intro z;cases z))
theorem ag1 (h:mP s a b=some z):mK s a≠9/\mK s b≠9:=by
 rcases qV h with h|⟨_,h,_⟩
 .exact bp1 h
 .unfold nD at h
  simp only[fC,beq_eq_false_iff_ne]at h
  exact⟨h.1.1,h.1.2⟩
theorem aE2 (h:mP s a a=some z):z=true:=by
 rcases qV h with h|⟨_,h,_⟩
 .cases a<;>cases h<;>first|rfl|exact beq_self_eq_true _
 .unfold nD at h;simp at h
theorem aM7 (I:Inv X pins W H sh)(hK:X.K=Γ.K)(R:Rp Γ C H s):∀ n a b x z ,mw s n a b=some z->RV Γ C H a x->RV Γ C H b x->z=true:=by
 have J:∀ a b x z ,mP s a b=some z->RV Γ C H a x->RV Γ C H b x->z=true:=by
  intro a b x z h Cc y
  rcases rv_two I hK R Cc y (ag1 h).1 (ag1 h).2 with e|⟨l,m,_,_,rfl,rfl,_⟩
  .subst e;exact aE2 h
  .rcases qV h with h|⟨_,h,_⟩
   .cases h
   .unfold nD at h;simp[mK]at h
 intro n
 induction n with
 | zero=>intro a b x z h;unfold mw at h;exact J a b x z h
 | succ n ih =>
  have Y:∀ l m G z ,mH (mw s n) l m=some z->RVL Γ C H l G->RVL Γ C H m G->z=true:=by
   intro l
   induction l with
   | nil =>
    intro m G z h Cc y
    cases m with
    | nil=>unfold mH at h;exact(aA h).symm
    | cons b m=>obtain⟨x,r,e,_⟩:=y.uncons;rw[Cc.unnil]at e;cases e
   | cons a l ihl =>
    intro m G z h Cc y
    cases m with
    | nil=>obtain⟨x,r,e,_⟩:=Cc.uncons;rw[y.unnil]at e;cases e
    | cons b m =>
     obtain⟨p,q,e1,e2,ez⟩:=ai9 h
     obtain⟨v,r,rfl,g1,g2⟩:=Cc.uncons
     obtain⟨v',r',e,g3,g4⟩:=y.uncons
     cases e
     rw[ez,ih a b v p e1 g1 g3,ihl m r q e2 g2 g4];rfl
  intro a b x z h Cc y
  unfold mw at h
  split at h
  .rename_i l m
   obtain⟨a,G,rfl,q1,d1⟩:=Cc.tupE
   obtain⟨b,ys,e,q2,d2⟩:=y.tupE
   cases e
   rw[<-hK]at q1 q2
   rw[I.tuple_inj q2 q1]at d2
   exact Y l m G z h d1 d2
  .rename_i p q
   split at h
   .rename_i l m hl hm
    obtain⟨G,e1,d1⟩:=R.addr hl
    obtain⟨ys,e2,d2⟩:=R.addr hm
    have e:=Cc.refE.symm.trans y.refE
    have e':=V.ref.inj e
    rw[e',e2]at e1
    have e3:=by injection (aA e1)
    subst e3
    split at h
    .exact Y l m ys z h d1 d2
    .rename_i Z;exact absurd (d1.length.symm.trans d2.length) Z
   .cases h
  .exact J a b x z h Cc y
end
variable {Γ:Gm}
inductive Vw (sh:ai):Nat->Value->Prop where
 | non:Vw sh 0 .none
 | bl (b:Bool):Vw sh 1 (.bool b)
 | int (i:Int) (t:Tok):Vw sh 1 (.int i t)
 | str (x:Str) (t:Tok):Vw sh 2 (.str x t)
 | tup {l:Addr} {items:yJ} (h:sh.heap.IsTuple l items):Vw sh 3 (.ref l)
 | lst {l:Addr} {items:yJ} (h:sh.heap.IsList l items):Vw sh 4 (.ref l)
theorem Vw.eq (a:Vw sh k u)(b:Vw sh y v)(hne:k≠y)(hu:A.units<cLine):ip A sh u v false:=by
 cases a with
 | non=>cases b with
  | non=>exact absurd rfl hne
  | bl b=>exact SeqAt.EqAt.none_bool b
  | int i t=>exact jn i t
  | str x t=>exact jo x t
  | tup h=>exact SeqAt.EqAt.none_tuple h hu
  | lst h=>exact SeqAt.EqAt.none_list h hu
 | bl a=>cases b with
  | non=>exact SeqAt.EqAt.bool_none a
  | bl b=>exact absurd rfl hne
  | int i t=>exact absurd rfl hne
  | str x t=>exact SeqAt.EqAt.bool_str a x t
  | tup h=>exact SeqAt.EqAt.bool_tuple a h hu
  | lst h=>exact SeqAt.EqAt.bool_list a h hu
 | int a q=>cases b with
  | non=>exact jp a q
  | bl b=>exact absurd rfl hne
  | int i t=>exact absurd rfl hne
  | str x t=>exact jF a q x t
  | tup h=>exact SeqAt.EqAt.int_tuple a q h hu
  | lst h=>exact SeqAt.EqAt.int_list a q h hu
 | str a q=>cases b with
  | non=>exact jq a q
  | bl b=>exact SeqAt.EqAt.str_bool a q b
  | int i t=>exact jG a q i t
  | str x t=>exact absurd rfl hne
  | tup h=>exact SeqAt.EqAt.str_tuple a q h hu
  | lst h=>exact SeqAt.EqAt.str_list a q h hu
 | tup g=>cases b with
  | non=>exact SeqAt.EqAt.tuple_none g hu
  | bl b=>exact SeqAt.EqAt.tuple_bool b g hu
  | int i t=>exact SeqAt.EqAt.tuple_int i t g hu
  | str x t=>exact SeqAt.EqAt.tuple_str x t g hu
  | tup h=>exact absurd rfl hne
  | lst h=>exact SeqAt.EqAt.tuple_list g h hu
 | lst g=>cases b with
  | non=>exact SeqAt.EqAt.list_none g hu
  | bl b=>exact SeqAt.EqAt.list_bool b g hu
  | int i t=>exact SeqAt.EqAt.list_int i t g hu
  | str x t=>exact SeqAt.EqAt.list_str x t g hu
  | tup h=>exact SeqAt.EqAt.list_tuple g h hu
  | lst h=>exact absurd rfl hne
theorem Vw.rc (a:Vw sh k u)(b:Vw sh y v)(hne:k≠y)(hu:A.units<cLine):lV A sh u v false:=by
 cases a with
 | non=>cases b with
  | non=>exact absurd rfl hne
  | bl b=>exact SeqAt.RcAt.none_bool b
  | int i t=>exact SeqAt.RcAt.none_int i t
  | str x t=>exact SeqAt.RcAt.none_str x t
  | tup h=>exact SeqAt.RcAt.none_tuple h hu
  | lst h=>exact SeqAt.RcAt.none_list h hu
 | bl a=>cases b with
  | non=>exact SeqAt.RcAt.bool_none a
  | bl b=>exact absurd rfl hne
  | int i t=>exact absurd rfl hne
  | str x t=>exact SeqAt.RcAt.bool_str a x t
  | tup h=>exact SeqAt.RcAt.bool_tuple a h hu
  | lst h=>exact SeqAt.RcAt.bool_list a h hu
 | int a q=>cases b with
  | non=>exact SeqAt.RcAt.int_none a q
  | bl b=>exact absurd rfl hne
  | int i t=>exact absurd rfl hne
  | str x t=>exact SeqAt.RcAt.int_str a q x t
  | tup h=>exact SeqAt.RcAt.int_tuple a q h hu
  | lst h=>exact SeqAt.RcAt.int_list a q h hu
 | str a q=>cases b with
  | non=>exact SeqAt.RcAt.str_none a q
  | bl b=>exact SeqAt.RcAt.str_bool a q b
  | int i t=>exact SeqAt.RcAt.str_int a q i t
  | str x t=>exact absurd rfl hne
  | tup h=>exact SeqAt.RcAt.str_tuple a q h hu
  | lst h=>exact SeqAt.RcAt.str_list a q h hu
 | tup g=>cases b with
  | non=>exact SeqAt.RcAt.tuple_none g hu
  | bl b=>exact SeqAt.RcAt.tuple_bool b g hu
  | int i t=>exact SeqAt.RcAt.tuple_int i t g hu
  | str x t=>exact SeqAt.RcAt.tuple_str x t g hu
  | tup h=>exact absurd rfl hne
  | lst h=>exact SeqAt.RcAt.tuple_list g h hu
 | lst g=>cases b with
  | non=>exact SeqAt.RcAt.list_none g hu
  | bl b=>exact SeqAt.RcAt.list_bool b g hu
  | int i t=>exact SeqAt.RcAt.list_int i t g hu
  | str x t=>exact SeqAt.RcAt.list_str x t g hu
  | tup h=>exact SeqAt.RcAt.list_tuple g h hu
  | lst h=>exact absurd rfl hne
theorem Vw.ne (a:Vw sh k u)(b:Vw sh y v)(hne:k≠y)(hu:A.units<cLine):lJ A sh u v true:=by
 cases a with
 | non=>cases b with
  | non=>exact absurd rfl hne
  | bl b=>exact SeqAt.RcNeAt.none_bool b
  | int i t=>exact SeqAt.RcNeAt.none_int i t
  | str x t=>exact SeqAt.RcNeAt.none_str x t
  | tup h=>exact SeqAt.RcNeAt.none_tuple h hu
  | lst h=>exact SeqAt.RcNeAt.none_list h hu
 | bl a=>cases b with
  | non=>exact SeqAt.RcNeAt.bool_none a
  | bl b=>exact absurd rfl hne
  | int i t=>exact absurd rfl hne
  | str x t=>exact SeqAt.RcNeAt.bool_str a x t
  | tup h=>exact SeqAt.RcNeAt.bool_tuple a h hu
  | lst h=>exact SeqAt.RcNeAt.bool_list a h hu
 | int a q=>cases b with
  | non=>exact SeqAt.RcNeAt.int_none a q
  | bl b=>exact absurd rfl hne
  | int i t=>exact absurd rfl hne
  | str x t=>exact SeqAt.RcNeAt.int_str a q x t
  | tup h=>exact SeqAt.RcNeAt.int_tuple a q h hu
  | lst h=>exact SeqAt.RcNeAt.int_list a q h hu
 | str a q=>cases b with
  | non=>exact SeqAt.RcNeAt.str_none a q
  | bl b=>exact SeqAt.RcNeAt.str_bool a q b
  | int i t=>exact SeqAt.RcNeAt.str_int a q i t
  | str x t=>exact absurd rfl hne
  | tup h=>exact SeqAt.RcNeAt.str_tuple a q h hu
  | lst h=>exact SeqAt.RcNeAt.str_list a q h hu
 | tup g=>cases b with
  | non=>exact SeqAt.RcNeAt.tuple_none g hu
  | bl b=>exact SeqAt.RcNeAt.tuple_bool b g hu
  | int i t=>exact SeqAt.RcNeAt.tuple_int i t g hu
  | str x t=>exact SeqAt.RcNeAt.tuple_str x t g hu
  | tup h=>exact absurd rfl hne
  | lst h=>exact SeqAt.RcNeAt.tuple_list g h hu
 | lst g=>cases b with
  | non=>exact SeqAt.RcNeAt.list_none g hu
  | bl b=>exact SeqAt.RcNeAt.list_bool b g hu
  | int i t=>exact SeqAt.RcNeAt.list_int i t g hu
  | str x t=>exact SeqAt.RcNeAt.list_str x t g hu
  | tup h=>exact SeqAt.RcNeAt.list_tuple g h hu
  | lst h=>exact absurd rfl hne
theorem bP3 (a b:List Nat):((⟨a.toArray⟩:Str)==⟨b.toArray⟩)=(a==b):=by
 by_cases e:a=b
 .subst e;simp
 .have:(⟨a.toArray⟩:Str)≠⟨b.toArray⟩:=λ q=>e (by simpa using congrArg (λ z=>z.cps.toList) q)
  rw[beq_eq_false_iff_ne.mpr this,beq_eq_false_iff_ne.mpr e]
structure Cmp (A:aX)(sh:ai)(u v:Value)(z:Bool):Prop where
 rc:lV A sh u v z
 ne:lJ A sh u v (!z)
section
variable {X:Cx} {pins:yA} {W:St} {H:Hp} {sh:ai} {C:Nat->Addr} {s:lX}
theorem bO9 (I:Inv X pins W H sh)(Cc:X.K=Γ.K)(R:Rp Γ C H s)(h:RV Γ C H d x)(r:RelV x u)(hk:mK s d≠9):Vw sh (mK s d) u:=by
 cases d with
 | non=>have e:=h.nonE;subst e;cases r;exact .non
 | bl b=>have e:=h.blE;subst e;cases r;exact .bl b
 | int i=>have e:=h.intE;subst e;obtain⟨t,rfl⟩:=r;exact .int i t
 | str y=>have e:=h.strE;subst e;obtain⟨t,rfl⟩:=r;exact .str _ t
 | tup l =>
  obtain⟨a,z,e,q,_⟩:=h.tupE
  subst e;cases r
  rw[<-Cc]at q
  obtain⟨its,_,t,_⟩:=I.tuple q
  exact .tup t
 | ref n =>
  have e:=h.refE;subst e;cases r
  have hk:(match s[n]? with|some (DV.O.lst l)=>4|_=>9:Nat)≠9:=hk
  show Vw sh (match s[n]? with|some (DV.O.lst l)=>4|_=>9:Nat) _
  cases hs:s[n]? with
  | none=>rw[hs]at hk;exact absurd rfl hk
  | some o =>
   rw[hs]at hk
   cases o with
   | lst l =>
    obtain⟨z,e,_⟩:=R.addr hs
    obtain⟨its,_,t,_⟩:=I.list (SqL.of e)
    exact .lst t.isList
   | _=>exact absurd rfl hk
 | fn _=>exact absurd rfl hk
 | clo _ _=>exact absurd rfl hk
theorem aC2 (I:Inv X pins W H sh)(Z:X.K=Γ.K)(R:Rp Γ C H s)(h:mP s a b=some z)(J:RV Γ C H a x)(Cc:RV Γ C H b y)(r1:RelV x u)(G:RelV y v)(hu:A.units<cLine) :
  ip A sh u v z/\Cmp A sh u v z:=by
 rcases qV h with h|⟨_,hn,hz⟩
 .cases a<;>cases b<;>try cases h
  .cases J.nonE;cases Cc.nonE;cases r1;cases G
   exact⟨fG _,SeqAt.RcAt.none_none,SeqAt.RcNeAt.none_none⟩
  .cases J.blE;cases Cc.blE;cases r1;cases G
   exact⟨SeqAt.EqAt.bool_bool _ _,SeqAt.RcAt.bool_bool _ _,SeqAt.RcNeAt.bool_bool _ _⟩
  .cases J.blE;cases Cc.intE;cases r1;obtain⟨t',rfl⟩:=G
   exact⟨SeqAt.EqAt.bool_int _ _ _,SeqAt.RcAt.bool_int _ _ _,SeqAt.RcNeAt.bool_int _ _ _⟩
  .cases J.intE;cases Cc.blE;obtain⟨t,rfl⟩:=r1;cases G
   exact⟨SeqAt.EqAt.int_bool _ _ _,SeqAt.RcAt.int_bool _ _ _,SeqAt.RcNeAt.int_bool _ _ _⟩
  .cases J.intE;cases Cc.intE;obtain⟨t,rfl⟩:=r1;obtain⟨t',rfl⟩:=G
   exact⟨SeqAt.EqAt.int_int _ _ _ _,SeqAt.RcAt.int_int _ _ _ _,SeqAt.RcNeAt.int_int _ _ _ _⟩
  .cases J.strE;cases Cc.strE;obtain⟨t,rfl⟩:=r1;obtain⟨t',rfl⟩:=G
   rw[<-bP3]
   exact⟨SeqAt.EqAt.str_str _ _ _ _,SeqAt.RcAt.str_str _ _ _ _,SeqAt.RcNeAt.str_str _ _ _ _⟩
 .subst hz
  unfold nD at hn
  simp only[fC,beq_eq_false_iff_ne]at hn
  have Y:=bO9 I Z R J r1 hn.1.1
  have w2:=bO9 I Z R Cc G hn.1.2
  exact⟨Y.eq w2 hn.2 hu,Y.rc w2 hn.2 hu,Y.ne w2 hn.2 hu⟩
theorem bb4 (I:Inv X pins W H sh)(hK:X.K=Γ.K)(R:Rp Γ C H s):∀ n a b x y u v A z ,mw s n a b=some z->RV Γ C H a x->RV Γ C H b y->RelV x u->RelV y v->Room n A ->
  ip A sh u v z/\Cmp A sh u v z:=by
 intro n
 induction n with
 | zero=>intro a b x y u v A z h h1 h2 r1 r2 G;unfold mw at h;exact aC2 I hK R h h1 h2 r1 r2 G.units0
 | succ n ih =>
  have Cc:∀ {l m:List lY} {xs ys:List V} {its its':yG} {A:aX} {e:Nat->Bool},RVL Γ C H l xs->RVL Γ C H m ys->Vals xs its->Vals ys its'->Room n A->(∀ j d d',l[j]?=some d->m[j]?=some d'->mw s n d d'=some (e j)) ->
    ∀ j (h1:j<its.toArray.size) (h2:j<its'.toArray.size),ip A sh its.toArray[j] its'.toArray[j] (e j):=by
   intro l m xs ys its its' A e d1 d2 v1 Z G he j h1 h2
   have l1:=v1.length
   have l2:=Z.length
   have e1:=d1.length
   have e2:=d2.length
   have a2:=by simpa using h1
   have a4:=by simpa using h2
   have hj:j<l.length:=by lia
   have a1:j<m.length:=by lia
   obtain⟨x,ex,dx⟩:=d1.get (ag hj)
   obtain⟨y,ey,dy⟩:=d2.get (ag a1)
   obtain⟨u,eu,ru⟩:=v1.get ex
   obtain⟨w,ew,a3⟩:=Z.get ey
   have g1:its.toArray[j]=u:=by
    have:=ag a2
    rw[eu]at this
    simpa using(aA this).symm
   have g2:its'.toArray[j]=w:=by
    have:=ag a4
    rw[ew]at this
    simpa using(aA this).symm
   rw[g1,g2]
   exact(ih _ _ x y u w A (e j) (he j _ _ (ag hj) (ag a1)) dx dy ru a3 G).1
  intro a b x y u v A z h h1 h2 r1 r2 G
  have hz:=h
  unfold mw at h
  split at h
  .rename_i l m
   obtain⟨p,xs,ex,q1,d1⟩:=id h1.tupE
   obtain⟨q,ys,ey,q2,d2⟩:=id h2.tupE
   subst ex;subst ey
   cases r1;cases r2
   rw[<-hK]at q1 q2
   obtain⟨its,v1,t1,_⟩:=I.tuple q1
   obtain⟨its',Z,t2,_⟩:=I.tuple q2
   obtain⟨e,he,J⟩:=bb9 h
   have l1:=v1.length
   have l2:=Z.length
   have e1:=d1.length
   have e2:=d2.length
   have sz:((aH (min its.toArray.size its'.toArray.size)).all e&&its.toArray.size==its'.toArray.size)=z:=by
    rw[<-J,Bool.and_comm,show its.toArray.size=l.length by simp;lia,show its'.toArray.size=m.length by simp;lia]
   have key:=SeqAt.RcAt.tuples t1 t2 G.units0 (Cc d1 d2 v1 Z G.in1 he)
   have Y:=SeqAt.RcNeAt.tuples t1 t2 G.units0 (Cc d1 d2 v1 Z G.in1 he)
   rw[sz]at key Y
   refine⟨?_,key,Y⟩
   by_cases hab:p=q
   .subst hab
    rw[aM7 I hK R _ _ _ _ _ hz h1 h2]
    exact fG _
   .exact jT hab key
  .rename_i p q
   split at h
   .rename_i l m hl hm
    obtain⟨xs,e1,d1⟩:=R.addr hl
    obtain⟨ys,e2,d2⟩:=R.addr hm
    have ex:=h1.refE
    have ey:=h2.refE
    subst ex;subst ey
    cases r1;cases r2
    obtain⟨its,v1,t1,_⟩:=I.list (SqL.of e1)
    obtain⟨its',Z,t2,_⟩:=I.list (SqL.of e2)
    have l1:=v1.length
    have l2:=Z.length
    have c1:=d1.length
    have c2:=d2.length
    have fin:Cmp A sh (.ref (C p)) (.ref (C q)) z:=by
     split at h
     .rename_i a0
      obtain⟨e,he,J⟩:=bb9 h
      have sz:(aH its.toArray.size).all e=z:=by
       rw[<-J,show its.toArray.size=l.length by simp;omega,a0]
       simp
      have key:=SeqAt.RcAt.lists t1.isList t2.isList (by simp;lia) G.units0 (Cc d1 d2 v1 Z G.in1 he)
      have Y:=SeqAt.RcNeAt.lists (e:=e) t1.isList t2.isList (by simp;omega) G.units0 (Cc d1 d2 v1 Z G.in1 he)
      rw[sz]at key Y
      exact⟨key,Y⟩
     .rename_i a0
      cases h
      have hs:(its.toArray.size != its'.toArray.size)=true:=by simp;lia
      exact⟨SeqAt.RcAt.lists_lengths t1.isList t2.isList hs G.units0,SeqAt.RcNeAt.lists_lengths t1.isList t2.isList hs G.units0⟩
    refine⟨?_,fin⟩
    by_cases hab:C p=C q
    .rw[aM7 I hK R _ _ _ _ _ hz RV.refI (by rw[hab];exact RV.refI),hab]
     exact fG _
    .exact jT hab fin.rc
   .cases h
  .exact aC2 I hK R h h1 h2 r1 r2 G.units0
end
variable {Γ:Gm} {X:Cx}
noncomputable def cj1:oy->Operator
 | .add=>.Add|.sub=>.Sub|.mul=>.Mult|.fdiv=>.FloorDiv|.mod=>.Mod|.pow=>.Pow|.shl=>.LShift|.shr=>.RShift|.band=>.BitAnd|.bor=>.BitOr
noncomputable def ao7:nQ->CmpOp
 | .eq=>.Eq|.ne=>.NotEq|.lt=>.Lt|.le=>.LtE|.gt=>.Gt|.ge=>.GtE|.isin=>.In|.notin=>.NotIn
def rOp (Γ:Gm)(f:lY->lY->lX->mf lY):R2:=λ x y H Q=>∃ C s a b d s',Rp Γ C H s/\RV Γ C H a x/\RV Γ C H b y/\a.bnd s.length=true/\b.bnd s.length=true/\f a b s=.ok d s'/\ae0 Γ C s H d s' Q
theorem qf (h:oz d s=.ok e t):d=e/\s=t:=by
 unfold oz at h
 cases h
 exact⟨rfl,rfl⟩
theorem qo (h:nv o s=.ok e t):e=.ref s.length/\t=s++[o]:=by
 unfold nv at h
 cases h
 exact⟨rfl,rfl⟩
theorem aS9 (a b:List Nat):(⟨a.toArray⟩:Str)++⟨b.toArray⟩=⟨(a++b).toArray⟩:=by
 show Str.append _ _=_
 unfold Str.append
 simp
theorem zN:mq<=aO:=by rw[eJ];decide
theorem bF5:OpR X (cG .LShift) (rI (λ i j=>0<=j/\j<=1000000/\i.natAbs<2^128) λ i j=>.int (i*2^j.toNat)):=opI λ _ _ _ _ _ _ _ hc q=>lshift_int hc.1 (by
 have h:=intBits_le hc.2.2
 have y:=hc.2.1
 lia) q
theorem by7:OpR X (cG .Mult) (rI (λ i j=>DV.mulOk i j=true) λ i j=>.int (i*j)):=opI λ i j _ _ _ _ _ hc q=>mul_int q (by
 unfold DV.mulOk at hc
 simp only[b8,ak,decide_eq_true_eq]at hc
 rcases hc with(h|h)|⟨y,z⟩
 .exact cd7.ok (.inl (by omega))
 .exact cd7.ok (.inr (by omega))
 .unfold DV.BIG at y z
  exact IntMulOk.of_le (intBits_le_iff.mpr y) (intBits_le_iff.mpr z) (by decide))
theorem aM8 l :∀ n h ,(aC n l.toArray).foldl (·++·) h=h++(mJ n l).toArray
 | 0,h=>by simp[mJ]
 | n+1,h=>by
  rw[bT,dI,aM8 l n]
  simp[mJ]
theorem bC1 l :mJ 1 l=l:=by simp[mJ]
theorem aT2:∀ n,mJ n []=[]
 | 0=>rfl
 | n+1=>by simp[mJ,aT2 n]
theorem rep_len l :∀ n,(mJ n l).length=l.length*n
 | 0=>by simp[mJ]
 | n+1=>by simp[mJ,rep_len l n,kI];lia
theorem bA6:OpR X (cG .Mult) (λ x y H Q=>∃ l n ,x=.str ⟨l.toArray⟩/\y=.int n/\(0<=n/\n<=1000000/\l.length*n.toNat<=mq)/\Q (.str ⟨(mJ n.toNat l).toArray⟩) H):=by
 intro G s W H x y v u Q I J ry h
 obtain⟨l,n,rfl,rfl,⟨h0,h1,h2⟩,q⟩:=h
 obtain⟨t,rfl⟩:=J
 obtain⟨t',rfl⟩:=ry
 have z:(⟨l.toArray⟩:Str).length=l.length:=by show l.toArray.size=_;simp
 have hL:=zN
 have Y:=ai2
 refine SB.mul ⟨?_,λ hn _=>?_,λ hn _=>?_⟩ λ t2 k=>?_
 .rw[decide_eq_false (by lia),decide_eq_false (by lia)];rfl
 .rw[z]
  have Cc:1<=n:=by omega
  intro Z
  have h3:(l.length:Int)*n<=1000000:=by
   have:=Int.ofNat_le.mpr h2
   rw[kM,fX h0]at this
   have e:((mq:Nat):Int)=1000000:=by unfold mq;rfl
   lia
  have h4:=by
   have:(l.length:Int)*1<=(l.length:Int)*n:=fD Cc (by lia)
   omega
  have h5:(1000000:Int)<=(2^63 - 1) / n:=by
   rw[Int.le_ediv_iff_mul_le (by omega)]
   have:=fD h1 (by omega)
   lia
  omega
 .rw[z]
  unfold lj
  exact decide_eq_false (by lia)
 .have e:Txt.mul ⟨l.toArray⟩ n=⟨(mJ n.toNat l).toArray⟩:=by
   unfold Txt.mul
   split
   .have:n.toNat=0:=by lia
    rw[this];rfl
   .split
    .rename_i hc
     rw[b8]at hc
     rcases hc with hc|hc
     .have:=by simpa using hc
      subst this
      show(⟨l.toArray⟩:Str)=⟨(mJ 1 l).toArray⟩
      rw[bC1]
     .have:=by
       have:=eq_of_beq hc
       rw[z]at this
       exact cI.mp this
      subst this
      rw[aT2]
    .skip
     rw[aM8];simp
  rw[e]
  exact⟨.str _,H,I.tok _,⟨_,rfl⟩,q⟩
theorem an1 (h:lZ n l=true):∀ k,lZ n (nk k l)=true
 | 0=>rfl
 | k+1=>zI h (an1 h k)
theorem RVL.repD (h:RVL Γ C H l y):∀ k,RVL Γ C H (nk k l) (ao3 k y)
 | 0=>RVL.nil
 | k+1=>h.append (RVL.repD h k)
theorem ax9 (h:List α):∀ k,ao3 k h=(aC k h).flatten
 | 0=>rfl
 | k+1=>by rw[bT,c9,<-ax9 h k];rfl
theorem bk5 (hx:0<=x)(hy:0<=y):gO x y=((x.toNat ||| y.toNat)):=by
 have nn:∀ z:Int,fc (fc z)=z:=λ z=>by unfold fc;lia
 unfold gO
 rw[bitAnd_nn (by unfold fc;lia) (by unfold fc;lia),nn,nn,nn]
theorem bW5 (hK:X.K=Γ.K) op :OpR X (cG (cj1 op)) (rOp Γ (DV.qF op)):=by
 intro G s W H x y v u Q I Y Z h
 obtain⟨C,st,a,b,d,a0,R,ha,hb,na,nb,Cc,q⟩:=h
 cases op with
 | add =>
  cases a with
  | int a =>
   cases b with
   | int b =>
    obtain⟨rfl,rfl⟩:=qf Cc
    have ex:=ha.intE;have J:=hb.intE;subst ex;subst J
    exact bX7 G s W H _ _ v u Q I Y Z ⟨_,_,rfl,rfl,q.here R rfl RV.intI⟩
   | _=>exact fb Cc
  | str a =>
   cases b with
   | str b =>
    change(if _ then _ else _:nK lY) st=_ at Cc
    split at Cc
    .rename_i hl
     obtain⟨rfl,rfl⟩:=qf Cc
     have ex:=ha.strE;have J:=hb.strE;subst ex;subst J
     refine aR9 G s W H _ _ v u Q I Y Z ⟨_,_,rfl,rfl,?_,?_⟩
     .show a.toArray.size+b.toArray.size<=_
      simp only[aq]
      exact am hl zN
     .rw[aS9];exact q.here R rfl (RV.strI (by rw[aD];exact hl))
    .exact fb Cc
   | _=>exact fb Cc
  | tup a =>
   cases b with
   | tup b =>
    change(if _ then _ else _:nK lY) st=_ at Cc
    split at Cc
    .rename_i hl
     obtain⟨rfl,rfl⟩:=qf Cc
     obtain⟨p,xs,⟨rfl,z1⟩,h1,d1⟩:=ha.tupZ
     obtain⟨p',ys,⟨rfl,z2⟩,h2,d2⟩:=hb.tupZ
     refine bL6 hK G s W H _ _ v u Q I Y Z ⟨p,p',xs,ys,rfl,rfl,h1,h2,?_,λ t H' e ht hn=>?_⟩
     .rw[d1.length,d2.length];exact am hl zN
     .obtain⟨g,r'⟩:=R.same e
      unfold l9 at na nb
      refine q _ _ _ g (aj _) (by unfold l9;exact zI na nb) (RV.tupC ht (λ z=>?_) ((RVL.mono g _ _ na d1).append (RVL.mono g _ _ nb d2))) r'
      rcases hn with hn|⟨rfl,rfl⟩|⟨rfl,rfl⟩
      .exact hn
      .rw[d2.tonil,bp]at z;rw[bp];exact e _ _ (z1 z)
      .rw[d1.tonil]at z;exact e _ _ (z2 z)
    .exact fb Cc
   | _=>exact fb Cc
  | ref a =>
   cases b with
   | ref b =>
    change(match st[a]?,st[b]? with|some (DV.O.lst l),some (DV.O.lst m)=>if l.length+m.length<=mq then nv (.lst (l++m)) st else .bad|_,_=>.bad:mf lY)=_ at Cc
    split at Cc
    .rename_i l m h1 h2
     split at Cc
     .rename_i hl
      obtain⟨rfl,rfl⟩:=qo Cc
      obtain⟨xs,e1,d1⟩:=R.addr h1
      obtain⟨ys,e2,d2⟩:=R.addr h2
      have ex:=ha.refE;have J:=hb.refE;subst ex;subst J
      have b1:=R.wf _ _ h1
      have b2:=R.wf _ _ h2
      unfold mn at b1 b2
      refine ca8 G s W H _ _ v u Q I Y Z ⟨C a,C b,xs,ys,rfl,rfl,e1,e2,?_,λ p hp=>?_⟩
      .rw[d1.length,d2.length];exact am hl zN
      .exact q.alloc R (d1.append d2) (zI b1 b2) hp
     .exact fb Cc
    .exact fb Cc
   | _=>exact fb Cc
  | _=>exact fb Cc
 | sub=>exact fb Cc
 | mul =>
  cases a with
  | int a =>
   cases b with
   | int b =>
    change(if _ then _ else _:nK lY) st=_ at Cc
    split at Cc
    .rename_i hc
     obtain⟨rfl,rfl⟩:=qf Cc
     have ex:=ha.intE;have J:=hb.intE;subst ex;subst J
     exact by7 G s W H _ _ v u Q I Y Z ⟨_,_,rfl,rfl,hc,q.here R rfl RV.intI⟩
    .exact fb Cc
   | _=>exact fb Cc
  | str a =>
   cases b with
   | int b =>
    change(if _ then _ else _:nK lY) st=_ at Cc
    split at Cc
    .rename_i hc
     obtain⟨rfl,rfl⟩:=qf Cc
     have ex:=ha.strE;have J:=hb.intE;subst ex;subst J
     exact bA6 G s W H _ _ v u Q I Y Z ⟨_,_,rfl,rfl,hc,q.here R rfl (RV.strI (by rw[rep_len];exact hc.2.2))⟩
    .exact fb Cc
   | _=>exact fb Cc
  | tup a =>
   cases b with
   | int b =>
    change(if _ then _ else _:nK lY) st=_ at Cc
    split at Cc
    .rename_i hc
     obtain⟨rfl,rfl⟩:=qf Cc
     obtain⟨p,xs,⟨rfl,z1⟩,h1,d1⟩:=ha.tupZ
     have J:=hb.intE;subst J
     refine bK5 hK G s W H _ _ v u Q I Y Z ⟨p,xs,_,rfl,rfl,h1,⟨hc.1,hc.2.1,by rw[d1.length];exact hc.2.2⟩,λ t H' e ht hn=>?_⟩
     obtain⟨g,r'⟩:=R.same e
     unfold l9 at na
     refine q _ _ _ g (aj _) (by unfold l9;exact an1 na _) (RV.tupC ht (λ z=>?_) (RVL.repD (RVL.mono g _ _ na d1) _)) r'
     rcases hn with hn|⟨rfl,ex⟩
     .exact hn
     .rw[ex];exact e _ _ (z1 (bJ9 z))
    .exact fb Cc
   | _=>exact fb Cc
  | ref a =>
   cases b with
   | int b =>
    change(match st[a]? with|some (DV.O.lst l)=>if 0<=b/\b<=1000000/\l.length*b.toNat<=mq then nv (.lst (nk b.toNat l)) st else .bad|_=>.bad:mf lY)=_ at Cc
    split at Cc
    .rename_i l h1
     split at Cc
     .rename_i hc
      obtain⟨rfl,rfl⟩:=qo Cc
      obtain⟨xs,e1,d1⟩:=R.addr h1
      have ex:=ha.refE;have J:=hb.intE;subst ex;subst J
      have b1:=R.wf _ _ h1
      unfold mn at b1
      refine bV1 G s W H _ _ v u Q I Y Z ⟨C a,b,xs,rfl,rfl,e1,by lia,by omega,?_,λ p hp=>?_⟩
      .rw[d1.length];exact am hc.2.2 zN
      .rw[<-ax9];exact q.alloc R (RVL.repD d1 _) (an1 b1 _) hp
     .exact fb Cc
    .exact fb Cc
   | _=>exact fb Cc
  | _=>exact fb Cc
 | fdiv =>
  cases a with
  | int a =>
   cases b with
   | int b =>
    change(if _ then _ else _:nK lY) st=_ at Cc
    split at Cc
    .rename_i hc
     obtain⟨rfl,rfl⟩:=qf Cc
     have ex:=ha.intE;have J:=hb.intE;subst ex;subst J
     refine bp6 G s W H _ _ v u Q I Y Z ⟨_,_,rfl,rfl,⟨hc.1,?_⟩,q.here R rfl RV.intI⟩
     have:=hc.2
     unfold DV.DIVL at this
     simpa using this
    .exact fb Cc
   | _=>exact fb Cc
  | _=>exact fb Cc
 | mod =>
  cases a with
  | int a =>
   cases b with
   | int b =>
    change(if _ then _ else _:nK lY) st=_ at Cc
    split at Cc
    .rename_i hc
     obtain⟨rfl,rfl⟩:=qf Cc
     have ex:=ha.intE;have J:=hb.intE;subst ex;subst J
     exact cb4 G s W H _ _ v u Q I Y Z ⟨_,_,rfl,rfl,hc,q.here R rfl RV.intI⟩
    .exact fb Cc
   | _=>exact fb Cc
  | _=>exact fb Cc
 | pow =>
  cases a with
  | int a =>
   cases b with
   | int b =>
    change(if _ then _ else _:nK lY) st=_ at Cc
    split at Cc
    .rename_i hc
     obtain⟨rfl,rfl⟩:=qf Cc
     have ex:=ha.intE;have J:=hb.intE;subst ex;subst J
     exact ca6 G s W H _ _ v u Q I Y Z ⟨_,_,rfl,rfl,hc,q.here R rfl RV.intI⟩
    .exact fb Cc
   | _=>exact fb Cc
  | _=>exact fb Cc
 | shl =>
  cases a with
  | int a =>
   cases b with
   | int b =>
    change(if _ then _ else _:nK lY) st=_ at Cc
    split at Cc
    .rename_i hc
     obtain⟨rfl,rfl⟩:=qf Cc
     have ex:=ha.intE;have J:=hb.intE;subst ex;subst J
     exact bF5 G s W H _ _ v u Q I Y Z ⟨_,_,rfl,rfl,hc,q.here R rfl RV.intI⟩
    .exact fb Cc
   | _=>exact fb Cc
  | _=>exact fb Cc
 | shr=>exact fb Cc
 | band=>exact fb Cc
 | bor =>
  cases a with
  | int a =>
   cases b with
   | int b =>
    change(if _ then _ else _:nK lY) st=_ at Cc
    split at Cc
    .rename_i hc
     obtain⟨rfl,rfl⟩:=qf Cc
     have ex:=ha.intE;have J:=hb.intE;subst ex;subst J
     exact ck9 G s W H _ _ v u Q I Y Z ⟨_,_,rfl,rfl,by show Q (V.int (gO a b)) H;rw[bk5 hc.1 hc.2];exact q.here R rfl RV.intI⟩
    .exact fb Cc
   | _=>exact fb Cc
  | _=>exact fb Cc
variable {Γ:Gm} {X:Cx} {pins:yA} {W:St} {H:Hp} {sh:ai} {C:Nat->Addr} {s:lX}
theorem aM5 (h:mw s n a b=some z):mK s a≠9:=by
 cases n with
 | zero=>unfold mw at h;exact(ag1 h).1
 | succ n =>
  unfold mw at h
  split at h
  .simp[mK]
  .split at h
   .rename_i y _;simp[mK,y]
   .cases h
  .exact(ag1 h).1
theorem aW7 (I:Inv X pins W H sh)(G:X.K=Γ.K)(R:Rp Γ C H s):∀ n a b c x p q ,RV Γ C H a x->RV Γ C H b x->mw s n a c=some p->mw s n b c=some q->p=q:=by
 intro n
 induction n with
 | zero =>
  intro a b c x p q y h e1 e2
  rcases rv_two I G R y h (aM5 e1) (aM5 e2)with e|⟨l,m,_,_,rfl,rfl,_⟩
  .subst e;rw[e1]at e2;exact aA e2
  .unfold mw at e1 e2
   have:mP s (.tup l) c=mP s (.tup m) c:=by unfold mP;cases c<;>rfl
   rw[this,e2]at e1;exact(aA e1).symm
 | succ n ih =>
  have Cc:∀ l m k z p q ,RVL Γ C H l z->RVL Γ C H m z->mH (mw s n) l k=some p->mH (mw s n) m k=some q->p=q:=by
   intro l
   induction l with
   | nil =>
    intro m k z p q y h e1 e2
    have:=y.unnil;subst this
    have hm:=by have:=h.length;exact cI.mp this.symm
    subst hm
    rw[e1]at e2;exact aA e2
   | cons a l ihl =>
    intro m k z p q y h e1 e2
    obtain⟨x,r,rfl,g1,g2⟩:=y.uncons
    cases m with
    | nil=>have:=h.unnil;cases this
    | cons b m =>
     obtain⟨x',r',e,g3,g4⟩:=h.uncons
     cases e
     cases k with
     | nil=>unfold mH at e1 e2;rw[<-aA e1,<-aA e2]
     | cons c k =>
      obtain⟨p1,Y,a1,a2,Z⟩:=ai9 e1
      obtain⟨q1,q2,b1,b2,J⟩:=ai9 e2
      rw[Z,J,ih a b c x p1 q1 g1 g3 a1 b1,ihl m k r Y q2 g2 g4 a2 b2]
  intro a b c x p q y h e1 e2
  rcases rv_two I G R y h (aM5 e1) (aM5 e2)with e|⟨l,m,_,z,rfl,rfl,_,d1,d2⟩
  .subst e;rw[e1]at e2;exact aA e2
  .cases c with
   | tup k=>unfold mw at e1 e2;exact Cc l m k z p q d1 d2 e1 e2
   | _ =>
    unfold mw at e1 e2
    simp only at e1 e2
    have e3:mP s (.tup l)=mP s (.tup m):=by funext c;unfold mP;cases c<;>rfl
    rw[e3]at e1
    exact aA (e1.symm.trans e2)
theorem bt7 :∀ {l} {z},ny s x l=some z->∃ e:Nat->Bool,(∀ j d,l[j]?=some d->mw s mB d x=some (e j))/\(z=true↔∃ j,j<l.length/\e j=true)
 | [],z,h=>by
  unfold ny at h
  cases h
  exact⟨λ _=>true,λ j d h=>by simp at h,by simp⟩
 | y::l,z,h=>by
  unfold ny at h
  cases e1:mw s mB y x with
  | none=>rw[e1]at h;cases h
  | some a =>
   cases e2:ny s x l with
   | none=>rw[e1,e2]at h;cases h
   | some b =>
    rw[e1,e2]at h
    obtain⟨e,G,Cc⟩:=bt7 e2
    refine⟨λ j=>match j with|0=>a|j+1=>e j,λ j d g=>?_,?_⟩
    .cases j with
     | zero=>simp at g;subst g;exact e1
     | succ j=>exact G j d (by simpa using g)
    .have hz:=aA h
     rw[<-hz,b8,Cc]
     constructor
     .rintro(q|⟨j,hj,q⟩)
      .exact⟨0,by simp,q⟩
      .exact⟨j+1,by simpa using hj,q⟩
     .rintro⟨j,hj,q⟩
      cases j with
      | zero=>exact .inl q
      | succ j=>exact .inr ⟨j,by simpa using hj,q⟩
theorem bs4 (I:Inv X pins W H sh)(hK:X.K=Γ.K)(R:Rp Γ C H s)(hx:RV Γ C H x xv)(rx:RelV xv J){its:yG}(hl:RVL Γ C H l ys)(hv:Vals ys its)(h:ny s x l=some z)(hr:Room mB A) :
  ∃ e:Value->Bool,(∀ y,y∈its.toArray->ip A sh y J (e y))/\its.toArray.any e=z:=by
 obtain⟨e,Z,h2⟩:=bt7 h
 have len:its.length=l.length:=by rw[<-hv.length];exact hl.length
 have Cc:∀ j u,its[j]?=some u->∃ d y,l[j]?=some d/\ys[j]?=some y/\RV Γ C H d y/\RelV y u:=λ j u g=>by
  have hj:j<l.length:=by rw[<-len];exact(ac.mp g).1
  obtain⟨y,g1,g2⟩:=hl.get (ag hj)
  obtain⟨u',g3,g4⟩:=hv.get g1
  rw[g]at g3;cases g3
  exact⟨_,y,ag hj,g1,g2,g4⟩
 classical
 let f:Value->Bool:=λ u=>decide (∃ j,its[j]?=some u/\e j=true)
 have Y:∀ j u,its[j]?=some u->f u=e j:=λ j u g=>by
  obtain⟨d,y,g1,g2,g3,g4⟩:=Cc j u g
  cases q:e j with
  | true=>exact decide_eq_true ⟨j,g,q⟩
  | false =>
   refine decide_eq_false λ⟨k,g',q'⟩=>?_
   obtain⟨d',y',k1,k2,k3,k4⟩:=Cc k u g'
   have ey:y'=y:=k4.inj g4
   subst ey
   have:=aW7 I hK R _ d d' x _ _ _ g3 k3 (Z j d g1) (Z k d' k1)
   rw[q,q']at this;cases this
 refine⟨f,λ u hu=>?_,?_⟩
 .obtain⟨j,hj,g⟩:=dg.mp (by simpa using hu:u∈its)
  have g':its[j]?=some u:=by rw[ag hj,g]
  obtain⟨d,y,g1,g2,g3,g4⟩:=Cc j u g'
  rw[Y j u g']
  exact(bb4 I hK R _ d x y xv u J A _ (Z j d g1) g3 hx g4 rx hr).1
 .have e1:its.toArray.any f=true↔z=true:=by
   rw[h2,List.any_toArray,kx]
   constructor
   .rintro⟨u,hu,q⟩
    obtain⟨j,hj,g⟩:=dg.mp hu
    have g':its[j]?=some u:=by rw[ag hj,g]
    exact⟨j,by lia,by rw[<-Y j u g'];exact q⟩
   .rintro⟨j,hj,q⟩
    have G:j<its.length:=by lia
    exact⟨its[j],g7 G,by rw[Y j _ (ag G)];exact q⟩
  cases z<;>cases q:its.toArray.any f
  .rfl
  .have:=e1.mp q;cases this
  .rw[q]at e1;have:=e1.mpr rfl;cases this
  .rfl
variable {Γ:Gm} {X:Cx}
theorem aa0 {r:mf α}{b:β}(h:r.bind f=.ok b t):∃ a s,r=.ok a s/\f a s=.ok b t:=DV.R.bind_inv h
theorem br6 (hK:X.K=Γ.K)(hr:Room (mB+1) X.A)(neg:Bool){st }
  (I:Inv X Cc W H sh) (G:RelV x v) (ry:RelV y u) (R:Rp Γ C H st) (ha:RV Γ C H a x) (hb:RV Γ C H b y) (h:oh a b st=.ok z Y) :
  Y=st/\∀ Q:Value->ai->Prop,(∀ Z,Inv X Cc W H Z->Q (.bool (if neg then !z else z)) Z)->wpAny (model X.prog X.w) X.A (cU (if neg then .NotIn else .In) v u) Q X.xe sh:=by
 unfold oh at h
 cases b with
 | tup l =>
  simp only at h
  cases e:ny st a l with
  | none=>rw[e]at h;cases h
  | some w =>
   rw[e]at h
   cases h
   obtain⟨p,ys,rfl,q,d⟩:=hb.tupE
   cases ry
   rw[<-hK]at q
   obtain⟨its,rv,t,_⟩:=I.tuple q
   obtain⟨f,h1,h2⟩:=bs4 I hK R ha G d rv e (A:=X.A.in1) hr.in1
   refine⟨rfl,λ Q hq=>?_⟩
   cases neg with
   | false=>exact SeqAt.in_tupleAt f t h1 (by rw[h2];exact hq _ I)
   | true=>exact SeqAt.notIn_tupleAt f t h1 (by rw[h2];exact hq _ I)
 | str y0 =>
  simp only at h
  split at h
  case h_2=>exact fb h
  rename_i c
  cases h
  refine⟨rfl,λ Q hq=>?_⟩
  have e1:=ha.strE
  have e2:=hb.strE
  subst e1 e2
  obtain⟨t1,rfl⟩:=G
  obtain⟨t2,rfl⟩:=ry
  have J:=lC (⟨y0.toArray⟩:Str) c
  cases neg with
  | false=>exact in_str (by rw[show(⟨[c].toArray⟩:Str)=⟨#[c]⟩from rfl,J];simpa using hq _ I)
  | true=>exact notIn_str (by rw[show(⟨[c].toArray⟩:Str)=⟨#[c]⟩from rfl,J];simpa using hq _ I)
 | ref r =>
  simp only at h
  cases hs:st[r]? with
  | none=>rw[hs]at h;cases h
  | some o =>
   rw[hs]at h
   cases o with
   | lst l =>
    simp only at h
    cases e:ny st a l with
    | none=>rw[e]at h;cases h
    | some w =>
     rw[e]at h
     cases h
     obtain⟨ys,e1,d⟩:=R.addr hs
     have ey:=hb.refE;subst ey
     cases ry
     obtain⟨its,rv,t,_⟩:=I.list (SqL.of e1)
     obtain⟨f,h1,h2⟩:=bs4 I hK R ha G d rv e (A:=X.A.in1) hr.in1
     refine⟨rfl,λ Q hq=>?_⟩
     cases neg with
     | false=>exact SeqAt.in_listAt f t.isList h1 (by rw[h2];exact hq _ I)
     | true=>exact SeqAt.notIn_listAt f t.isList h1 (by rw[h2];exact hq _ I)
   | dic l =>
    simp only at h
    split at h
    case isFalse=>exact fb h
    rename_i a0
    cases h
    obtain⟨k,hk⟩:=qQ a0
    obtain⟨kvs,e1,d⟩:=R.obj r _ hs
    have ey:=hb.refE;subst ey
    cases ry
    have ex:=aq7 hk ha;subst ex
    have ez:(mF a l).isSome=(ar0 kvs k).isSome:=by
     rcases d.val zW hk with⟨q1,q2⟩|⟨_,_,q1,q2,_⟩<;>rw[q1,q2]<;>rfl
    refine⟨rfl,λ Q hq=>?_⟩
    rw[ez]at hq
    cases neg with
    | false=>exact co7 (aC3 hr) I (aR0.k e1) G hq
    | true=>exact bE2 (aC3 hr) I (aR0.k e1) G hq
   | ro l=>exact fb h
   | ins c l=>exact fb h
   | dicF l=>exact fb h
 | _=>exact fb h
theorem cb5 {st }(h:DV.z0 .le a b st=.ok d y):∃ i j,a=.int i/\b=.int j:=by
 cases a with
 | int i =>
  (cases b with
  | int j=>exact⟨i,j,rfl,rfl⟩
  | _=>exact fb h)
 | _=>exact fb h
theorem ax5 (h:DV.bj4 a=some (i,x)):a=.tup [.int i,.str x]:=by
 unfold DV.bj4 at h
 split at h
 .cases h;rfl
 .cases h
theorem bi5 {st }(h:DV.cd8 f a b st=.ok d z):∃ i x j y,a=.tup [.int i,.str x]/\b=.tup [.int j,.str y]:=by
 unfold DV.cd8 at h
 split at h
 .rename_i i x j y e1 e2
  exact⟨i,x,j,y,ax5 e1,ax5 e2⟩
 .exact fb h
theorem ord_inv {st }(ho:op=.lt\/op=.gt\/op=.ge)(h:DV.z0 op a b st=.ok d z):(∃ i j,a=.int i/\b=.int j)\/∃ i x j y,a=.tup [.int i,.str x]/\b=.tup [.int j,.str y]:=by
 rcases ho with rfl|rfl|rfl <;>
 (cases a with
 | int i =>
  (cases b with
  | int j=>exact .inl ⟨i,j,rfl,rfl⟩
  | _=>exact fb h)
 | tup l =>
  (cases b with
  | tup m=>first|exact .inr (bi5 h)|exact fb h
  | _=>exact fb h)
 | _=>exact fb h)
section
variable {pins:yA} {sh:ai} {W:St} {H:Hp} {C:Nat->Addr} {st:lX}
end
theorem aZ4 (hK:X.K=Γ.K)(hr:Room (mB+1) X.A) op :OpR X (cU (ao7 op)) (rOp Γ (DV.z0 op)):=by
 intro G s W H x y v u Q I Y Z h
 obtain⟨C,st,a,b,d,J,R,ha,hb,na,nb,Cc,q⟩:=h
 cases op with
 | eq =>
  have Cc:DV.eqM a b st=.ok d J:=Cc
  unfold DV.eqM at Cc
  cases e:mw st mB a b with
  | none=>rw[e]at Cc;cases Cc
  | some z =>
   rw[e]at Cc;cases Cc
   exact(bb4 I hK R _ a b x y v u X.A z e ha hb Y Z (hr.mono (by lia))).2.rc X.prog X.w X.xe _ ⟨.bl z,H,I,rfl,q.here R rfl RV.blI⟩
 | ne =>
  have Cc:(match mw st mB a b with|some r=>.ok (.bl (!r)) st|none=>.bad:mf lY)=.ok d J:=Cc
  cases e:mw st mB a b with
  | none=>rw[e]at Cc;cases Cc
  | some z =>
   rw[e]at Cc;cases Cc
   exact(bb4 I hK R _ a b x y v u X.A z e ha hb Y Z (hr.mono (by omega))).2.ne X.prog X.w X.xe _ ⟨.bl (!z),H,I,rfl,q.here R rfl RV.blI⟩
 | lt =>
  rcases ord_inv (.inl rfl) Cc with⟨i,j,rfl,rfl⟩|⟨i,x0,j,y0,rfl,rfl⟩
  .cases Cc
   have ex:=ha.intE;have ey:=hb.intE;subst ex;subst ey
   exact cg1 G s W H _ _ v u Q I Y Z ⟨_,_,rfl,rfl,q.here R rfl RV.blI⟩
  .exact fb Cc
 | le =>
  obtain⟨i,j,rfl,rfl⟩:=cb5 Cc
  cases Cc
  have ex:=ha.intE;have ey:=hb.intE;subst ex;subst ey
  exact ce8 G s W H _ _ v u Q I Y Z ⟨_,_,rfl,rfl,q.here R rfl RV.blI⟩
 | gt =>
  rcases ord_inv (.inr (.inl rfl)) Cc with⟨i,j,rfl,rfl⟩|⟨i,x0,j,y0,rfl,rfl⟩
  .cases Cc
   have ex:=ha.intE;have ey:=hb.intE;subst ex;subst ey
   exact ci6 G s W H _ _ v u Q I Y Z ⟨_,_,rfl,rfl,q.here R rfl RV.blI⟩
  .exact fb Cc
 | ge=>exact fb Cc
 | isin =>
  have Cc:=Cc
  obtain⟨z,s1,e1,e2⟩:=aa0 Cc
  obtain⟨rfl,w⟩:=br6 hK hr false I Y Z R ha hb e1
  cases e2
  exact w _ λ s' I'=>⟨.bl z,H,I',rfl,q.here R rfl RV.blI⟩
 | notin =>
  have Cc:=Cc
  obtain⟨z,s1,e1,e2⟩:=aa0 Cc
  obtain⟨rfl,w⟩:=br6 hK hr true I Y Z R ha hb e1
  cases e2
  exact w _ λ s' I'=>⟨.bl (!z),H,I',rfl,q.here R rfl RV.blI⟩
theorem aI4 (h:RVL Γ C H l y)(e:((mW l.length i).bind λ j=>l[j]?)=some d):∃ v,atI y i=some v/\RV Γ C H d v:=by
 cases hj:mW l.length i with
 | none=>rw[hj]at e;cases e
 | some j =>
  rw[hj]at e
  obtain⟨v,e1,e2⟩:=h.get (e)
  refine⟨v,?_,e2⟩
  unfold atI
  have:ixN y.length i=some j:=by rw[h.length];exact hj
  rw[this];exact e1
theorem aF0 {l:List lY}(e:((mW l.length i).bind λ j=>l[j]?)=some d):d∈l:=by
 cases hj:mW l.length i with
 | none=>rw[hj]at e;cases e
 | some j=>rw[hj]at e;exact aN (e)
theorem ch3 (hK:X.K=Γ.K)(hu:X.A.units+2<cLine):IxR X (rOp Γ DV.ixM):=by
 intro G Cc J s W H x y v u Q I Z ry h hs
 obtain⟨C,st,a,b,d,a2,R,ha,hb,na,nb,z,q⟩:=h
 unfold DV.ixM at z
 cases a with
 | tup l =>
  cases b with
  | int i =>
   simp only at z
   split at z
   .rename_i d' e
    cases z
    obtain⟨p,xs,rfl,h1,d1⟩:=ha.tupE
    have Y:=hb.intE;subst Y
    obtain⟨w,e1,e2⟩:=aI4 d1 e
    unfold l9 at na
    exact bz3 hK G Cc J s W H _ _ v u Q I Z ry ⟨p,xs,i,w,rfl,rfl,h1,e1,q.here R (aa5.mp na _ (aF0 e)) e2⟩ hs
   .exact fb z
  | _=>exact fb z
 | str l =>
  cases b with
  | int i =>
   simp only at z
   split at z
   .rename_i c e
    cases z
    have hl:=ha.strL
    have ex:=ha.strE;have Y:=hb.intE;subst ex;subst Y
    exact ix_str G Cc J s W H _ _ v u Q I Z ry ⟨⟨l.toArray⟩,i,c,rfl,rfl,by show l.toArray.size<=_;rw[aq];exact am hl zN,e,q.here R rfl (RV.strI (by simp;decide))⟩ hs
   .exact fb z
  | _=>exact fb z
 | ref r =>
  have ex:=ha.refE;subst ex
  simp only at z
  cases hsr:st[r]? with
  | none=>rw[hsr]at z;cases z
  | some o =>
   rw[hsr]at z
   cases o with
   | lst l =>
    cases b with
    | int i =>
     simp only at z
     split at z
     .rename_i d' e
      cases z
      have Y:=hb.intE;subst Y
      obtain⟨xs,e1,d1⟩:=R.addr hsr
      obtain⟨w,e2,e3⟩:=aI4 d1 e
      have wf:=R.wf _ _ hsr
      unfold mn at wf
      exact aL5 hK G Cc J s W H _ _ v u Q I Z ry ⟨C r,xs,i,w,rfl,rfl,SqL.of e1,e2,q.here R (aa5.mp wf _ (aF0 e)) e3⟩ hs
     .exact fb z
    | _=>exact fb z
   | ro l =>
    cases b with
    | int i =>
     simp only at z
     split at z
     .rename_i d' e
      cases z
      have Y:=hb.intE;subst Y
      obtain⟨xs,e1,d1⟩:=R.obj _ _ hsr
      obtain⟨w,e2,e3⟩:=aI4 d1 e
      have wf:=R.wf _ _ hsr
      unfold mn at wf
      exact aL5 hK G Cc J s W H _ _ v u Q I Z ry ⟨C r,xs,i,w,rfl,rfl,e1.1,e2,q.here R (aa5.mp wf _ (aF0 e)) e3⟩ hs
     .exact fb z
    | _=>exact fb z
   | dic l =>
    simp only at z
    split at z
    case isFalse=>exact fb z
    rename_i a0
    obtain⟨k,hk⟩:=qQ a0
    obtain⟨kvs,e1,d1⟩:=R.obj r _ hsr
    have Y:=aq7 hk hb;subst Y
    cases Z
    rcases d1.val zW hk with⟨q1,_⟩|⟨e,v',q1,q2,q3,q4⟩
    .rw[q1]at z;cases z
    .rw[q1]at z
     cases z
     have wf:=R.wf _ _ hsr
     unfold mn at wf
     rw[ak]at wf
     have g:aR0 H (C r) (kV k) (some v'):=by rw[<-q2];exact aR0.k e1
     exact tail_any (aE1 I g) PySem.F.slot_dict_getitem.lookup (bf5 hu I g ry λ w' s' I' a1=>⟨v',H,I',a1,q.here R (aa5.mp wf.2 _ q4) q3⟩) hs
   | ins c l=>cases b<;>cases z
   | dicF l=>cases b<;>cases z
 | _=>cases b<;>cases z
theorem aW0 n d i :HT.sIx n d (some i)=nq n i:=by
 show(if i<0 then(i+(n)).toNat else min i.toNat n)=_
 unfold nq
 by_cases h:i<0
 .rw[if_pos h,if_neg (by lia)]
 .rw[if_neg h,if_pos (by lia)]
theorem bt5 (h:RVL Γ C H l y) Cc z :RVL Γ C H (mR l Cc z) (aO7 y Cc z):=by
 unfold mR aO7
 have e1:HT.sIx y.length 0 Cc=nu l.length Cc:=by
  cases Cc with
  | none=>rfl
  | some i=>rw[aW0,h.length];rfl
 have e2:HT.sIx y.length y.length z=nR l.length z:=by
  cases z with
  | none=>exact h.length
  | some i=>rw[aW0,h.length];rfl
 rw[e1,e2]
 exact(h.drop _).take _
theorem aK8 :∀ d∈mR l y h,d∈l:=λ d hd=>List.mem_of_mem_drop (i4 hd)
theorem br1 (l:List α) y h :(mR l y h).length<=l.length:=by
 unfold mR
 rw[bG,fj]
 lia
theorem cj7 y z n :bJ y z 1 n=(aH (nR n z - nu n y)).map (nu n y+·):=by
 rw[<-sliceRange_one]
 unfold bJ
 have cl:∀ i:Int,max 0 (min (if i<0 then i+(n)else i) (n))=((nq n i)):=λ i=>by
  unfold nq
  by_cases h:i<0
  .rw[if_pos h,if_neg (by omega)];omega
  .rw[if_neg h,if_pos (by omega)];omega
 simp only[if_true]
 cases y<;>cases z<;>simp only[cl,nR]<;>rfl
theorem aO1 {l:List Nat}:∀ a k ,a+k<=l.length->((aH k).map (a+·)).filterMap (λ x=>l.toArray[x]?)=(l.drop a).take k
 | a,0,_=>by simp
 | a,k+1,h=>by
  rw[fR,cM,iK,aO1 a k (by lia)]
  have hk:a+k<l.length:=by lia
  rw[List.take_add_one,List.getElem?_drop]
  simp[hk]
theorem aT9 l y h :fM ⟨l.toArray⟩ y h=⟨(mR l y h).toArray⟩:=by
 unfold fM
 have hn:(⟨l.toArray⟩:Str).length=l.length:=by show l.toArray.size=_;simp
 rw[hn,cj7]
 have hb:nR l.length h<=l.length:=by
  cases h with
  | none=>exact aj _
  | some i=>show nq l.length i<=_;unfold nq;split<;>lia
 have ha:nu l.length y<=l.length:=by
  cases y with
  | none=>exact dZ _
  | some i=>show nq l.length i<=_;unfold nq;split<;>lia
 unfold mR
 generalize nR l.length h=b at *
 generalize nu l.length y=a at *
 by_cases hc:((1:Int)==1&&((aH (b - a)).map (a+·)).length==l.length)=true
 .rw[if_pos hc]
  have:=by simpa using hc
  have h0:a=0\/l.length=0:=by lia
  rcases h0 with h0|h0
  .subst h0
   rw[this];simp
  .have:=cI.mp h0
   subst this;simp
 .rw[if_neg hc]
  by_cases hab:a<=b
  .have e:=aO1 (l:=l) a (b - a) (by omega)
   rw[e]
  .rw[show b - a=0 by lia];simp
def rSl (Γ:Gm):V->Option Int->Option Int->Hp->VK->Prop:=λ x lo hi H Q=>∃ C s a d s',Rp Γ C H s/\RV Γ C H a x/\a.bnd s.length=true/\nT a lo hi s=.ok d s'/\ae0 Γ C s H d s' Q
theorem cg8 (hK:X.K=Γ.K):SlR X (rSl Γ):=by
 intro y s W H x v vl vu J G sl Q I Y hs Z pu h
 obtain⟨C,st,a,d,a0,R,ha,na,Cc,q⟩:=h
 unfold nT at Cc
 cases a with
 | tup l =>
  cases Cc
  obtain⟨p,xs,⟨rfl,z1⟩,h1,d1⟩:=ha.tupZ
  unfold l9 at na
  refine by2 hK y s W H _ v vl vu J G sl Q I Y hs Z pu ⟨p,xs,rfl,h1,λ t H' e ht hn=>?_⟩
  obtain⟨g,r'⟩:=R.same e
  have d2:=bt5 (RVL.mono g _ _ na d1) J G
  refine q _ _ _ g (aj _) (by unfold l9;exact aK6 na aK8) (RV.tupC ht (λ z=>?_) d2) r'
  rcases hn with hn|⟨rfl,ex⟩
  .exact hn
  .rw[ex]
   refine e _ _ (z1 ?_)
   have hl:(mR l J G).length=l.length:=by rw[<-d2.length,ex,d1.length]
   rwa [be4 hl]at z
 | str l =>
  cases Cc
  have hl:=ha.strL
  have ex:=ha.strE;subst ex
  refine bT5 y s W H _ v vl vu J G sl Q I Y hs Z pu ⟨_,rfl,by show l.toArray.size<=_;rw[aq];exact am hl zN,?_⟩
  rw[aT9]
  exact q.here R rfl (RV.strI (am (br1 l J G) hl))
 | ref r =>
  have ex:=ha.refE;subst ex
  simp only at Cc
  cases hsr:st[r]? with
  | none=>rw[hsr]at Cc;cases Cc
  | some o =>
   rw[hsr]at Cc
   cases o with
   | lst l =>
    obtain⟨rfl,rfl⟩:=qo Cc
    obtain⟨xs,e1,d1⟩:=R.addr hsr
    have wf:=R.wf _ _ hsr
    unfold mn at wf
    exact bn8 hK y s W H _ v vl vu J G sl Q I Y hs Z pu ⟨C r,xs,rfl,SqL.of e1,λ p hp=>q.alloc R (bt5 d1 J G) (aK6 wf aK8) hp⟩
   | _=>exact fb Cc
 | _=>exact fb Cc
variable {Γ:Gm} {X:Cx}
def rCl (Γ:Gm)(f:List lY->lX->mf lY):List V->Hp->VK->Prop:=λ xs H Q=>∃ C s l d s',Rp Γ C H s/\RVL Γ C H l xs/\lZ s.length l=true/\f l s=.ok d s'/\ae0 Γ C s H d s' Q
theorem RVL.one (h:RVL Γ C H [d] y):∃ x,y=[x]/\RV Γ C H d x:=by
 obtain⟨x,r,rfl,Cc,z⟩:=h.uncons
 rw[z.unnil];exact⟨x,rfl,Cc⟩
noncomputable def biN:nj->Option (String×Nat)
 | .len=>some ("len",1)|.abs=>some ("abs",1)|.min2=>some ("min",2)|_=>none
theorem qc:∀ {l} {is},m7 l=some is->l=is.map DV.D.int
 | [],is,h=>by unfold m7 at h;cases h;rfl
 | d::l,is,h=>by
  cases d with
  | int i =>
   have h:(m7 l).map (i::·)=some is:=h
   cases e:m7 l with
   | none=>rw[e]at h;cases h
   | some m=>rw[e]at h;cases h;rw[qc e];rfl
  | _=>cases h
theorem aA3:∀ {l} {is},nU l=some is->l=is.map DV.D.bl
 | [],is,h=>by unfold nU at h;cases h;rfl
 | d::l,is,h=>by
  cases d with
  | bl i =>
   have h:(nU l).map (i::·)=some is:=h
   cases e:nU l with
   | none=>rw[e]at h;cases h
   | some m=>rw[e]at h;cases h;rw[aA3 e];rfl
  | _=>cases h
theorem RVL.ints :∀ {is:List Int} {y},RVL Γ C H (is.map DV.D.int) y->y=is.map V.int
 | [],_,h=>h.unnil
 | i::is,_,h=>by
  obtain⟨x,r,rfl,Cc,z⟩:=RVL.uncons h
  rw[Cc.intE,RVL.ints z];rfl
theorem RVL.bls :∀ {is:List Bool} {y},RVL Γ C H (is.map DV.D.bl) y->y=is.map V.bl
 | [],_,h=>h.unnil
 | i::is,_,h=>by
  obtain⟨x,r,rfl,Cc,z⟩:=RVL.uncons h
  rw[Cc.blE,RVL.bls z];rfl
theorem aT6 (h:ol f l s=.ok d s'):∃ a,l=[a]/\f a s=.ok d s':=by
 match l,h with
 | [a],h=>exact⟨a,rfl,h⟩
 | [],h=>exact fb h
 | _::_::_,h=>exact fb h
theorem bA7 (G:X.K=Γ.K)(hc:X.calm=true)(hn:biN b=some (J,k)):ac2 X (.builtin J) (rCl Γ (n4 b)):=by
 intro y s W H xs us Q I r h
 obtain⟨C,st,l,d,Cc,R,hl,Z,z,q⟩:=h
 cases b with
 | len =>
  cases hn
  have z:=z
  obtain⟨a,rfl,hg⟩:=aT6 z
  clear z
  obtain⟨x,rfl,hx⟩:=hl.one
  unfold DV.bB8 at hg
  cases a with
  | tup l =>
   cases hg
   obtain⟨p,ys,rfl,Y,d1⟩:=hx.tupE
   refine am2 G y s W H _ us Q I r ⟨p,ys,rfl,.inr Y,?_⟩
   rw[d1.length];exact q.here R rfl RV.intI
  | str l =>
   cases hg
   have hL:=hx.strL
   have e:=hx.strE;subst e
   refine aB0 y s W H _ us Q I r ⟨_,rfl,by show l.toArray.size<=_;rw[aq];exact am hL zN,?_⟩
   show Q (.int ((l.toArray.size))) H
   rw[aq]
   exact q.here R rfl RV.intI
  | ref n =>
   have e:=hx.refE;subst e
   simp only at hg
   cases hs:st[n]? with
   | none=>rw[hs]at hg;cases hg
   | some o =>
    rw[hs]at hg
    cases o with
    | lst l =>
     cases hg
     obtain⟨ys,e1,d1⟩:=R.addr hs
     refine am2 G y s W H _ us Q I r ⟨C n,ys,rfl,.inl (SqL.of e1),?_⟩
     rw[d1.length];exact q.here R rfl RV.intI
    | ro l =>
     cases hg
     obtain⟨ys,e1,d1⟩:=R.obj _ _ hs
     refine am2 G y s W H _ us Q I r ⟨C n,ys,rfl,.inl e1.1,?_⟩
     rw[d1.length];exact q.here R rfl RV.intI
    | dic l=>exact fb hg
    | ins c l=>exact fb hg
    | dicF l=>exact fb hg
  | _=>exact fb hg
 | abs =>
  cases hn
  have z:(match m7 l with|some [i]=>.ok (.int (if i<0 then -i else i)) st|_=>.bad:mf lY)=.ok d Cc:=z
  split at z
  .rename_i i e
   cases z
   have:=qc e;subst this
   have:=RVL.ints hl;subst this
   exact bn6 y s W H _ us Q I r ⟨i,rfl,q.here R rfl RV.intI⟩
  .exact fb z
 | min2 =>
  cases hn
  have z:(match m7 l with|some [a,b]=>.ok (.int (if b<a then b else a)) st|_=>.bad:mf lY)=.ok d Cc:=z
  split at z
  .rename_i a b e
   cases z
   have:=qc e;subst this
   have:=RVL.ints hl;subst this
   exact ba0 hc y s W H _ us Q I r ⟨_,_,rfl,q.here R rfl RV.intI⟩
  .exact fb z
 | _=>cases hn
theorem aN2:∀ j:Nat,j<=9->bo (toString (j:Int))=(⟨[48+j].toArray⟩):=by decide
theorem cb9:ac2 X (.type "int") (rCl Γ (n4 .int)):=by
 intro z s W H Z us Q I r h
 obtain⟨C,st,l,d,Cc,R,hl,Y,y,q⟩:=h
 have y:(match nU l with|some [b]=>.ok (.int (if b then 1 else 0)) st|some _=>.bad|none=>DV.aQ1 l st:mf lY)=.ok d Cc:=y
 split at y
 .rename_i b e
  cases y
  have:=aA3 e;subst this
  have:=RVL.bls hl;subst this
  exact aZ2 z s W H _ us Q I r (.inr ⟨b,rfl,q.here R rfl RV.intI⟩)
 .exact fb y
 .unfold DV.aQ1 at y
  split at y
  .rename_i c _ _
   split at y
   .rename_i hc
    cases y
    obtain⟨x,G,rfl,r1,J⟩:=hl.uncons
    cases(J)
    have:=r1.strE
    subst this
    obtain⟨u,rfl,t,rfl⟩:=qX r
    obtain⟨j,hj,rfl⟩:∃ j,j<=9/\c=48+j:=⟨c - 48,by omega,by omega⟩
    rw[(aN2 j hj).symm]
    refine PySem.W.KIN.call_num (by lia) (by lia) ⟨.int (j),H,I.tok _,⟨_,rfl⟩,?_⟩
    have:=q.here R rfl (RV.intI )
    rw[show 48+j - 48=j by lia]at this
    exact this
   .exact fb y
  .exact fb y
theorem bT1:ac2 X (.type "str") (rCl Γ (n4 .str)):=by
 intro J s W H xs us Q I r h
 obtain⟨C,st,l,d,G,R,hl,Y,y,q⟩:=h
 have y:DV.aW9 l st=.ok d G:=y
 unfold DV.aW9 at y
 split at y
 .rename_i i _
  split at y
  .rename_i Z
   cases y
   obtain⟨x,z,rfl,r1,Cc⟩:=hl.uncons
   cases(Cc)
   have:=r1.intE
   subst this
   obtain⟨u,rfl,t,rfl⟩:=qX r
   obtain⟨j,rfl⟩:∃ j:Nat,i=(j):=⟨i.toNat,by lia⟩
   have hj:j<=9:=by lia
   refine PySem.P.str_of_int ?_ ⟨.str ⟨[48+j].toArray⟩,H,I.tok _,⟨s.toks,?_⟩,?_⟩
   .have:(j:Int).natAbs.log2<=(j:Int).natAbs:=Nat.log2_le_self _
    lia
   .rw[<-aN2 j hj]
   .have:=q.here R rfl (RV.strI (by show 1<=mq;decide))
    rw[cz]at this
    exact this
  .exact fb y
 .rename_i w _
  cases y
  obtain⟨x,z,rfl,r1,Cc⟩:=hl.uncons
  cases(Cc)
  have e:=r1.strE
  subst e
  obtain⟨u,rfl,t,rfl⟩:=qX r
  refine PySem.P.str_of_str ⟨.str ⟨w.toArray⟩,H,I,⟨_,rfl⟩,?_⟩
  unfold lZ at Y
  exact q.here R rfl r1
 .exact fb y
noncomputable def ao8:Nat->String
 | 1 => "int" | 2 => "bool" | 3 => "str" | 4 => "tuple" | _ => "list"
theorem bA3 {K} k (hk:1<=k/\k<=5):cx K (.type "NoneType") (.type (ao8 k))=some false/\cx K (.type "bool") (.type (ao8 k))=some (k==1||k==2) /\
  cx K (.type "int") (.type (ao8 k))=some (k==1)/\cx K (.type "str") (.type (ao8 k))=some (k==3)/\cx K (.type "tuple") (.type (ao8 k))=some (k==4)/\cx K (.type "list") (.type (ao8 k))=some (k==5):=by
 obtain⟨y,z⟩:=hk
 rcases(by lia:k=1\/k=2\/k=3\/k=4\/k=5)with h|h|h|h|h<;>subst h<;>refine⟨?_,?_,?_,?_,?_,?_⟩<;>with_unfolding_all rfl
theorem aR1 {s}(I:Inv X y W H s)(G:SqT X.K H a Cc)(e:cx X.K (.type "tuple") c=some b)
  (h:∀ tk,Q (.bool b) { s with toks:=tk }):wpAny (model X.prog X.w) A (call (.builtin "isinstance") [.ref a,c]) Q E s:=by
 obtain⟨its,_,⟨o,g1,g2,_⟩,_⟩:=I.tuple G
 exact b7 jL I.kIn ⟨o,g1,g2⟩ e (λ z=>nomatch z) h
theorem bN2 (hK:X.K=Γ.K)(hk:1<=k/\k<=5):ac2 X (.builtin "isinstance") (λ J H Q=>∃ x,J=[x,.ty (ao8 k)]/\rCl Γ (ol (oA k)) [x] H Q):=by
 intro z s W H J us Q I r h
 obtain⟨x,rfl,C,st,l,d,y,R,hl,nl,Cc,q⟩:=h
 obtain⟨a,rfl,hg⟩:=aT6 Cc
 clear Cc
 obtain⟨u,w',rfl,r1,Z⟩:=bT4 r
 cases Z
 obtain⟨x',e',hx⟩:=hl.one
 cases e'
 obtain⟨Y,k1,k2,k3,k4,k5⟩:=bA3 k hk
 unfold oA at hg
 cases a with
 | non=>cases hg;have e:=hx.nonE;subst e;exact qG I r1 .non Y λ tk=>⟨.bl _,H,I.tok _,rfl,q.here R rfl RV.blI⟩
 | bl b=>cases hg;have e:=hx.blE;subst e;exact qG I r1 (.bl b) k1 λ tk=>⟨.bl _,H,I.tok _,rfl,q.here R rfl RV.blI⟩
 | int b=>cases hg;have e:=hx.intE;subst e;exact qG I r1 (.int b) k2 λ tk=>⟨.bl _,H,I.tok _,rfl,q.here R rfl RV.blI⟩
 | str b=>cases hg;have e:=hx.strE;subst e;exact qG I r1 (.str _) k3 λ tk=>⟨.bl _,H,I.tok _,rfl,q.here R rfl RV.blI⟩
 | tup l =>
  cases hg
  obtain⟨p,ys,rfl,G,d1⟩:=hx.tupE
  cases r1
  rw[<-hK]at G
  exact aR1 I G k4 λ tk=>⟨.bl _,H,I.tok _,rfl,q.here R rfl RV.blI⟩
 | ref n =>
  have e:=hx.refE;subst e
  have hg:(match st[n]? with|some (.lst _)=>.ok (.bl (k==5)) st|_=>.bad:mf lY)=.ok d y:=hg
  cases hs:st[n]? with
  | none=>rw[hs]at hg;cases hg
  | some o =>
   rw[hs]at hg
   cases o with
   | lst l =>
    cases hg
    obtain⟨ys,e1,d1⟩:=R.addr hs
    exact qG I r1 (.lst e1) k5 λ tk=>⟨.bl _,H,I.tok _,rfl,q.here R rfl RV.blI⟩
   | _=>exact fb hg
 | _=>exact fb hg
variable {X:Cx}
noncomputable def sgV (x:List Nat):List V:=x.map λ c=>.str ⟨#[c]⟩
theorem bz6 {y:yG}(hl:vs.length=y.length)(h:∀(i:Nat) (x:V) (u:Value),vs[i]?=some x->y[i]?=some u->RelV x u):Vals vs y:=by
 induction vs generalizing y with
 | nil=>cases y with
  | nil=>exact .nil
  | cons _ _=>cases hl
 | cons v vs ih=>cases y with
  | nil=>cases hl
  | cons a y=>exact .cons (h 0 v a rfl rfl) (ih (by simpa using hl) λ i x u e1 e2=>h (i+1) x u e1 e2)
theorem ar5 {y:yJ}(h:kb (SignAt ⟨x.toArray⟩) y x.length):Vals (sgV x) y.toList:=by
 have hl:(sgV x).length=y.toList.length:=by unfold sgV;rw[ax];simpa using h.1.symm
 refine bz6 hl λ i v u e1 e2=>?_
 obtain⟨c,t,z,Cc⟩:=h.2 i u (by rw[<-iJ];exact e2)
 unfold sgV at e1
 rw[ay]at e1
 have z:=by simpa using z
 rw[z]at e1
 cases e1
 exact⟨t,Cc⟩
theorem aG5 (hc:X.calm=true):ac2 X (.type "tuple") (λ J H Q=>∃ x,J=[.str ⟨x.toArray⟩]/\x.length<=mq/\∀ l,H l=none->Q (.ref l) (upd H l (.tup (sgV x)))):=by
 intro y s W H J us Q I r h
 obtain⟨x,rfl,hl,q⟩:=h
 obtain⟨u,rfl,Y⟩:=qX r
 obtain⟨t,rfl⟩:=Y
 have hz:(sgV x).length<=aO:=by unfold sgV;rw[ax];exact am hl zN
 refine call_tuple_str (I.ok.hd hc) _ t (λ h' tk z kp Cc=>?_) (by skip;rw[aq];exact am hl zN)
 have Cc:=by simpa using Cc
 have rv:=ar5 Cc
 have G:=I.kept (t':=tk) kp
 have I2 :=
  G.laid (t':=tk) (λ b o e=>af _ e) (aj _) (show ab9 X.prog X.w _ _ _ (.tup (sgV x))from⟨hz,z.toList,rv,ko _ _⟩)
 exact⟨.ref h'.objs.size,_,I2,rfl,q _ (G.hok.fresh (aj _))⟩
theorem aP8 (hc:X.calm=true):ac2 X (.type "list") (λ G H Q=>∃ x,G=[.str ⟨x.toArray⟩]/\x.length<=mq/\∀ l,H l=none->Q (.ref l) (upd H l (.lst (sgV x)))):=by
 intro Cc s W H G us Q I r h
 obtain⟨x,rfl,hl,q⟩:=h
 obtain⟨u,rfl,J⟩:=qX r
 obtain⟨t,rfl⟩:=J
 have hz:(sgV x).length<=aO:=by unfold sgV;rw[ax];exact am hl zN
 refine call_list_str (I.ok.hd hc) _ t (λ h' tk y Y kp e z=>?_) (by skip;rw[aq];exact am hl zN)
 have z:=by simpa using z
 have rv:=ar5 z
 exact⟨.ref s.heap.objs.size,_,I.laid kp (aj _) (show ab9 X.prog X.w _ h' _ (.lst (sgV x))from⟨hz,y.toList,Y,rv,e⟩),rfl,q _ (I.hok.fresh (aj _))⟩
section
variable {Γ:Gm} {C C':Nat->Addr} {H H' H1 H2 H3:Hp} {clos:yB} {s s':lX}
theorem zH (hc:Cells clos H)(e:H a=some u)(hu:∀ o,u≠.frz o (.own a)):isC clos a≠true:=λ z=>by
 obtain⟨o,v,q,_⟩:=hc.at z
 rw[e]at q;cases q;exact hu o rfl
theorem SqT.dropC {K}(hc:Cells clos H)(h:SqT K H a y):SqT K (ab6 clos H) a y:=by
 rcases h with(h|⟨o,h⟩)|h
 .exact .inl (.inl (by rw[ab6.ne (zH hc h (λ _ z=>by cases z))];exact h))
 .exact .inl (.inr ⟨o,by rw[ab6.ne (zH hc h (λ _ z=>by cases z))];exact h⟩)
 .exact .inr h
theorem SqL.dropC {K}(hc:Cells clos H)(h:SqL K H a y):SqL K (ab6 clos H) a y:=by
 rcases h with(h|⟨o,h⟩)|h
 .exact .inl (.inl (by rw[ab6.ne (zH hc h (λ _ z=>by cases z))];exact h))
 .exact .inl (.inr ⟨o,by rw[ab6.ne (zH hc h (λ _ z=>by cases z))];exact h⟩)
 .exact .inr h
theorem SqF.dropC {K}(hc:Cells clos H)(h:SqF K H a y):SqF K (ab6 clos H) a y:=by
 refine⟨SqL.dropC hc h.1,λ H2 k=>?_⟩
 have hk:Kp H (λ b=>if isC clos b=true then H b else H2 b):=λ b o e f=>by
  by_cases z:isC clos b=true
  .show(if isC clos b=true then H b else H2 b)=_;rw[if_pos z];exact e
  .show(if isC clos b=true then H b else H2 b)=_
   rw[if_neg z]
   exact k b o (by rw[ab6.ne z];exact e) f
 have q:=h.2 _ hk
 have at_:∀ u,(if isC clos a=true then H a else H2 a)=some u->(∀ o,u≠.frz o (.own a))->H2 a=some u:=λ u e hu=>by
  by_cases z:isC clos a=true
  .rw[if_pos z]at e
   exact absurd z (zH hc e hu)
  .rw[if_neg z]at e;exact e
 rcases q with(q|⟨o,q⟩)|q
 .exact .inl (.inl (at_ _ q (λ _ z=>by cases z)))
 .exact .inl (.inr ⟨o,at_ _ q (λ _ z=>by cases z)⟩)
 .exact .inr q
mutual
theorem RV.dropC (hc:Cells clos H):∀(d:lY) (v:V),d.ncl=true->RV Γ C H d v->RV Γ C (ab6 clos H) d v
 | .non,_,_,h=>by unfold RV at h ⊢;exact h
 | .bl _,_,_,h=>by unfold RV at h ⊢;exact h
 | .int _,_,_,h=>by unfold RV at h ⊢;exact h
 | .str _,_,_,h=>by unfold RV at h ⊢;exact h
 | .tup l,_,n,h=>by
  unfold RV at h ⊢
  unfold oB at n
  obtain⟨a,y,e,q,r⟩:=h
  exact⟨a,y,e,⟨SqT.dropC hc q.1,λ z=>by rw[ab6.ne (zH hc (q.2 z) (λ _ z=>by cases z))];exact q.2 z⟩,RVL.dropC hc l y n r⟩
 | .ref k,_,_,h=>by unfold RV at h ⊢;exact h
 | .fn _,_,_,h=>by unfold RV at h ⊢;exact h
 | .clo id cs,_,n,h=>by unfold oB at n;cases n
theorem RVL.dropC (hc:Cells clos H):∀(l:List lY) (y:List V),nA l=true->RVL Γ C H l y->RVL Γ C (ab6 clos H) l y
 | [],_,_,h=>by unfold RVL at h ⊢;exact h
 | d::l,_,n,h=>by
  unfold nA at n
  rw[ak]at n
  obtain⟨x,r,e,Cc,z⟩:=h.uncons
  subst e
  exact .cons (RV.dropC hc d x n.1 Cc) (RVL.dropC hc l r n.2 z)
end
theorem RVD.dropC (hc:Cells clos H):∀ l kvs ,nA (l.map (·.2))=true->RVD y Γ C H l kvs->RVD y Γ C (ab6 clos H) l kvs
 | [],_,_,h=>h
 | (d,e)::l,_,n,h=>by
  obtain⟨k,v,r,e1,e2,Cc,z⟩:=h
  rw[aS]at n
  unfold nA at n
  rw[ak]at n
  exact⟨k,v,r,e1,e2,RV.dropC hc e v n.1 Cc,RVD.dropC hc l r n.2 z⟩
theorem RO.dropC (hc:Cells clos H)(h:RO Γ C H a o)(n:o.ncl=true):RO Γ C (ab6 clos H) a o:=by
 cases o with
 | lst l =>
  obtain⟨y,e,r⟩:=h
  exact⟨y,by rw[ab6.ne (zH hc e (λ _ z=>by cases z))];exact e,RVL.dropC hc l y n r⟩
 | ro l =>
  obtain⟨y,e,r⟩:=h
  exact⟨y,SqF.dropC hc e,RVL.dropC hc l y n r⟩
 | dic l =>
  obtain⟨y,e,r⟩:=h
  exact⟨y,by rw[ab6.ne (zH hc e (λ _ z=>by cases z))];exact e,RVD.dropC hc l y n r⟩
 | dicF l =>
  obtain⟨ob,y,e,r⟩:=h
  exact⟨ob,y,by rw[ab6.ne (zH hc e (λ _ z=>by cases z))];exact e,RVD.dropC hc l y n r⟩
 | ins c l =>
  obtain⟨Cc,J,gs,Y,G,e,r⟩:=h
  exact⟨Cc,J,gs,Y,G,by rw[ab6.ne (zH hc e (λ _ z=>by cases z))];exact e,RVD.dropC hc l gs n r⟩
theorem TabsH.dropC (hc:Cells clos H)(h:TabsH T H):TabsH T (ab6 clos H):=λ y hy=>by
 obtain⟨ps,e,t,c⟩:=h y hy
 refine⟨ps,by rw[ab6.ne (zH hc e (λ _ z=>by cases z))];exact e,t,λ pos G q=>?_⟩
 obtain⟨Cc,e1,e2⟩:=c pos G q
 exact⟨Cc,e1,by rw[ab6.ne (zH hc e2 (λ _ z=>by unfold zX at z;cases z))];exact e2⟩
theorem Rp.dropC (hc:Cells clos H)(r:Rp Γ C H s)(n:s.all oC=true):Rp Γ C (ab6 clos H) s :=
 ⟨r.inj,λ i o e=>RO.dropC hc (r.obj i o e) (aZ.mp n o (aN e)),r.wf,TabsH.dropC hc r.tab⟩
theorem Gr.caught {kd:Str->Option bV}(y:Caught clos N kd W H1 H2)(g:Gr C s H2 C' s' H3):Gr C s H1 C' s' (ab6 clos H3):=by
 have h:∀ b o,H1 b=some o->isC clos b≠true:=λ b o e z=>by rw[y.free b z]at e;cases e
 have up:∀ b o,H1 b=some o->H2 b=some o:=λ b o e=>by rw[y.ne b (h b o e)];exact e
 refine⟨⟨g.w.map,λ b o e f=>?_⟩,g.le,λ i Y Cc=>?_,g.kd,λ b e=>?_,λ b o kvs e=>?_,λ b o e G J=>?_⟩
 .rw[ab6.ne (h b o e)];exact g.w.kp b o (up b o e) f
 .have:=g.new i Y Cc
  by_cases z:isC clos (C' i)=true
  .exact y.free _ z
  .rw[<-y.ne _ z];exact this
 .cases q:H1 b with
  | none=>exact absurd q e
  | some o =>
   rw[ab6.ne (h b o q)]
   exact g.st b (by rw[up b o q];simp)
 .rw[ab6.ne (h b _ e)];exact g.fz b o kvs (up b _ e)
 .rw[ab6.ne (h b o e)];exact g.fr b o (up b o e) G J
theorem aZ5 (h:∀ b,isC clos b=true->H' b=none):ae2 H' (Put clos H H'):=λ b o e=>by
 rw[Put.ne (λ z=>by rw[h b z]at e;cases e)];exact e
theorem Gr.put (hc:Cells clos H)(y:∀ b,isC clos b=true->H' b=none)(hK:∀ b o,Γ.K.lookup b=some o->H b=none)(R':Rp Γ C' H' s')(g:Gr C s (ab6 clos H) C' s' H'):Gr C s H C' s' (Put clos H H'):=by
 refine⟨⟨g.w.map,λ b o e f=>?_⟩,g.le,λ i h1 G=>?_,g.kd,λ b e=>?_,λ b o kvs e=>?_,λ b o e Y Z=>?_⟩
 .by_cases z:isC clos b=true
  .rw[Put.cell z];exact e
  .rw[Put.ne z];exact g.w.kp b o (by rw[ab6.ne z];exact e) f
 .have hd:=g.new i h1 G
  by_cases z:isC clos (C' i)=true
  .have hg:=y _ z
   obtain⟨o,J⟩:∃ o,s'[i]?=some o:=⟨s'[i],ag G⟩
   have h:=R'.obj i o J
   cases o with
   | lst l=>obtain⟨Cc,e,_⟩:=h;rw[hg]at e;cases e
   | ro l =>
    obtain⟨Cc,e,_⟩:=h
    rcases e.1 with(e|⟨_,e⟩)|⟨ob,its,n,e,_⟩
    .rw[hg]at e;cases e
    .rw[hg]at e;cases e
    .exact hK _ _ e
   | dic l=>obtain⟨Cc,e,_⟩:=h;rw[hg]at e;cases e
   | dicF l=>obtain⟨_,Cc,e,_⟩:=h;rw[hg]at e;cases e
   | ins _ _=>obtain⟨_,_,_,_,_,e,_⟩:=h;rw[hg]at e;cases e
  .rw[ab6.ne z]at hd;exact hd
 .by_cases z:isC clos b=true
  .rw[Put.cell z];exact e
  .rw[Put.ne z];exact g.st b (by rw[ab6.ne z];exact e)
 .by_cases z:isC clos b=true
  .rw[Put.cell z];exact e
  .rw[Put.ne z];exact g.fz b o kvs (by rw[ab6.ne z];exact e)
 .by_cases z:isC clos b=true
  .rw[Put.cell z];exact e
  .rw[Put.ne z];exact g.fr b o (by rw[ab6.ne z];exact e) Y Z
theorem aK9 (hT:TabsH T H)(nd:(T.map (·.1)).Nodup)(hm:(P,q)∈T)
  (go:∀(f:Addr) (H':Hp),aZ6 H H'->(∀ b,H b≠none->H' b≠none)->TabsH T H'->H f=none->(∃ pm J Y,H' f=some (ao9 f (bv "<lambda>" q params body scope (ad7 cells scope.names []) pm (.ref J) Y))/\H' J=some (zX J q))->Q (.ref f) H') :
  cm7 cells P q params body scope pos W H Q:=by
 obtain⟨ps,Z,ht,hc⟩:=hT _ hm
 refine⟨ps,Z,ht,λ hn J f pm Y n1 n2 ne=>?_,λ cv e=>?_⟩
 .have cP:J≠P:=λ z=>by rw[z,Z]at n1;cases n1
  have fP:f≠P:=λ z=>by rw[z,Z]at n2;cases n2
  have G:∀ b,b≠P->H b≠none->∀ o1 o2 o3,upd (upd (upd H P o1) J o2) f o3 b=H b:=λ b z1 z2 o1 o2 o3=>by
   rw[za λ z=>by subst z;exact z2 n2,za λ z=>by subst z;exact z2 n1,za z1]
  refine go f _ (λ b o d e=>?_) (λ b hb=>?_) (λ y hy=>?_) n2 ⟨pm,J,Y,zd,by rw[za ne,zd]⟩
  .rw[G b (λ z=>by subst z;rw[Z]at e;cases e;exact d _ rfl) (by rw[e];simp)];exact e
  .by_cases z:b=P
   .subst z;rw[za (bH fP),za (bH cP),zd];simp
   .rw[G b z hb];exact hb
  .by_cases z:y.1=P
   .have ey:=by
     have:∀(l:List (Addr×Str)),(l.map (·.1)).Nodup->y∈l->(P,q)∈l->y=(P,q):=by
      intro l
      induction l with
      | nil=>intro _ h;simp at h
      | cons a l ih =>
       intro hn h1 h2
       rw[aS,cJ]at hn
       rcases av.mp h1 with e1|h1<;>rcases av.mp h2 with e2|h2
       .rw[e1,e2]
       .exact absurd (by rw[<-e1,z];exact bw h2) hn.1
       .exact absurd (by rw[<-e2,<-z];exact bw (f:=(·.1)) h1) hn.1
       .exact ih hn.2 h1 h2
     exact this T nd hy hm
    subst ey
    refine⟨_,by rw[za (bH fP),za (bH cP),zd],?_,λ Cc cv e=>?_⟩
    .rw[ed];exact TriplesOk_snoc _ _ _ _ ht
    .rw[ed]at e
     rcases codeAmong_add _ ht e with e'|e'
     .obtain⟨c2,e1,e2⟩:=hc Cc cv e'
      exact⟨c2,e1,by rw[G c2 (λ z=>by subst z;rw[Z]at e2;unfold zX at e2;cases e2) (by rw[e2];simp)];exact e2⟩
     .exact⟨J,e',by rw[za ne,zd]⟩
   .obtain⟨qs,e1,e2,e3⟩:=hT y hy
    refine⟨qs,by rw[G y.1 z (by rw[e1];simp)];exact e1,e2,λ Cc cv e=>?_⟩
    obtain⟨c2,e4,e5⟩:=e3 Cc cv e
    exact⟨c2,e4,by rw[G c2 (λ z=>by subst z;rw[Z]at e5;unfold zX at e5;cases e5) (by rw[e5];simp)];exact e5⟩
 .obtain⟨J,e1,e2⟩:=hc pos cv e
  refine⟨J,e1,λ f pm Y n=>go f _ (.of ((ae2.refl H).new n)) (λ b hb=>by
   by_cases z:b=f
   .subst z;rw[zd];simp
   .rw[za z];exact hb) (hT.new n) n ⟨pm,J,Y,zd,?_⟩⟩
  rw[za (zu e2 n)];exact e2
theorem bI3 {K:ah}{body:yL}{h:yB}
  (S:LamScope N ps fr scope) (len:∀ vs H Q E,sp vs H Q E->vs.length=ps.length) (a5:cap.length=fr.length)
  (a1:∀(Z pm:Value) (c':Addr) (a0:Value) (us:yG),us.length=ps.length->d4 (cT name qual params body scope h .none .none Z pm none (.ref c') a0) ⟨us,[]⟩=pure (ps.zip us))
  (Y:∀(A:aX) (Cc:List Env) (s:ai) (H:Hp) (cd:Value) (vs:List V) (Q:VK),Room k (A.deeper (dF qual scope s.heap.objs.size f cd (aR (s.heap.objs.size+1) scope.names h)))->an8 H f name qual params body scope fr cap h->(∀ b o,K.lookup b=some o->H b=none)->sp vs H Q E0 ->
   ∃ t,PSs (aF1 P w K mg base N qual scope f cd h A Cc s H) body t/\t { nx:=λ _ H'=>(∀ b,isC h b=true->H' b=none)->Q .non (Put h H H'),rt:=λ v H'=>(∀ b,isC h b=true->H' b=none)->Q v (Put h H H') } (vs.map some++cap.map some) (ab6 h H)) :
  ClOk P w K mg base (k+1) (λ H=>an8 H f name qual params body scope fr cap h) f sp:=by
 refine⟨λ A Cc s H us vs Q hr G hR r a2=>?_⟩
 have hl:=len _ _ _ _ a2
 obtain⟨Z,pm,c',a0,h1,h2,h3,h4,h5,h6⟩:=id hR
 have a4:s.heap.NoLimit:=G.mod.nolimit.keeps λ b o e=>(G.bs b o e).1
 refine iC hr.depth (aj4 G.hok h1) rfl S.co S.gen rfl (al7 G.hok h2) ?_
 rw[a1 Z pm c' a0 us (by rw[<-r.length];exact hl)]
 refine au (ah7 S.kind (λ y hy=>?_) λ env he s1 x=>?_)
 .rcases S.par y.1 (eF (show(y.1,y.2)∈ps.zip us from hy)).1 with q|q
  .exact .inl q
  .exact .inr ⟨q,zS q⟩
 .subst he
  refine⟨a4.keeps x.toInCall.keep,codeAny_func ?_⟩
  obtain⟨t,ht,hq⟩:=Y A Cc s H (.ref c') vs Q (hr.deeper _) hR (λ b o e=>(G.bs b o (G.mod.kin b o e)).2) a2
  have I:=bc5 S hr.hd G hl a5 r h3 h4 h5 h6 x
  refine bU (ht [] s1 _ _ _ I hq) (λ fl s' hs=>?_) λ e s' hs=>hs.elim
  have fin:∀ {W':St} {H':Hp} {v:V} {u:Value},Inv (aF1 P w K mg base N qual scope f (.ref c') h A Cc s H) [] W' H' s'->RelV v u->((∀ b,isC h b=true->H' b=none)->Q v (Put h H H'))->CE Cc P w H s Q u s':=λ {W' H' v u} J rv q=>by
   obtain⟨un,a6⟩:=aT1 G.hok h3 G.frf J.base J.hok
   have a3:∀ b,isC h b=true->H' b=none:=λ b y=>by
    obtain⟨o,v,z,_⟩:=h3.at y
    exact(show Un (frs Cc) [] (ab6 h H) H' s.heap s'.heap from J.base).free b o (G.hok b _ z).1 (ab6.cell y) (by simp)
   exact⟨v,_,J.os,J.bare,un,a6,rv,q a3⟩
  cases fl with
  | ret u =>
   obtain⟨v,W',H',J,rv,q⟩:=hs
   exact fin J rv q
  | next =>
   obtain⟨W',H',J,q⟩:=hs
   exact fin (v:=V.non) (u:=Value.none) J rfl q
  | brk =>
   obtain⟨_,_,_,q⟩:=hs
   exact bM q
  | cont =>
   obtain⟨_,_,_,q⟩:=hs
   exact bM q
theorem bA9 {K:ah}{h:yB}
  (S:LamScope N ps fr scope) (len:∀ vs H Q E,sp vs H Q E->vs.length=ps.length) (a5:cap.length=fr.length)
  (a0:∀(pm:Value) (c':Addr) (Z:Value) (us:yG),us.length=ps.length->d4 (bv "<lambda>" qual params body scope h pm (.ref c') Z) ⟨us,[]⟩=pure (ps.zip us))
  (Y:∀(A:aX) (Cc:List Env) (s:ai) (H:Hp) (cd:Value) (vs:List V) (Q:VK),Room k (A.deeper (dF qual scope s.heap.objs.size f cd (aR (s.heap.objs.size+1) scope.names h)))->aA8 H f qual params body scope fr cap h->(∀ b o,K.lookup b=some o->H b=none)->sp vs H Q E0 ->
   ∃ t,PE (aF1 P w K mg base N qual scope f cd h A Cc s H) body t/\t (vs.map some++cap.map some) (ab6 h H) λ v H'=>(∀ b,isC h b=true->H' b=none)->Q v (Put h H H')) :
  ClOk P w K mg base (k+1) (λ H=>aA8 H f qual params body scope fr cap h) f sp:=by
 refine⟨λ A Cc s H us vs Q hr G hR r a1=>?_⟩
 have hl:=len _ _ _ _ a1
 obtain⟨pm,c',Z,h1,h2,h3,h4,h5,h6⟩:=id hR
 have a3:s.heap.NoLimit:=G.mod.nolimit.keeps λ b o e=>(G.bs b o e).1
 refine iZ hr.depth (aj4 G.hok h1) rfl S.co S.gen rfl (al7 G.hok h2) ?_
 rw[a0 pm c' Z us (by rw[<-r.length];exact hl)]
 refine au (ah7 S.kind (λ y hy=>?_) λ env he s1 x=>?_)
 .rcases S.par y.1 (eF (show(y.1,y.2)∈ps.zip us from hy)).1 with q|q
  .exact .inl q
  .exact .inr ⟨q,zS q⟩
 .subst he
  refine⟨a3.keeps x.toInCall.keep,i0 ?_⟩
  obtain⟨t,ht,hq⟩:=Y A Cc s H (.ref c') vs Q (hr.deeper _) hR (λ b o e=>(G.bs b o (G.mod.kin b o e)).2) a1
  have I:=bc5 S hr.hd G hl a5 r h3 h4 h5 h6 x
  refine bU (ht [] s1 _ _ _ I hq) (λ u s' hs=>?_) λ e s' hs=>hs.elim
  obtain⟨v,H',J,rv,q⟩:=hs
  obtain⟨un,a4⟩:=aT1 G.hok h3 G.frf J.base J.hok
  have a2:∀ b,isC h b=true->H' b=none:=λ b y=>by
   obtain⟨o,v,z,_⟩:=h3.at y
   exact(show Un (frs Cc) [] (ab6 h H) H' s.heap s'.heap from J.base).free b o (G.hok b _ z).1 (ab6.cell y) (by simp)
  exact⟨v,_,J.os,J.bare,un,a4,rv,q a2⟩
theorem Rp.sameT (r:Rp Γ C H s)(e:aZ6 H H')(st:∀ b,H b≠none->H' b≠none)(tb:TabsH Γ.T H'):Gr C s H C s H'/\Rp Γ C H' s:=by
 have kp:Kp H H':=λ b o h f=>e b o (λ ps z=>by subst z;cases f) h
 have J:Gw C s.length H C H':=⟨λ _ _=>rfl,kp⟩
 refine⟨⟨J,aj _,λ i h1 Y=>absurd Y (by omega),λ i o o' e e'=>by rw[e]at e';cases e';rfl,st,λ b o kvs h=>e b _ (by nofun) h,λ b o h G _=>e b o G h⟩,r.inj,λ i o Cc=>?_,r.wf,tb⟩
 exact(r.obj i o Cc).mono J (r.wf i o Cc) λ m u hu=>by
  obtain⟨Z,y,_,G,_⟩:=(r.obj i o Cc).there m
  rw[hu]at y;cases y
  exact e _ _ G hu
theorem Cells.kp (h:Cells clos H)(k:Kp H H'):Cells clos H':=λ x c e=>by
 obtain⟨o,v,q,d⟩:=h x c e
 exact⟨o,v,k _ _ q rfl,d⟩
def PVp (Γ:Gm)(cells:yB)(N:yH)(W:St)(C:Nat->Addr)(H:Hp)(d:lY)(v:V):Prop:=RV Γ C H d v\/∃ id cs,d=.clo id cs/\∃ f J,v=.ref f/\Γ.lg id J/\ag3 H f J (ad7 cells J.scope.names []) /\
  cs.length=J.fr.length/\(∀ x,J.scope.names.lookup x=some .free->∃ c,cells.lookup x=some c) /\
  ∃ cap,RVL Γ C H cs cap/\∀(i:Nat) x v ,J.fr[i]?=some x->cap[i]?=some v->J.scope.names.lookup x=some .free/\∃ j:Nat,N[j]?=some x/\W[j]?=some (some v)
inductive PVL (Γ:Gm)(cells:yB)(N:yH)(W:St)(C:Nat->Addr)(H:Hp):List lY->List V->Prop where
 | nil:PVL Γ cells N W C H [] []
 | cons {d v l vs} (a:PVp Γ cells N W C H d v) (b:PVL Γ cells N W C H l vs):PVL Γ cells N W C H (d::l) (v::vs)
theorem PVp.mono (g:Gr C s H C' s' H')(b:d.bnd s.length=true)(h:PVp Γ cells N W C H d v):PVp Γ cells N W C' H' d v:=by
 rcases h with h|⟨id,cs,rfl,h⟩
 .exact .inl (RV.mono g _ _ b h)
 .obtain⟨f,J,e,G,z,h4,Cc,cap,y,h7⟩:=h
  unfold l9 at b
  exact .inr ⟨id,cs,rfl,f,J,e,G,z.kp g.w.kp,h4,Cc,cap,RVL.mono g cs cap b y,h7⟩
theorem PVp.caught (Z:Caught cells N kd W Cc H2)(Y:∀ x c,cells.lookup x=some c->kd x=some .cell\/kd x=some .free)(b:d.bnd n=true)(h:PVp Γ cells N W C Cc d v):RV Γ C H2 d v:=by
 have gw:Gw C n Cc C H2:=⟨λ _ _=>rfl,λ b o e _=>Z.same b o e⟩
 rcases h with h|⟨id,cs,rfl,h⟩
 .exact RV.monoW gw _ _ b h
 .obtain⟨f,J,e,h1,z,h4,G,cap,h6,h7⟩:=h
  unfold l9 at b
  unfold RV
  have y:∀ i x v ,J.fr[i]?=some x->cap[i]?=some v->J.scope.names.lookup x=some .free/\(kd x=some .cell\/kd x=some .free)/\∃ j,N[j]?=some x/\W[j]?=some (some v):=λ i x v e1 e2=>by
   obtain⟨q1,q2⟩:=h7 i x v e1 e2
   obtain⟨c,q3⟩:=G x q1
   exact⟨q1,Y x c q3,q2⟩
  have hat:CloAt H2 f J cap (ad7 cells J.scope.names []):=by
   unfold CloAt
   unfold ag3 at z
   cases q:J.nm with
   | none=>rw[q]at z;exact bq6 Z z G y
   | some p=>rw[q]at z;exact bk3 Z z G y
  exact⟨f,cap,J,_,e,h1,hat,by rw[h6.length,h4],RVL.monoW gw cs cap b h6⟩
theorem PVL.caught (Cc:Caught cells N kd W z H2)(y:∀ x c,cells.lookup x=some c->kd x=some .cell\/kd x=some .free)(h:PVL Γ cells N W C z l vs)(b:lZ n l=true):RVL Γ C H2 l vs:=by
 induction h with
 | nil=>exact .nil
 | cons a _ ih =>
  unfold lZ at b
  rw[ak]at b
  exact .cons (a.caught Cc y b.1) (ih b.2)
end
variable {Γ:Gm} {X:Cx}
def TEv (Γ:Gm)(m:l7->lX->mf lY):TE:=λ W H Q=>∃ C U s d s',RE Γ C H s.length U W/\Rp Γ C H s/\m U s=.ok d s'/\ae0 Γ C s H d s' Q
def cc2 (Γ:Gm)(C:Nat->Addr)(s:lX)(H:Hp)(l:List lY)(s':lX)(Q:List V->Hp->Prop):Prop :=
 ∀ vs C' H',Gr C s H C' s' H'->s.length<=s'.length->lZ s'.length l=true->RVL Γ C' H' l vs->Rp Γ C' H' s'->Q vs H'
def TAv (Γ:Gm)(m:l7->lX->mf (List lY)):TA:=λ W H Q=>∃ C U s l s',RE Γ C H s.length U W/\Rp Γ C H s/\m U s=.ok l s'/\cc2 Γ C s H l s' Q
def aN7 (Γ:Gm)(C:Nat->Addr)(s:lX)(H:Hp)(b:Bool)(s':lX)(Q:Bool->Hp->Prop):Prop :=
 ∀ C' H',Gr C s H C' s' H'->s.length<=s'.length->Rp Γ C' H' s'->Q b H'
def TTv (Γ:Gm)(m:l7->lX->mf lY):TT:=λ W H Q=>∃ C U s b s',RE Γ C H s.length U W/\Rp Γ C H s/\m U s=.ok (.bl b) s'/\aN7 Γ C s H b s' Q
theorem PE.imp (h:PE X e t)(i:∀ W H Q,t' W H Q->t W H Q):PE X e t':=λ y s W H Q I q=>h y s W H Q I (i W H Q q)
theorem PT.imp (h:PT X e t)(i:∀ W H Q,t' W H Q->t W H Q):PT X e t':=λ y s W H Q I q=>h y s W H Q I (i W H Q q)
theorem PA.imp (h:PA X e t)(i:∀ W H Q,t' W H Q->t W H Q):PA X e t':=λ pos y s W H Q I q=>h pos y s W H Q I (i W H Q q)
theorem aN7.trans (h:aN7 Γ C s H b s' Q)(g:Gr C s H C1 s1 y)(l:s.length<=s1.length):aN7 Γ C1 s1 y b s' Q :=
 λ C' H' g' z p=>h C' H' (g.trans g' l) (am l z) p
theorem cc4 i (h:TEv Γ (λ U s=>DV.bg1 U i s) W H Q):bt4 i W H Q:=by
 obtain⟨C,U,s,d,s',E,R,y,q⟩:=h
 simp only[DV.bg1]at y
 split at y
 .rename_i d' e
  cases y
  obtain⟨b,v,e1,e2⟩:=E.val i _ e
  exact⟨v,e1,q.here R b e2⟩
 .exact fb y
theorem az0 (hb:∀ n,c.bnd n=true)(hv:∀ C H,RV Γ C H c v)(h:TEv Γ (λ U s=>.ok c s) W H Q):tC v W H Q:=by
 obtain⟨C,U,s,d,s',E,R,y,q⟩:=h
 cases y
 exact q.here R (hb _) (hv _ _)
theorem bn0 (h:TEv Γ (λ U s=>(Cc U s).bind λ x s=>(J U s).bind λ y s=>f x y s) W H Q):tOp (rOp Γ f) (TEv Γ Cc) (TEv Γ J) W H Q:=by
 obtain⟨C,U,s,d,s',E,R,z,q⟩:=h
 obtain⟨x,s1,e1,z⟩:=aa0 z
 obtain⟨y,s2,e2,z⟩:=aa0 z
 refine⟨C,U,s,x,s1,E,R,e1,λ v1 C1 H1 g1 l1 G r1 R1=>?_⟩
 refine⟨C1,U,s1,y,s2,E.mono g1 l1,R1,e2,λ v2 C2 H2 g2 Y b2 Z R2=>?_⟩
 exact⟨C2,s2,x,y,d,s',R2,RV.mono g2 x v1 G r1,Z,zl Y x G,b2,z,q.trans (g1.trans g2 l1) (am l1 Y)⟩
theorem zB {a:α}(h:my r f=.ok a t):∃ b s,r=.ok (.bl b) s/\f b s=.ok a t:=by
 unfold my at h
 obtain⟨d,s,e,h⟩:=aa0 h
 cases d with
 | bl b=>exact⟨b,s,e,h⟩
 | _=>exact fb h
theorem aH6 (h:TTv Γ m W H Q):tB (TEv Γ m) W H Q:=by
 obtain⟨C,U,s,b,s',E,R,z,q⟩:=h
 refine⟨C,U,s,.bl b,s',E,R,z,λ v C' H' g l Cc r y=>?_⟩
 exact⟨b,r.blE,q C' H' g l y⟩
theorem aW2 (h:TTv Γ m W H Q):bC5 (TEv Γ m) W H Q:=aH6 h
theorem bR1 (h:TTv Γ (λ U s=>my (m U s) λ b s=>.ok (.bl (!b)) s) W H Q):cm6 (TTv Γ m) W H Q:=by
 obtain⟨C,U,s,b,s',E,R,y,q⟩:=h
 obtain⟨c,s1,e1,y⟩:=zB y
 cases y
 exact⟨C,U,s,c,_,E,R,e1,q⟩
theorem bw8 (h:TTv Γ (λ U s=>my (z U s) λ c s=>if c then my (Cc U s) λ c s=>.ok (.bl c) s else .ok (.bl false) s) W H Q):cn1 (TTv Γ z) (TTv Γ Cc) W H Q:=by
 obtain⟨C,U,s,b,s',E,R,y,q⟩:=h
 obtain⟨c,s1,e1,y⟩:=zB y
 refine⟨C,U,s,c,s1,E,R,e1,λ C1 G g1 l1 R1=>?_⟩
 cases c with
 | true =>
  rw[if_pos rfl]at y ⊢
  obtain⟨J,s2,e2,y⟩:=zB y
  cases y
  exact⟨C1,U,s1,_,_,E.mono g1 l1,R1,e2,q.trans g1 l1⟩
 | false =>
  rw[if_neg aW]at y ⊢
  cases y
  exact q C1 G g1 l1 R1
theorem bZ6 (h:TTv Γ (λ U s=>my (z U s) λ c s=>if c then .ok (.bl true) s else my (Cc U s) λ c s=>.ok (.bl c) s) W H Q):tOr (TTv Γ z) (TTv Γ Cc) W H Q:=by
 obtain⟨C,U,s,b,s',E,R,y,q⟩:=h
 obtain⟨c,s1,e1,y⟩:=zB y
 refine⟨C,U,s,c,s1,E,R,e1,λ C1 G g1 l1 R1=>?_⟩
 cases c with
 | true =>
  rw[if_pos rfl]at y ⊢
  cases y
  exact q C1 G g1 l1 R1
 | false =>
  rw[if_neg aW]at y ⊢
  obtain⟨J,s2,e2,y⟩:=zB y
  cases y
  exact⟨C1,U,s1,_,_,E.mono g1 l1,R1,e2,q.trans g1 l1⟩
theorem bO2 (h:TEv Γ (λ U s=>my (m U s) λ b s=>.ok (.bl (!b)) s) W H Q):bM9 (TEv Γ m) W H Q:=by
 obtain⟨C,U,s,d,s',E,R,y,q⟩:=h
 obtain⟨c,s1,e1,y⟩:=zB y
 cases y
 exact⟨C,U,s,.bl c,_,E,R,e1,λ v C1 z g l b r R1=>⟨c,r.blE,q _ C1 z g l rfl RV.blI R1⟩⟩
theorem bs6 (h:TEv Γ (λ U s=>my (z U s) λ c s=>if c then my (Cc U s) λ c s=>.ok (.bl c) s else .ok (.bl false) s) W H Q):bS5 (TEv Γ z) (TEv Γ Cc) W H Q:=by
 obtain⟨C,U,s,d,s',E,R,y,q⟩:=h
 obtain⟨c,s1,e1,y⟩:=zB y
 refine⟨C,U,s,.bl c,s1,E,R,e1,λ v C1 G g1 l1 J r1 R1=>⟨c,r1.blE,?_⟩⟩
 cases c with
 | true =>
  rw[if_pos rfl]at y ⊢
  obtain⟨c,s2,e2,y⟩:=zB y
  cases y
  exact⟨C1,U,s1,.bl c,_,E.mono g1 l1,R1,e2,q.trans g1 l1⟩
 | false =>
  rw[if_neg aW]at y ⊢
  cases y
  exact q _ C1 G g1 l1 rfl RV.blI R1
theorem bW1 (h:TEv Γ (λ U s=>my (z U s) λ c s=>if c then .ok (.bl true) s else my (Cc U s) λ c s=>.ok (.bl c) s) W H Q):cm1 (TEv Γ z) (TEv Γ Cc) W H Q:=by
 obtain⟨C,U,s,d,s',E,R,y,q⟩:=h
 obtain⟨c,s1,e1,y⟩:=zB y
 refine⟨C,U,s,.bl c,s1,E,R,e1,λ v C1 G g1 l1 J r1 R1=>⟨c,r1.blE,?_⟩⟩
 cases c with
 | true =>
  rw[if_pos rfl]at y ⊢
  cases y
  exact q _ C1 G g1 l1 rfl RV.blI R1
 | false =>
  rw[if_neg aW]at y ⊢
  obtain⟨c,s2,e2,y⟩:=zB y
  cases y
  exact⟨C1,U,s1,.bl c,_,E.mono g1 l1,R1,e2,q.trans g1 l1⟩
theorem bW0 (h:TEv Γ (λ U s=>my (mc U s) λ k s=>if k then z U s else Cc U s) W H Q):tIf (TTv Γ mc) (TEv Γ z) (TEv Γ Cc) W H Q:=by
 obtain⟨C,U,s,d,s',E,R,y,q⟩:=h
 obtain⟨c,s1,e1,y⟩:=zB y
 refine⟨C,U,s,c,s1,E,R,e1,λ C1 G g1 l1 R1=>?_⟩
 cases c with
 | true =>
  rw[if_pos rfl]at y ⊢
  exact⟨C1,U,s1,d,s',E.mono g1 l1,R1,y,q.trans g1 l1⟩
 | false =>
  rw[if_neg aW]at y ⊢
  exact⟨C1,U,s1,d,s',E.mono g1 l1,R1,y,q.trans g1 l1⟩
theorem aM9 (h:TEv Γ (λ U s=>(ma U s).bind λ x s=>(mb U s).bind λ y s=>my (f x y s) λ k s=>if k then(mc U s).bind λ z s=>g y z s else .ok (.bl false) s) W H Q) :
  ba5 (rOp Γ f) (rOp Γ g) (TEv Γ ma) (TEv Γ mb) (TEv Γ mc) W H Q:=by
 obtain⟨C,U,s,d,s',E,R,Cc,q⟩:=h
 obtain⟨x,s1,e1,Cc⟩:=aa0 Cc
 obtain⟨y,s2,e2,Cc⟩:=aa0 Cc
 obtain⟨c,s3,e3,Cc⟩:=zB Cc
 refine⟨C,U,s,x,s1,E,R,e1,λ v1 C1 H1 g1 l1 b1 r1 R1=>?_⟩
 refine⟨C1,U,s1,y,s2,E.mono g1 l1,R1,e2,λ v2 C2 H2 g2 Y J r2 R2=>?_⟩
 refine⟨C2,s2,x,y,.bl c,s3,R2,RV.mono g2 x v1 b1 r1,r2,zl Y x b1,J,e3,λ v3 C3 H3 g3 Z b3 r3 R3=>⟨c,r3.blE,?_⟩⟩
 have G:=(g1.trans g2 l1).trans g3 (am l1 Y)
 have L:=am (am l1 Y) Z
 cases c with
 | true =>
  rw[if_pos rfl]at Cc ⊢
  obtain⟨z,s4,e4,Cc⟩:=aa0 Cc
  refine⟨C3,U,s3,z,s4,E.mono G L,R3,e4,λ v4 C4 H4 g4 l4 b4 r4 R4=>?_⟩
  exact⟨C4,s4,y,z,d,s',R4,RV.mono (g3.trans g4 Z) y v2 J r2,r4,zl (am Z l4) y J,b4,Cc,q.trans (G.trans g4 L) (am L l4)⟩
 | false =>
  rw[if_neg aW]at Cc ⊢
  cases Cc
  exact q _ C3 H3 G L rfl RV.blI R3
theorem aN4 (h:TAv Γ (λ U s=>.ok [] s) W H Q):bf0 W H Q:=by
 obtain⟨C,U,s,d,s',E,R,y,q⟩:=h
 cases y
 exact q [] C H (Gr.refl _ _ _) (aj _) rfl .nil R
theorem bB7 (h:TAv Γ (λ U s=>(m U s).bind λ d s=>(J U s).bind λ l s=>.ok (d::l) s) W H Q):an7 (TEv Γ m) (TAv Γ J) W H Q:=by
 obtain⟨C,U,s,l,s',E,R,z,q⟩:=h
 obtain⟨x,s1,e1,z⟩:=aa0 z
 obtain⟨y,s2,e2,z⟩:=aa0 z
 cases z
 refine⟨C,U,s,x,s1,E,R,e1,λ v1 C1 H1 g1 l1 Cc r1 R1=>?_⟩
 refine⟨C1,U,s1,y,_,E.mono g1 l1,R1,e2,λ v2 C2 H2 g2 G Z Y R2=>?_⟩
 refine q (v1::v2) C2 H2 (g1.trans g2 l1) (am l1 G) ?_ (.cons (RV.mono g2 x v1 Cc r1) Y) R2
 unfold lZ
 rw[zl G x Cc,Z];rfl
theorem aF7 (h:TEv Γ (λ U s=>(z U s).bind λ l s=>f l s) W H Q):tCB (rCl Γ f) (TAv Γ z) W H Q:=by
 obtain⟨C,U,s,d,s',E,R,y,q⟩:=h
 obtain⟨l,s1,e1,y⟩:=aa0 y
 exact⟨C,U,s,l,s1,E,R,e1,λ vs C1 G g1 l1 Cc r1 R1=>⟨C1,s1,l,d,s',R1,r1,Cc,y,q.trans g1 l1⟩⟩
theorem ci7 :
  (TEv Γ (λ U s=>(m U s).bind λ x s=>(ml U s).bind λ y s=>match y with|.int i=>nT x (some i) none s|_=>.bad) W H Q->tSl (rSl Γ) (TEv Γ m) (bb7 (TEv Γ ml)) aG0 W H Q) /\
  (TEv Γ (λ U s=>(m U s).bind λ x s=>(Z U s).bind λ y s=>match y with|.int i=>nT x none (some i) s|_=>.bad) W H Q->tSl (rSl Γ) (TEv Γ m) aG0 (bb7 (TEv Γ Z)) W H Q) /\
  (TEv Γ (λ U s=>(m U s).bind λ x s=>(ml U s).bind λ y s=>match y with|.int i=>(Z U s).bind (λ z s=>match z with|.int j=>nT x (some i) (some j) s|_=>.bad)|_=>.bad) W H Q->tSl (rSl Γ) (TEv Γ m) (bb7 (TEv Γ ml)) (bb7 (TEv Γ Z)) W H Q):=by
 refine⟨λ h=>?_,λ h=>?_,λ h=>?_⟩
 .obtain⟨C,U,s,d,s',E,R,Cc,q⟩:=h
  obtain⟨x,s1,e1,Cc⟩:=aa0 Cc
  obtain⟨y,s2,e2,Cc⟩:=aa0 Cc
  refine⟨C,U,s,x,s1,E,R,e1,λ v1 C1 H1 g1 l1 J r1 R1=>?_⟩
  refine⟨C1,U,s1,y,s2,E.mono g1 l1,R1,e2,λ v2 C2 H2 g2 G b2 Y R2=>?_⟩
  cases y with
  | int i=>exact⟨i,Y.intE,C2,s2,x,d,s',R2,RV.mono g2 x v1 J r1,zl G x J,Cc,q.trans (g1.trans g2 l1) (am l1 G)⟩
  | _=>exact fb Cc
 .obtain⟨C,U,s,d,s',E,R,Cc,q⟩:=h
  obtain⟨x,s1,e1,Cc⟩:=aa0 Cc
  obtain⟨y,s2,e2,Cc⟩:=aa0 Cc
  refine⟨C,U,s,x,s1,E,R,e1,λ v1 C1 H1 g1 l1 J r1 R1=>?_⟩
  refine⟨C1,U,s1,y,s2,E.mono g1 l1,R1,e2,λ v2 C2 H2 g2 G b2 Y R2=>?_⟩
  cases y with
  | int i=>exact⟨i,Y.intE,C2,s2,x,d,s',R2,RV.mono g2 x v1 J r1,zl G x J,Cc,q.trans (g1.trans g2 l1) (am l1 G)⟩
  | _=>exact fb Cc
 .obtain⟨C,U,s,d,s',E,R,Cc,q⟩:=h
  obtain⟨x,s1,e1,Cc⟩:=aa0 Cc
  obtain⟨y,s2,e2,Cc⟩:=aa0 Cc
  refine⟨C,U,s,x,s1,E,R,e1,λ v1 C1 H1 g1 l1 J r1 R1=>?_⟩
  refine⟨C1,U,s1,y,s2,E.mono g1 l1,R1,e2,λ v2 C2 H2 g2 G b2 Y R2=>?_⟩
  cases y with
  | int i =>
   obtain⟨z,s3,e3,Cc⟩:=aa0 Cc
   refine⟨i,Y.intE,C2,U,s2,z,s3,E.mono (g1.trans g2 l1) (am l1 G),R2,e3,λ v3 C3 H3 g3 l3 b3 r3 R3=>?_⟩
   cases z with
   | int j=>exact⟨j,r3.intE,C3,s3,x,d,s',R3,RV.mono (g2.trans g3 G) x v1 J r1,zl (am G l3) x J,Cc,q.trans ((g1.trans g2 l1).trans g3 (am l1 G)) (am (am l1 G) l3)⟩
   | _=>exact fb Cc
  | _=>exact fb Cc
variable {Γ:Gm} {X:Cx}
def jb (Γ:Gm)(J:It)(C0:Nat->Addr)(H0:Hp)(s0:lX)(q:m8):Prop :=
 ∀ C H s,Gr C0 s0 H0 C s H->s0.length<=s.length->Rp Γ C H s->m9 s0 s q.src=true->∀ i:Nat,
  (i<q.its.length->J.go i H/\∀ x H',J.yld i H x H'->ae2 H H'/\∀ d,q.its[i]?=some d->RV Γ C H' d x)/\(q.its.length<=i->J.stop i H)
def TIv (Γ:Gm)(m:l7->lX->mf m8):TI:=λ W H R=>∃ C U s q s',RE Γ C H s.length U W/\Rp Γ C H s/\m U s=.ok q s' /\
 ∀ J C' H',Gr C s H C' s' H'->s.length<=s'.length->lZ s'.length q.its=true->Rp Γ C' H' s'->jb Γ J C' H' s' q->R J H'
theorem PI.imp (h:PI X tg e t)(i:∀ W H R,t' W H R->t W H R):PI X tg e t':=λ y s W H R I q=>h y s W H R I (i W H R q)
theorem PI.or (h:PI X tg e t)(h':PI X tg e t'):PI X tg e (λ W H R=>t W H R\/t' W H R):=λ y s W H R I q=>q.elim (h y s W H R I) (h' y s W H R I)
theorem aK3 (h:SqT Γ.K H0 a Cc)(hl:RVL Γ C0 H0 l Cc)(hb:lZ s0.length l=true):jb Γ (Itt Γ.K a) C0 H0 s0 ⟨l,[]⟩:=by
 intro C H s g _ R _ i
 have h':=g.w.kp.sqT h
 have z:=RVL.mono g l Cc hb hl
 refine⟨λ hlt=>⟨⟨Cc,Cc[i]'(by rw[z.length];exact hlt),h',ag _⟩,λ x H' y=>?_⟩,λ G=>⟨Cc,h',by rw[z.length];exact G⟩⟩
 obtain⟨e,y⟩:=y
 subst e
 refine⟨ae2.refl _,λ d hd=>?_⟩
 obtain⟨v,e1,e2⟩:=z.get hd
 rw[y Cc h']at e1;cases e1
 exact e2
theorem be6 (h:SqF Γ.K H0 a Cc)(hl:RVL Γ C0 H0 l Cc)(hb:lZ s0.length l=true):jb Γ (Itl Γ.K a) C0 H0 s0 ⟨l,[]⟩:=by
 intro C H s g _ R _ i
 have h':=h.2 _ g.w.kp
 have z:=RVL.mono g l Cc hb hl
 refine⟨λ hlt=>⟨⟨Cc,Cc[i]'(by rw[z.length];exact hlt),h',ag _⟩,λ x H' y=>?_⟩,λ G=>⟨Cc,h',by rw[z.length];exact G⟩⟩
 obtain⟨e,y⟩:=y
 subst e
 refine⟨ae2.refl _,λ d hd=>?_⟩
 obtain⟨v,e1,e2⟩:=z.get hd
 rw[y Cc h']at e1;cases e1
 exact e2
theorem aJ9 (Y:s0[r]?=some (.lst l)):jb Γ (Itl Γ.K (C0 r)) C0 H0 s0 ⟨l,[r]⟩:=by
 intro C H s g _ R J i
 have z:=(ac.mp Y).1
 have hs:s[r]?=some (.lst l):=by
  unfold m9 at J
  simp only[dP,ke,eD,decide_eq_true_eq]at J
  rw[J];exact Y
 obtain⟨Cc,e,h⟩:=R.addr hs
 rw[g.w.map r z]at e
 have h':SqL Γ.K H (C0 r) Cc:=SqL.of e
 refine⟨λ hlt=>⟨⟨Cc,Cc[i]'(by rw[h.length];exact hlt),h',ag _⟩,λ x H' y=>?_⟩,λ G=>⟨Cc,h',by rw[h.length];exact G⟩⟩
 obtain⟨e,y⟩:=y
 subst e
 refine⟨ae2.refl _,λ d hd=>?_⟩
 obtain⟨v,e1,e2⟩:=h.get hd
 rw[y Cc h']at e1;cases e1
 exact e2
theorem aL9 {l:List Nat}:jb Γ (Its ⟨l.toArray⟩) C0 H0 s0 ⟨l.map λ c=>.str [c],[]⟩:=by
 intro C H s g _ R _ i
 have hsz:(⟨l.toArray⟩:Str).cps.size=l.length:=by simp
 refine⟨λ hlt=>?_,λ h=>?_⟩
 .simp only[ax]at hlt
  refine⟨show i<(⟨l.toArray⟩:Str).cps.size by rw[hsz];exact hlt,λ x H' y=>?_⟩
  obtain⟨e,c,hc,rfl⟩:=y
  subst e
  refine⟨ae2.refl _,λ d hd=>?_⟩
  have z:=by simpa using hc
  rw[ay,z]at hd
  cases hd
  exact RV.strI (by simp;decide)
 .simp only[ax]at h
  show(⟨l.toArray⟩:Str).cps.size<=i
  rw[hsz];exact h
theorem bn1 :jb Γ (Itr a (b - a).toNat) C0 H0 s0 ⟨n5 a b,[]⟩:=by
 intro C H s g _ R _ i
 have hn:(n5 a b).length=(b - a).toNat:=by simp[n5]
 refine⟨λ hlt=>⟨show i<(b - a).toNat by rw[<-hn];exact hlt,λ x H' y=>?_⟩,λ h=>show(b - a).toNat<=i by rw[<-hn];exact h⟩
 obtain⟨e,rfl⟩:=y
 subst e
 refine⟨ae2.refl _,λ d hd=>?_⟩
 simp only[n5]at hd hlt
 rw[ay,cN (by simpa using hlt)]at hd
 cases hd
 exact RV.intI
theorem bB1 (h:TIv Γ (λ U s=>(m U s).bind λ x s=>match x with|.int i=>if -oD<=i/\i<oD then .ok ⟨n5 0 i,[]⟩ s else .bad|_=>.bad) W H R) :
  bN1 (an7 (TEv Γ m) bf0) W H R:=by
 obtain⟨C,U,s,q,s',E,P,y,k⟩:=h
 obtain⟨x,s1,e1,y⟩:=aa0 y
 refine⟨C,U,s,x,s1,E,P,e1,λ v C1 Cc g l b r G=>?_⟩
 cases x with
 | int i =>
  simp only at y
  split at y
  .rename_i z
   cases y
   have hw:oD=2^62:=by decide
   rw[hw]at z
   refine⟨i,by rw[r.intE],z.1,z.2,k _ C1 Cc g l ?_ G ?_⟩
   .refine aa5.mpr λ d hd=>?_
    simp only[n5,aK]at hd
    obtain⟨_,_,rfl⟩:=hd
    rfl
   .have:=bn1 (Γ:=Γ) (C0:=C1) (H0:=Cc) (s0:=s') (a:=0) (b:=i)
    rwa [lK]at this
  .exact fb y
 | _=>exact fb y
theorem bY0 (h:TIv Γ (λ U s=>(m U s).bind λ d s=>DV.ak4 d s) W H R) :
  cj2 Γ.K (TEv Γ m) W H R\/bM6 Γ.K (TEv Γ m) W H R\/cn0 (TEv Γ m) W H R:=by
 obtain⟨C,U,s,q,s',E,P,y,k⟩:=h
 obtain⟨x,s1,e1,y⟩:=aa0 y
 unfold DV.ak4 at y
 cases x with
 | tup l =>
  cases y
  refine .inl ⟨C,U,s,_,_,E,P,e1,λ v C1 Cc g l b r z=>?_⟩
  obtain⟨a,J,rfl,Z,d1⟩:=r.tupE
  unfold l9 at b
  exact⟨a,rfl,⟨J,Z⟩,k _ C1 Cc g l b z (aK3 Z d1 b)⟩
 | str l =>
  cases y
  refine .inr (.inr ⟨C,U,s,_,_,E,P,e1,λ v C1 Cc g G b r z=>?_⟩)
  refine⟨_,r.strE,k _ C1 Cc g G ?_ z aL9⟩
  refine aa5.mpr λ d hd=>?_
  simp only[aK]at hd
  obtain⟨_,_,rfl⟩:=hd
  rfl
 | ref r =>
  simp only at y
  cases hs:s1[r]? with
  | none=>rw[hs]at y;cases y
  | some o =>
   rw[hs]at y
   cases o with
   | lst l =>
    cases y
    refine .inr (.inl ⟨C,U,s,_,_,E,P,e1,λ v C1 Cc g G b Y z=>?_⟩)
    have e:=Y.refE;subst e
    obtain⟨J,e2,d1⟩:=z.addr hs
    have wf:=z.wf _ _ hs
    unfold mn at wf
    exact⟨C1 r,rfl,⟨J,SqL.of e2⟩,k _ C1 Cc g G wf z (aJ9 hs)⟩
   | ro l =>
    cases y
    refine .inr (.inl ⟨C,U,s,_,_,E,P,e1,λ v C1 Cc g G b Y z=>?_⟩)
    have e:=Y.refE;subst e
    obtain⟨J,e2,d1⟩:=z.obj _ _ hs
    have wf:=z.wf _ _ hs
    unfold mn at wf
    exact⟨C1 r,rfl,⟨J,e2.1⟩,k _ C1 Cc g G wf z (be6 e2 d1 wf)⟩
   | dic l=>exact fb y
   | ins c l=>exact fb y
   | dicF l=>exact fb y
 | _=>exact fb y
theorem bE0 (h:jf d=some k)(hl:d.keyF=true):RV Γ C H d (kV k):=by
 cases d with
 | int i=>cases h;exact RV.intI
 | str x=>cases h;exact RV.strI (am (of_decide_eq_true hl) (by decide))
 | _=>cases h
theorem RVD.keyAt :∀ {l} {kvs} {i:Nat} {k} {v},RVD jf Γ C H l kvs->kvs[i]?=some (k,v)->∃ p,l[i]?=some p/\jf p.1=some k
 | [],_,_,_,_,h,e=>by cases(h);simp at e
 | (d,e0)::l,_,0,_,_,h,e=>by
  obtain⟨y,v',r,rfl,e2,Cc,z⟩:=h
  cases(aA e)
  exact⟨_,rfl,e2⟩
 | (d,e0)::l,_,i+1,_,_,h,e=>by
  obtain⟨y,v',r,rfl,e2,Cc,z⟩:=h
  exact RVD.keyAt (i:=i) z (by simpa using e)
theorem bf4 (h:H0 a=some (.frz o (.dK kvs)))(hl:RVD jf Γ C0 H0 l kvs)(hk:l.all (λ p=>p.1.keyF)=true):jb Γ (Jk a o kvs) C0 H0 s0 ⟨l.map (·.1),[r]⟩:=by
 intro C H s g _ R _ i
 have h':=g.fz _ _ _ h
 have len:=hl.length
 refine⟨λ hlt=>⟨⟨h',by rw[len];simpa using hlt⟩,λ x H' y=>?_⟩,λ z=>⟨h',by rw[len];simpa using z⟩⟩
 obtain⟨e,k,v,ek,rfl⟩:=y
 subst e
 refine⟨ae2.refl _,λ d hd=>?_⟩
 obtain⟨p,e1,e2⟩:=hl.keyAt ek
 have hd:=hd
 rw[ay,e1]at hd
 cases hd
 exact bE0 e2 (aZ.mp hk p (aN e1))
theorem bb6 (h:oE d s=.ok q s'):∃ r l,d=.ref r/\s[r]?=some (.dic l)/\l.all (λ p=>p.1.keyF)=true/\q=⟨l.map (·.1),[r]⟩/\s'=s.set r (.dicF l):=by
 unfold oE at h
 split at h
 .split at h
  .rename_i l e
   split at h
   .rename_i hk;cases h;exact⟨_,l,rfl,e,hk,rfl,rfl⟩
   .exact fb h
  .exact fb h
 .exact fb h
theorem bD9 (h:TIv Γ (λ U s=>(m U s).bind λ d s=>oE d s) W H R):bU1 (TEv Γ m) W H R:=by
 obtain⟨C,U,s,q,s',E,P,Cc,k⟩:=h
 obtain⟨x,s1,e1,Cc⟩:=aa0 Cc
 obtain⟨r,l,rfl,hs,hk,rfl,rfl⟩:=bb6 Cc
 refine⟨C,U,s,_,s1,E,P,e1,λ v C1 Y g G b J z=>?_⟩
 obtain⟨kvs,e2,d1⟩:=z.obj r _ hs
 have wf:=z.wf _ _ hs
 have y:=wf
 unfold mn at y
 rw[ak]at y
 refine⟨C1 r,kvs,J.refE,e2,λ o=>?_⟩
 obtain⟨g2,R2⟩:=z.set (o:=.dicF l) hs rfl wf λ H' g e=>⟨o,kvs,e,RVD.monoW g l kvs y.2 d1⟩
 exact k _ C1 _ (g.trans g2 G) (by rw[aU];exact G) (by rw[aU];exact y.1) R2 (bf4 zd (RVD.monoW g2.w l kvs y.2 d1) hk)
theorem bJ6 (h:nV d s=.ok q s'):s'=s/\∀ C H v,RV Γ C H d v->Rp Γ C H s->d.bnd s.length=true ->
  ∃ J,Sr Γ.K H v J/\jb Γ J C H s q/\lZ s.length q.its=true:=by
 unfold nV at h
 cases d with
 | tup l =>
  cases h
  refine⟨rfl,λ C H v r P b=>?_⟩
  obtain⟨a,y,rfl,Cc,d1⟩:=r.tupE
  unfold l9 at b
  exact⟨_,.inr (.inl ⟨a,rfl,⟨y,Cc⟩,rfl⟩),aK3 Cc d1 b,b⟩
 | str l =>
  cases h
  refine⟨rfl,λ C H v r P b=>⟨_,.inr (.inr ⟨_,r.strE,rfl⟩),aL9,?_⟩⟩
  refine aa5.mpr λ d hd=>?_
  simp only[aK]at hd
  obtain⟨_,_,rfl⟩:=hd
  rfl
 | ref r =>
  simp only at h
  cases hs:s[r]? with
  | none=>rw[hs]at h;cases h
  | some o =>
   rw[hs]at h
   cases o with
   | lst l =>
    cases h
    refine⟨rfl,λ C H v z P b=>?_⟩
    have e:=z.refE;subst e
    obtain⟨y,e2,d1⟩:=P.addr hs
    have wf:=P.wf _ _ hs
    unfold mn at wf
    exact⟨_,.inl ⟨_,rfl,⟨y,SqL.of e2⟩,rfl⟩,aJ9 hs,wf⟩
   | ro l =>
    cases h
    refine⟨rfl,λ C H v z P b=>?_⟩
    have e:=z.refE;subst e
    obtain⟨y,e2,d1⟩:=P.obj _ _ hs
    have wf:=P.wf _ _ hs
    unfold mn at wf
    exact⟨_,.inl ⟨_,rfl,⟨y,e2.1⟩,rfl⟩,be6 e2 d1 wf,wf⟩
   | dic l=>exact fb h
   | ins c l=>exact fb h
   | dicF l=>exact fb h
 | _=>exact fb h
theorem aV4 (h:oF d s=.ok q s'):nV d s=.ok q s'/\∀ x,d≠.str x:=by
 unfold oF at h
 unfold nV
 cases d with
 | tup l=>exact⟨h,λ x e=>nomatch e⟩
 | ref r=>exact⟨h,λ x e=>nomatch e⟩
 | _=>exact fb h
theorem al6:∀ l (n i:Nat),(mU n l)[i]?=(l[i]?).map λ d=>.tup [.int ((n+i:Nat)),d]
 | [],n,i=>by rw[mU];simp
 | a::l,n,0=>by rw[mU];simp
 | a::l,n,i+1=>by
  rw[mU]
  have:=al6 l (n+1) i
  simp only[dz]
  rw[this]
  rw[show n+1+i=n+(i+1)from by lia]
theorem enumL_len:∀ l n ,(mU n l).length=l.length
 | [],n=>by rw[mU]
 | a::l,n=>by rw[mU];simp[enumL_len l (n+1)]
theorem aC4 (J:jb Γ G C0 H0 s0 p)(b1:lZ s0.length p.its=true) :
  jb Γ (Je G) C0 H0 s0 ⟨mU 0 p.its,p.src⟩:=by
 intro C H s g hl R ck i
 obtain⟨u1,u2⟩:=J C H s g hl R ck i
 refine⟨λ hlt=>?_,λ z=>?_⟩
 .simp only[enumL_len]at hlt
  obtain⟨g1,Z⟩:=u1 hlt
  refine⟨g1,λ x H' y=>?_⟩
  obtain⟨a,x1,e1,hn,rfl,rfl⟩:=y
  have Cc:ae2 H (upd H a (.tup [.int i,x1])):=(ae2.refl H).new hn
  refine⟨Cc,λ d hd=>?_⟩
  have h:=hd
  rw[al6,ag hlt,bz]at h
  cases h
  obtain⟨Y,R'⟩:=R.same Cc
  have c1:=aa5.mp b1 _ (g7 hlt)
  exact RV.tupI zd (RVL.cons RV.intI (RVL.cons (RV.mono Y _ _ (zl hl _ c1) ((Z _ _ e1).2 _ (ag hlt))) RVL.nil))
 .simp only[enumL_len]at z
  exact u2 z
theorem aK0 (a:lZ n l=true):lZ n (mU 0 l)=true:=by
 refine aa5.mpr λ d hd=>?_
 obtain⟨i,h⟩:=fF hd
 rw[al6]at h
 cases e:l[i]? with
 | none=>rw[e]at h;cases h
 | some x =>
  rw[e]at h;cases h
  unfold l9
  exact aa5.mpr λ d hd=>by
   simp only[av,bn,or_false]at hd
   rcases hd with rfl|rfl
   .rfl
   .exact aa5.mp a _ (aN e)
theorem bz2 (h:TIv Γ (λ U s=>(m1 U s).bind λ x s=>(oF x s).bind λ p s=>.ok ⟨mU 0 p.its,p.src⟩ s) W H R) :
  bQ2 Γ.K (an7 (TEv Γ m1) bf0) W H R:=by
 obtain⟨C,U,s,q,s',E,P,Cc,k⟩:=h
 obtain⟨x,s1,e1,Cc⟩:=aa0 Cc
 obtain⟨p1,s3,J,Cc⟩:=aa0 Cc
 cases Cc
 obtain⟨J,ns⟩:=aV4 J
 obtain⟨rfl,d1⟩:=bJ6 J
 refine⟨C,U,s,x,_,E,P,e1,λ v C1 Y g l b r Z=>?_⟩
 obtain⟨J1,S1,w1,G⟩:=d1 C1 Y v r Z b
 rcases S1 with⟨a,e,S,ej⟩|⟨a,e,S,ej⟩|⟨y,e,ej⟩
 .exact⟨a,J1,by rw[e],.inl ⟨S,ej⟩,k _ C1 Y g l (aK0 G) Z (aC4 w1 G)⟩
 .exact⟨a,J1,by rw[e],.inr ⟨S,ej⟩,k _ C1 Y g l (aK0 G) Z (aC4 w1 G)⟩
 .subst e
  cases x with
  | str z=>exact absurd rfl (ns z)
  | tup l=>obtain⟨_,_,z,_⟩:=r.tupE;cases z
  | ref n=>cases r.refE
  | _=>simp[nV]at J
variable {Γ:Gm} {X:Cx}
noncomputable def cd0:List Nat->TGs
 | []=>co1
 | i::is=>bX6 (ay2 i) (cd0 is)
noncomputable def gOf (K:ah):ng->TG
 | .one i=>ay2 i
 | .tup is=>ch2 K is.length (cd0 is)
theorem bs3 (E:RE Γ C H n U W)(r:RV Γ C H d v)(b:d.bnd n=true)(h:nE U i d=some U'):RE Γ C H n U' (W.set i (some v)):=by
 unfold nE at h
 split at h
 .rename_i y
  cases h
  refine⟨by rw[aU,aU];exact E.len,λ j e hj=>?_⟩
  by_cases hij:j=i
  .subst hij
   rw[aJ y]at hj
   cases hj
   exact⟨b,v,by rw[aJ (by rw[<-E.len];exact y)],r⟩
  .rw[aB (bH hij)]at hj
   obtain⟨G,w,Cc,z⟩:=E.val j e hj
   exact⟨G,w,by rw[aB (bH hij)];exact Cc,z⟩
 .cases h
theorem bN0 :∀ is l y U U' W ,RE Γ C H n U W->RVL Γ C H l y->lZ n l=true->nW U is l=some U'->(∀ W',RE Γ C H n U' W'->Q W' H)->cd0 is y W H Q
 | [],[],y,U,U',W,E,r,_,h,k=>by
  cases h
  exact⟨r.unnil,k W E⟩
 | [],d::l,_,_,_,_,_,_,_,h,_=>by cases h
 | i::is,[],_,_,_,_,_,_,_,h,_=>by cases h
 | i::is,d::l,y,U,U',W,E,r,b,h,k=>by
  have h:(nE U i d).bind (λ U=>nW U is l)=some U':=h
  obtain⟨x,z,rfl,G,Cc⟩:=r.uncons
  unfold lZ at b
  rw[ak]at b
  cases e:nE U i d with
  | none=>rw[e]at h;cases h
  | some U1 =>
   rw[e]at h
   exact⟨x,z,rfl,bN0 is l z U1 U' _ (bs3 E G b.1 e) Cc b.2 h k⟩
theorem aU8 :∀ {is} {U U'},nW U is l=some U'->is.length=l.length:=by
 induction l with
 | nil=>intro is U U' h;cases is with
  | nil=>rfl
  | cons i is=>cases h
 | cons d l ih=>intro is U U' h;cases is with
  | nil=>cases h
  | cons i is =>
   have h:(nE U i d).bind (λ U=>nW U is l)=some U':=h
   cases e:nE U i d with
   | none=>rw[e]at h;cases h
   | some U1=>rw[e]at h;rw[aL,aL,ih h]
theorem bK1 (E:RE Γ C H n U W)(r:RV Γ C H d v)(b:d.bnd n=true)(h:mY U tg d=some U')(k:∀ W',RE Γ C H n U' W'->Q W' H):gOf Γ.K tg v W H Q:=by
 cases tg with
 | one i=>exact k _ (bs3 E r b h)
 | tup is =>
  cases d with
  | tup l =>
   have h:=h
   obtain⟨a,y,rfl,z,d1⟩:=r.tupE
   unfold l9 at b
   exact⟨a,y,rfl,z,by rw[d1.length,aU8 h],bN0 is l y U U' W E d1 b h k⟩
  | _=>cases h
def Off (C:Nat->Addr)(s:lX)(b:Addr):Prop:=∀ i ob ,s[i]?=some ob->isMut ob=true->C i≠b
theorem Off.mono (h:Off C s b)(g:Gr C s H C' s' H')(hb:H b=some o):Off C' s' b:=λ i ob e m z=>by
 by_cases G:i<s.length
 .obtain⟨y,Cc⟩:∃ y,s[i]?=some y:=⟨s[i],ag G⟩
  exact h i y Cc (g.mu i y ob Cc e m) (by rw[<-g.w.map i G];exact z)
 .have:=g.new i (by lia) (ac.mp e).1
  rw[z,hb]at this;cases this
theorem Off.new (r:Rp Γ C H s)(h:H b=none):Off C s b:=λ i ob e m z=>by
 obtain⟨u,hu,_⟩:=(r.obj i ob e).there m
 rw[z,h]at hu;cases hu
theorem Rp.foreign (r:Rp Γ C H s)(hb:H b=some (.lst ys))(ho:Off C s b):Rp Γ C (upd H b (.lst h)) s:=by
 have g:Gw C s.length H C (upd H b (.lst h)):=⟨λ _ _=>rfl,(Kp.refl H).put hb rfl⟩
 exact⟨r.inj,λ i o e=>(r.obj i o e).mono g (r.wf i o e) λ m u hu=>by rw[za (ho i o e m)];exact hu,r.wf,r.tab.put hb⟩
theorem Gr.foreign (g:Gr C s H C' s' H')(h0:H b=none)(hb:H' b=some (.lst ys)):Gr C s H C' s' (upd H' b (.lst z)):=by
 have ne:∀ c o,H c=some o->c≠b:=λ c o e=>zu e h0
 refine⟨⟨g.w.map,λ c o e f=>?_⟩,g.le,g.new,g.kd,λ c hc=>?_,λ c o kvs e=>by rw[za (ne c _ e)];exact g.fz c o kvs e,λ c o e h y=>?_⟩
 .rw[za (ne c o e)];exact g.w.kp c o e f
 .unfold upd;split
  .simp
  .exact g.st c hc
 .rw[za (ne c o e)];exact g.fr c o e h y
def bV6 (Γ:Gm)(C:Nat->Addr)(s:lX)(H:Hp)(l:List lY)(s':lX)(Q:VK):Prop :=
 ∀ p ys C' H',Gr C s H C' s' H'->s.length<=s'.length->lZ s'.length l=true->H' p=some (.lst ys)->H p=none->Off C' s' p->RVL Γ C' H' l ys->Rp Γ C' H' s'->Q (.ref p) H'
def TFv (Γ:Gm)(m:l7->lX->mf (List lY)):TE:=λ W H Q=>∃ C U s l s',RE Γ C H s.length U W/\Rp Γ C H s/\m U s=.ok l s'/\bV6 Γ C s H l s' Q
theorem aU6 (h:TEv Γ (λ U s=>(m U s).bind λ l s=>nv (.lst l) s) W H Q):TFv Γ m W H Q:=by
 obtain⟨C,U,s,d,s',E,R,Z,q⟩:=h
 obtain⟨l,s1,e1,Z⟩:=aa0 Z
 obtain⟨rfl,rfl⟩:=qo Z
 refine⟨C,U,s,l,s1,E,R,e1,λ p ys C' H' g hl hb hp h0 ho r Cc=>?_⟩
 have gw:Gw C' s1.length H' (λ i=>if i=s1.length then p else C' i) H':=⟨λ i y=>if_neg (aw y),Kp.refl _⟩
 have key:∀ i z ,(s1++[DV.O.lst l])[i]?=some z->(i<s1.length/\s1[i]?=some z)\/(i=s1.length/\z=.lst l):=λ i z e=>by
  rcases gK i s1.length with h|h|h
  .rw[aQ h]at e;exact .inl ⟨h,e⟩
  .subst h;simp at e;exact .inr ⟨rfl,e.symm⟩
  .rw[cZ (by simp;lia)]at e;cases e
 have G:Gr C s H (λ i=>if i=s1.length then p else C' i) (s1++[.lst l]) H':=by
  refine⟨⟨λ i y=>by skip;rw[if_neg (by lia)];exact g.w.map i y,g.w.kp⟩,by simp;lia,λ i h1 h2=>?_,λ i o z e e'=>?_,g.st,g.fz,g.fr⟩
  .by_cases y:i=s1.length
   .skip
    rw[if_pos y];exact h0
   .skip
    rw[if_neg y];exact g.new i h1 (by simp at h2;lia)
  .rcases key i z e' with⟨_,e2⟩|⟨y,_⟩
   .exact g.kd i o z e e2
   .have:=(ac.mp e).1;lia
 have P:Rp Γ (λ i=>if i=s1.length then p else C' i) H' (s1++[.lst l]):=by
  refine⟨λ i j oi Y J ej mi mj e=>?_,λ i o e=>?_,λ i o e=>?_,Cc.tab⟩
  .rcases key i oi J with⟨y,J⟩|⟨y,_⟩<;>rcases key j Y ej with⟨hj,ej⟩|⟨hj,_⟩
   .rw[if_neg (aw y),if_neg (aw hj)]at e
    exact Cc.inj i j oi Y J ej mi mj e
   .rw[if_neg (aw y),if_pos hj]at e
    exact absurd e (ho i oi J mi)
   .rw[if_neg (aw hj),if_pos y]at e
    exact absurd e.symm (ho j Y ej mj)
   .rw[y,hj]
  .rcases key i o e with⟨y,e⟩|⟨y,rfl⟩
   .skip
    rw[if_neg (aw y)]
    exact(Cc.obj i o e).mono gw (Cc.wf i o e) λ _ u hu=>hu
   .skip
    rw[if_pos y]
    exact⟨ys,hp,RVL.monoW gw l ys hb r⟩
  .rw[aD,bK]
   rcases key i o e with⟨_,e⟩|⟨_,rfl⟩
   .exact qd (db _) _ (Cc.wf i o e)
   .exact qd (db _) _ (by unfold mn;exact hb)
 exact q (.ref p) _ H' G (by simp;omega) (by unfold l9;simp) (by unfold RV;simp) P
theorem bP8 (E:RE Γ C H n U W) h :RE Γ C H n (nM U h) (ay7 h W):=by
 refine⟨by unfold nM ay7;simp,λ i d e=>?_⟩
 unfold nM at e
 rw[ay]at e
 cases q:h[i]? with
 | none=>rw[q]at e;cases e
 | some o =>
  rw[q]at e
  cases o with
  | none=>cases e
  | some j =>
   have e':(U[j]?).join=some d:=aA e
   have ej:U[j]?=some (some d):=by
    cases q2:U[j]? with
    | none=>rw[q2]at e';cases e'
    | some o2=>rw[q2]at e';exact congrArg some e'
   obtain⟨b,v,z,y⟩:=E.val j d ej
   refine⟨b,v,?_,y⟩
   unfold ay7
   rw[ay,q]
   show some ((W[j]?).join)=_
   rw[z];rfl
theorem aV0 
  (h:TFv Γ (λ U s=>(mI U s).bind λ q s0=>if q.its.length<=mq then nF (λ s=>m9 s0 s q.src) (λ d U s=>match mY U tg d with
   | some U=>my (mc U s) λ k s=>if k then(me U s).bind λ v s=>.ok (some v,U) s else .ok (none,U) s
   | none=>.bad) q.its (nM U G) s0 else .bad) W H Q):tComp G (TIv Γ mI) (gOf Γ.K tg) (TTv Γ mc) (TEv Γ me) W H Q:=by
 obtain⟨C,U,s,l,s',E,R,hm,k⟩:=h
 obtain⟨q,s0,e1,hm⟩:=aa0 hm
 split at hm
 case isFalse=>exact fb hm
 rename_i b4
 refine⟨C,U,s,q,s0,E,R,e1,λ J C1 H1 g1 l1 b1 R1 wk D hD=>?_⟩
 have h0:H D=none:=by
  cases e:H D with
  | none=>rfl
  | some o=>exact absurd hD (g1.st D (by rw[e];simp))
 refine⟨λ i m W' H'=>∃ C' U' t y ys rest,Gr C1 s0 H1 C' t H'/\Rp Γ C' H' t/\RE Γ C' H' t.length U' W'/\H' D=some (.lst ys)/\Off C' t D/\RVL Γ C' H' y ys/\lZ t.length y=true/\y.length<=i/\i<=q.its.length/\m=q.its.length - i /\
  nF (λ s=>m9 s0 s q.src) (λ d U s=>match mY U tg d with
   | some U=>my (mc U s) λ k s=>if k then(me U s).bind λ v s=>.ok (some v,U) s else .ok (none,U) s
   | none=>.bad) (q.its.drop i) U' t=.ok rest s'/\l=y++rest,⟨q.its.length,?_⟩,?_⟩
 .obtain⟨g2,R2⟩:=R1.same ((ae2.refl H1).new hD)
  exact⟨C1,nM U G,s0,[],[],l,g2,R2,bP8 ((E.mono g1 l1).mono g2 (aj _)) G,zd,Off.new R1 hD,.nil,rfl,aj _,dZ _,by simp,by rw[eZ];exact hm,rfl⟩
 .rintro i m W' H' ⟨C',U',t,y,ys,rest,g,R',E',hy,a2,ra,ba,b6,hil,rfl,hc,hl⟩
  have Cc:=g.le
  rcases lL i q.its.length with hlt|hge
  .have hd:=ag hlt
   rw[c6 hlt]at hc
   unfold nF at hc
   split at hc
   case isFalse=>exact fb hc
   rename_i a3
   obtain⟨b3,b2⟩:=(wk C' H' t g Cc R' a3 i).1 hlt
   refine .inr ⟨b3,_,λ W2 H2 n=>⟨q.its.length - (i+1),by omega,n⟩,λ x H2 b0=>?_⟩
   obtain⟨sm,rv⟩:=b2 x H2 b0
   obtain⟨g2,R2⟩:=R'.same sm
   have rd:=rv _ hd
   have bd:=zl Cc _ (af7 b1 hd)
   obtain⟨p,t3,hs,hc⟩:=aa0 hc
   obtain⟨r2,t4,a5,hc⟩:=aa0 hc
   cases hb:mY U' tg q.its[i]with
   | none=>rw[hb]at hs;cases hs
   | some U3 =>
    rw[hb]at hs
    refine bK1 (E'.mono g2 (aj _)) rd bd hb λ W3 E3=>?_
    obtain⟨c,t1,ec,hs⟩:=zB hs
    refine⟨C',U3,t,c,t1,E3,R2,ec,λ C2 H4 g4 l4 R4=>?_⟩
    have a4:=sm _ _ hy
    have a1:=g4.fr D _ a4 (by nofun) a2
    have Y:=a2.mono g4 a4
    have G4:=(g.trans g2 Cc).trans g4 Cc
    cases c with
    | true =>
     rw[if_pos rfl]at hs
     refine iteT ?_
     obtain⟨v,t2,ev,hs⟩:=aa0 hs
     cases hs
     refine⟨C2,U3,t1,v,t3,E3.mono g4 l4,R4,ev,λ w C3 H5 g5 l5 b5 r5 R5=>?_⟩
     have Z:=g5.fr D _ a1 (by nofun) Y
     have a0:=Y.mono g5 a1
     refine⟨ys,Z,?_,?_⟩
     .rw[ra.length]
      have:=zN
      lia
     .have gw:Gw C3 t3.length H5 C3 (upd H5 D (.lst (ys++[w]))):=⟨λ _ _=>rfl,(Kp.refl H5).put Z rfl⟩
      have G5:=G4.trans g5 (am Cc l4)
      have GG:=g2.trans (g4.trans g5 l4) (aj _)
      have a6:=RVL.mono GG _ _ ba ra
      have bb:lZ t3.length (y++[v])=true:=zI (aa4 GG.le _ ba) (by unfold lZ;rw[b5];rfl)
      refine⟨C3,U3,t3,y++[v],ys++[w],r2,G5.foreign hD Z,R5.foreign Z a0,?_,zd,a0,RVL.monoW gw _ _ bb (a6.append (.cons r5 .nil)),bb,by simp;omega,hlt,rfl,?_,?_⟩
      .have E5:=(E3.mono g4 l4).mono g5 l5
       exact⟨E5.len,λ j e hj=>by
        obtain⟨h1,z,h2,h3⟩:=E5.val j e hj
        exact⟨h1,z,h2,RV.monoW gw _ _ h1 h3⟩⟩
      .cases hc;exact a5
      .cases hc;rw[hl];simp
    | false =>
     rw[if_neg aW]at hs
     refine cp3 ?_
     cases hs
     have GG:=g2.trans g4 (aj _)
     exact⟨C2,U3,t3,y,ys,r2,G4,R4,E3.mono g4 l4,a1,Y,RVL.mono GG _ _ ba ra,aa4 l4 _ ba,by lia,hlt,rfl,by cases hc;exact a5,by cases hc;exact hl⟩
  .have hi:=by omega
   rw[iq hge]at hc
   unfold nF at hc
   split at hc
   case isFalse=>exact fb hc
   rename_i a3
   cases hc
   refine .inl ⟨(wk C' H' s' g Cc R' a3 i).2 hge,?_⟩
   rw[bp]at hl
   subst hl
   exact k D ys C' H' (g1.trans g l1) (am l1 Cc) ba hy h0 a2 ra R'
variable {Γ:Gm} {X:Cx}
noncomputable def cn2 (Γ:Gm)(C:Nat->Addr)(H:Hp)(n:Nat)(D:Ends):nh->Prop
 | .next U=>∀ W,RE Γ C H n U W->D.nx W H
 | .ret d=>∀ v,d.bnd n=true->RV Γ C H d v->D.rt v H
 | .cont U=>∀ W,RE Γ C H n U W->D.ct W H
 | .brk U=>∀ W,RE Γ C H n U W->D.bk W H
def ak5 (Γ:Gm)(C:Nat->Addr)(s:lX)(H:Hp)(c:nh)(s':lX)(D:Ends):Prop :=
 ∀ C' H',Gr C s H C' s' H'->s.length<=s'.length->Rp Γ C' H' s'->cn2 Γ C' H' s'.length D c
def TSv (Γ:Gm)(m:l7->lX->mf nh):TS:=λ D W H=>∃ C U s c s',RE Γ C H s.length U W/\Rp Γ C H s/\m U s=.ok c s'/\ak5 Γ C s H c s' D
theorem PS.imp (h:PS X e t)(i:∀ D W H,t' D W H->t D W H):PS X e t':=λ y s W H Q I q=>h y s W H Q I (i Q W H q)
theorem PSs.imp (h:PSs X e t)(i:∀ D W H,t' D W H->t D W H):PSs X e t':=λ y s W H Q I q=>h y s W H Q I (i Q W H q)
theorem ak5.trans {D}(h:ak5 Γ C s H c s' D)(g:Gr C s H C1 s1 y)(l:s.length<=s1.length):ak5 Γ C1 s1 y c s' D :=
 λ C' H' g' z p=>h C' H' (g.trans g' l) (am l z) p
theorem ak5.here {D}(h:ak5 Γ C s H c s D)(p:Rp Γ C H s):cn2 Γ C H s.length D c:=h C H (Gr.refl C s H) (aj _) p
variable {D:Ends} {W:St} {H:Hp}
theorem bE6 (y:∀ U s,m U s=.ok (.next U) s)(h:TSv Γ m D W H):ca1 D W H:=by
 obtain⟨C,U,s,c,s',E,R,e,q⟩:=h
 rw[y]at e;cases e
 exact q.here R W E
theorem bz0 (h:TSv Γ (λ U s=>.ok (.cont U) s) D W H):cc3 D W H:=by
 obtain⟨C,U,s,c,s',E,R,e,q⟩:=h
 cases e
 exact q.here R W E
theorem ca4 (h:TSv Γ (λ U s=>(m U s).bind λ d s=>.ok (.ret d) s) D W H):cl7 (TEv Γ m) D W H:=by
 obtain⟨C,U,s,c,s',E,R,e,q⟩:=h
 obtain⟨x,s1,e1,e⟩:=aa0 e
 cases e
 exact⟨C,U,s,x,_,E,R,e1,λ v C1 y g1 l1 z r1 R1=>q C1 y g1 l1 R1 v z r1⟩
theorem bH4 (h:TSv Γ (λ U s=>(m U s).bind λ _ s=>.ok (.next U) s) D W H):bY1 (TEv Γ m) D W H:=by
 obtain⟨C,U,s,c,s',E,R,e,q⟩:=h
 obtain⟨x,s1,e1,e⟩:=aa0 e
 cases e
 exact⟨C,U,s,x,_,E,R,e1,λ v C1 y g1 l1 z r1 R1=>q C1 y g1 l1 R1 W (E.mono g1 l1)⟩
theorem aY5 (h:TSv Γ (λ U s=>(m U s).bind λ d s=>match mY U tg d with|some U=>.ok (.next U) s|none=>.bad) D W H):bm7 (TEv Γ m) (gOf Γ.K tg) D W H:=by
 obtain⟨C,U,s,c,s',E,R,e,q⟩:=h
 obtain⟨x,s1,e1,e⟩:=aa0 e
 refine⟨C,U,s,x,s1,E,R,e1,λ v C1 z g1 l1 Cc r1 R1=>?_⟩
 cases hb:mY U tg x with
 | none=>rw[hb]at e;cases e
 | some U1 =>
  rw[hb]at e
  cases e
  exact bK1 (E.mono g1 l1) r1 Cc hb λ W' y=>q C1 z g1 l1 R1 W' y
theorem bi7 (h:TSv Γ (λ U s=>((m U s).bind λ l s=>nv (.lst l) s).bind λ d s=>match mY U tg d with|some U=>.ok (.next U) s|none=>.bad) D W H):bm7 (TFv Γ m) (gOf Γ.K tg) D W H :=
 aU6 (aY5 h)
def bU9 (Γ:Gm):cd9:=λ o i v H Q=>∃ C s x y d s',Rp Γ C H s/\RV Γ C H x o/\RV Γ C H y i/\RV Γ C H d v/\x.bnd s.length=true/\y.bnd s.length=true/\d.bnd s.length=true/\DV.setIx x y d s=.ok () s' /\
 ∀ C' H',Gr C s H C' s' H'->s.length<=s'.length->Rp Γ C' H' s'->Q H'
theorem bn3 (h:TSv Γ (λ U s=>(J U s).bind λ d s=>(mo U s).bind λ x s=>(G U s).bind λ y s=>(DV.setIx x y d s).bind λ _ s=>.ok (.next U) s) D W H) :
  bm7 (TEv Γ J) (cl3 (TEv Γ mo) (TEv Γ G) (bU9 Γ)) D W H:=by
 obtain⟨C,U,s,c,s',E,R,e,q⟩:=h
 obtain⟨d,s1,e1,e⟩:=aa0 e
 obtain⟨x,s2,e2,e⟩:=aa0 e
 obtain⟨y,s3,e3,e⟩:=aa0 e
 obtain⟨u,s4,e4,e⟩:=aa0 e
 cases e
 refine⟨C,U,s,d,s1,E,R,e1,λ v1 C1 H1 g1 l1 Z r1 R1=>?_⟩
 refine⟨C1,U,s1,x,s2,E.mono g1 l1,R1,e2,λ v2 C2 H2 g2 z b2 r2 R2=>?_⟩
 have G2:=g1.trans g2 l1
 have L2:=am l1 z
 refine⟨C2,U,s2,y,s3,E.mono G2 L2,R2,e3,λ v3 C3 H3 g3 Cc b3 r3 R3=>?_⟩
 refine⟨C3,s3,x,y,d,_,R3,RV.mono g3 x v2 b2 r2,r3,RV.mono (g2.trans g3 z) d v1 Z r1,zl Cc x b2,b3,zl (am z Cc) d Z,e4,λ C4 H4 g4 l4 R4=>?_⟩
 have Y:=G2.trans g3 L2
 have L3:=am L2 Cc
 exact q C4 H4 (Y.trans g4 L3) (am L3 l4) R4 W (E.mono (Y.trans g4 L3) (am L3 l4))
theorem bX2 (hu:X.A.units+2<cLine):ch7 X (bU9 Γ):=by
 intro G sh W H o i v ov iv u Q I ro ri rv h
 obtain⟨C,s,x,y,d,s',R,rx,ry,rd,bx,a0,bd,Cc,q⟩:=h
 cases x with
 | ref r =>
  have Cc:(match s[r]? with
   | some (.lst l)=>(match y with
    | .int i=>(match mW l.length i with|some j=>DV.R.ok () (s.set r (.lst (l.set j d)))|none=>.bad)
    | _=>.bad)
   | some (.dic l)=>if y.key&&decide (l.length<mq)then .ok () (s.set r (.dic (mG y d l)))else .bad
   | _=>.bad)=.ok () s':=Cc
  cases e:s[r]? with
  | none=>rw[e]at Cc;cases Cc
  | some ob =>
   rw[e]at Cc
   cases ob with
   | lst l =>
    cases y with
    | int k =>
     have Cc:(match mW l.length k with|some j=>DV.R.ok () (s.set r (.lst (l.set j d)))|none=>.bad)=.ok () s':=Cc
     cases ej:mW l.length k with
     | none=>rw[ej]at Cc;cases Cc
     | some j =>
      rw[ej]at Cc
      cases Cc
      obtain⟨xs,Y,J⟩:=R.addr e
      have hb:lZ s.length (l.set j d)=true:=aa5.mpr λ z hz=>by
       rcases gB hz with h|h
       .exact aa5.mp (by have:=R.wf r _ e;unfold mn at this;exact this) z h
       .subst h;exact bd
      refine bi3 G sh W H o i v ov iv u Q I ro ri rv ⟨C r,xs,k,j,rx.refE,ry.intE,Y,?_,?_⟩
      .rw[J.length];exact ej
      .obtain⟨g,Z⟩:=R.set (o:=.lst (l.set j d)) e rfl hb λ H' g e=>⟨_,e,RVL.monoW g _ _ hb (J.set j rd)⟩
       exact q _ _ g (by simp) Z
    | _=>exact fb Cc
   | dic l =>
    have Cc:(if y.key&&decide (l.length<mq)then DV.R.ok () (s.set r (.dic (mG y d l)))else .bad)=.ok () s':=Cc
    split at Cc
    case isFalse=>exact fb Cc
    rename_i hc
    cases Cc
    rw[ak]at hc
    obtain⟨k,hk⟩:=qQ hc.1
    have hlt:=of_decide_eq_true hc.2
    obtain⟨kvs,Y,J⟩:=R.obj r _ e
    have ex:=rx.refE;subst ex
    cases ro
    have ey:=aq7 hk ry;subst ey
    have hb:=av4 (R.wf r _ e) a0 bd
    have a1:=by
     unfold mn at hb
     rw[ak]at hb
     exact hb.2
    obtain⟨g,Z⟩:=R.set e rfl hb λ H' g e=>⟨_,e,RVD.monoW g _ _ a1 (J.put zW hk rd)⟩
    exact be1 hu I (cd4.k Y (by rw[J.length];exact ao hlt zN)) ri rv λ s4 I4=>⟨_,I4,q _ _ g (by simp) Z⟩
   | _=>exact fb Cc
 | _=>exact fb Cc
theorem cl0 (h:TSv Γ (λ U s=>my (mc U s) λ k s=>if k then z U s else Cc U s) D W H):cl5 (TTv Γ mc) (TSv Γ z) (TSv Γ Cc) D W H:=by
 obtain⟨C,U,s,d,s',E,R,y,q⟩:=h
 obtain⟨c,s1,e1,y⟩:=zB y
 refine⟨C,U,s,c,s1,E,R,e1,λ C1 G g1 l1 R1=>?_⟩
 cases c with
 | true =>
  rw[if_pos rfl]at y ⊢
  exact⟨C1,U,s1,d,s',E.mono g1 l1,R1,y,q.trans g1 l1⟩
 | false =>
  rw[if_neg aW]at y ⊢
  exact⟨C1,U,s1,d,s',E.mono g1 l1,R1,y,q.trans g1 l1⟩
theorem bZ9 (h:TSv Γ (λ U s=>(Cc U s).bind λ c s=>match c with|.next U=>G U s|c=>.ok c s) D W H):co0 (TSv Γ Cc) (TSv Γ G) D W H:=by
 obtain⟨C,U,s,c,s',E,R,y,q⟩:=h
 obtain⟨J,s1,e1,y⟩:=aa0 y
 refine⟨C,U,s,J,s1,E,R,e1,λ C1 z g1 l1 R1=>?_⟩
 cases J with
 | next U1=>exact λ W1 Y=>⟨C1,U1,s1,c,s',Y,R1,y,q.trans g1 l1⟩
 | ret d=>cases y;exact q C1 z g1 l1 R1
 | cont U=>cases y;exact q C1 z g1 l1 R1
 | brk U=>cases y;exact q C1 z g1 l1 R1
theorem bg6 (h:TSv Γ (DV.whl mc z) D W H):bu8 (TTv Γ mc) (TSv Γ z) D W H:=by
 obtain⟨C,U,s,c,s',E,R,y,q⟩:=h
 unfold DV.whl at y
 split at y
 case isFalse=>exact fb y
 rename_i hn
 generalize hn.choose=n at y
 refine⟨λ n W H=>∃ C U s,RE Γ C H s.length U W/\Rp Γ C H s/\DV.jk mc z n U s=.ok c s'/\ak5 Γ C s H c s' D,⟨n,C,U,s,E,R,y,q⟩,?_⟩
 clear E R y q hn
 rintro n W H ⟨C,U,s,E,R,y,q⟩
 cases n with
 | zero=>exact fb y
 | succ n =>
  unfold DV.jk at y
  obtain⟨b,s1,e1,y⟩:=zB y
  refine⟨C,U,s,b,s1,E,R,e1,λ C1 Y g1 l1 R1=>?_⟩
  cases b with
  | false =>
   rw[if_neg aW]at y ⊢
   cases y
   exact q C1 Y g1 l1 R1 W (E.mono g1 l1)
  | true =>
   rw[if_pos rfl]at y ⊢
   obtain⟨J,s2,e2,y⟩:=aa0 y
   refine⟨_,λ W' H' w=>⟨n,du n,w⟩,C1,U,s1,J,s2,E.mono g1 l1,R1,e2,λ C2 H2 g2 Z R2=>?_⟩
   have G:=g1.trans g2 l1
   have L:=am l1 Z
   cases J with
   | next U1=>exact λ W1 Cc=>⟨C2,U1,s2,Cc,R2,y,q.trans G L⟩
   | cont U1=>exact λ W1 Cc=>⟨C2,U1,s2,Cc,R2,y,q.trans G L⟩
   | ret d=>cases y;exact q C2 H2 G L R2
   | brk U=>cases y;exact q C2 H2 G L R2
theorem bu2 (h:TSv Γ (λ U s=>(mI U s).bind λ q s0=>nX (λ s=>m9 s0 s q.src) (λ d U s=>match mY U tg d with
  | some U=>mb U s
  | none=>.bad) q.its U s0) D W H):cj8 (TIv Γ mI) (gOf Γ.K tg) (TSv Γ mb) D W H:=by
 obtain⟨C,U,s,c,s',E,R,hm,k⟩:=h
 obtain⟨q,s0,e1,hm⟩:=aa0 hm
 refine⟨C,U,s,q,s0,E,R,e1,λ J C1 H1 g1 l1 b1 R1 wk=>?_⟩
 refine⟨λ i m W' H'=>∃ C' U' t,Gr C1 s0 H1 C' t H'/\Rp Γ C' H' t/\RE Γ C' H' t.length U' W'/\i<=q.its.length/\m=q.its.length - i /\
  nX (λ s=>m9 s0 s q.src) (λ d U s=>match mY U tg d with
   | some U=>mb U s
   | none=>.bad) (q.its.drop i) U' t=.ok c s',⟨q.its.length,?_⟩,?_⟩
 .exact⟨C1,U,s0,Gr.refl _ _ _,R1,E.mono g1 l1,dZ _,by simp,by rw[eZ];exact hm⟩
 .rintro i m W' H' ⟨C',U',t,g,G,E',hil,rfl,hc⟩
  have y:=g.le
  rcases lL i q.its.length with hlt|hge
  .have hd:=ag hlt
   rw[c6 hlt]at hc
   unfold nX at hc
   split at hc
   case isFalse=>exact fb hc
   rename_i z
   obtain⟨a1,Z⟩:=(wk C' H' t g y G z i).1 hlt
   refine .inr ⟨a1,_,λ W2 H2 n=>⟨q.its.length - (i+1),by omega,n⟩,λ x H2 a0=>?_⟩
   obtain⟨sm,rv⟩:=Z x H2 a0
   obtain⟨g2,R2⟩:=G.same sm
   have rd:=rv _ hd
   have bd:=zl y _ (af7 b1 hd)
   obtain⟨c1,t3,hs,hc⟩:=aa0 hc
   cases hb:mY U' tg q.its[i]with
   | none=>rw[hb]at hs;cases hs
   | some U3 =>
    rw[hb]at hs
    refine bK1 (E'.mono g2 (aj _)) rd bd hb λ W3 E3=>?_
    refine⟨C',U3,t,c1,t3,E3,R2,hs,λ C2 H4 g4 l4 Cc=>?_⟩
    have Y:=(g.trans g2 y).trans g4 y
    have L4:=am y l4
    have GG:=g1.trans Y l1
    cases c1 with
    | next U1=>exact λ W1 E1=>⟨C2,U1,t3,Y,Cc,E1,hlt,rfl,hc⟩
    | cont U1=>exact λ W1 E1=>⟨C2,U1,t3,Y,Cc,E1,hlt,rfl,hc⟩
    | ret d=>cases hc;exact k C2 H4 GG (am l1 L4) Cc
    | brk U=>cases hc;exact k C2 H4 GG (am l1 L4) Cc
  .rw[iq hge]at hc
   unfold nX at hc
   split at hc
   case isFalse=>exact fb hc
   rename_i z
   cases hc
   exact .inl ⟨(wk C' H' s' g y G z i).2 hge,k C' H' (g1.trans g l1) (am l1 y) G W' E'⟩
noncomputable def bZ4 (H0:Hp)(D:Ends):Ends where
 nx:=λ W H=>∃ a o kvs,H a=some (.frz o (.dK kvs))/\(∀ o u,H0 a≠some (.frz o u))/\D.nx W (upd H a (.dK kvs))
 rt:=λ v H=>∃ a o kvs,H a=some (.frz o (.dK kvs))/\(∀ o u,H0 a≠some (.frz o u))/\D.rt v (upd H a (.dK kvs))
 bk:=λ W H=>∃ a o kvs,H a=some (.frz o (.dK kvs))/\(∀ o u,H0 a≠some (.frz o u))/\D.bk W (upd H a (.dK kvs))
 ct:=λ W H=>∃ a o kvs,H a=some (.frz o (.dK kvs))/\(∀ o u,H0 a≠some (.frz o u))/\D.ct W (upd H a (.dK kvs))
theorem bG6 {st}(h:PS X st t):PS X st (λ D W H=>t (bZ4 H D) W H):=by
 intro Cc s W H D I q
 have G:∀ {a},(∀ o u,H a≠some (.frz o u))->∀ o u,X.H₀ a≠some (.frz o u):=λ n o u z=>n o u (I.base.frzs _ _ _ z)
 refine thn (h Cc s W H _ I q) λ f s' hs=>?_
 cases f with
 | next=>obtain⟨W',H',y,a,o,kvs,e,n,q⟩:=hs;exact⟨W',_,y.thawK e (G n),q⟩
 | brk=>obtain⟨W',H',y,a,o,kvs,e,n,q⟩:=hs;exact⟨W',_,y.thawK e (G n),q⟩
 | cont=>obtain⟨W',H',y,a,o,kvs,e,n,q⟩:=hs;exact⟨W',_,y.thawK e (G n),q⟩
 | ret u=>obtain⟨v,W',H',y,r,a,o,kvs,e,n,q⟩:=hs;exact⟨v,W',_,y.thawK e (G n),r,q⟩
theorem aZ3 { b:α}(h:oG src a s=.ok b s'):∃ r l,src=[r]/\s[r]?=some (.dicF l)/\b=a/\s'=s.set r (.dic l):=by
 unfold oG at h
 split at h
 .split at h
  .rename_i l e;cases h;exact⟨_,l,rfl,e,rfl,rfl⟩
  .exact fb h
 .exact fb h
theorem bA1 (h:TSv Γ (λ U s=>(mI U s).bind λ q s0=>if DV.aO9 s q.src then(nX (λ s=>m9 s0 s q.src) (λ d U s=>match mY U tg d with
  | some U=>mb U s
  | none=>.bad) q.its U s0).bind (λ c s=>oG q.src c s)else .bad) D W H):cj8 (TIv Γ mI) (gOf Γ.K tg) (TSv Γ mb) (bZ4 H D) W H:=by
 obtain⟨C,U,s,c,s',E,R,Z,k⟩:=h
 obtain⟨q,s0,e1,Z⟩:=aa0 Z
 split at Z
 case isFalse=>exact fb Z
 rename_i hz
 obtain⟨c',s1,e2,Z⟩:=aa0 Z
 obtain⟨r,l,hq,G,rfl,rfl⟩:=aZ3 Z
 refine bu2 ⟨C,U,s,c,s1,E,R,(by show(mI U s).bind _=_;rw[e1];exact e2),λ C' H' g hl R'=>?_⟩
 obtain⟨o,kvs,ea,rd⟩:=R'.obj r _ G
 have wf:=R'.wf _ _ G
 have Y:=wf
 unfold mn at Y
 rw[ak]at Y
 have y:∀ o u,H (C' r)≠some (.frz o u):=λ o2 u z=>by
  by_cases hi:r<s.length
  .obtain⟨ob,eo⟩:∃ ob,s[r]?=some ob:=⟨s[r],ag hi⟩
   have ho:=R.obj r ob eo
   rw[g.w.map r hi]at z
   have kd:=g.kd r ob _ eo G
   rw[hq]at hz
   unfold DV.aO9 at hz
   rw[dP,eo]at hz
   cases ob with
   | dic l2=>obtain⟨_,e,_⟩:=ho;rw[z]at e;cases e
   | dicF l2=>cases hz
   | _=>cases kd
  .have:=g.new r (by omega) (ac.mp G).1
   rw[z]at this;cases this
 have R2:=(R'.set1 (o:=.dic l) G rfl wf (λ H' g e=>⟨kvs,e,RVD.monoW g l kvs Y.2 rd⟩) rfl).2
 have gw:Gw C' s1.length H' C' (upd H' (C' r) (.dK kvs)):=⟨λ _ _=>rfl,(Kp.refl H').put ea rfl⟩
 have ne:∀ b u,H b=some u->(bV5 u=true\/(∃ ob kv,u=.frz ob (.dK kv))\/H' b=some u)->H' b=some u->b≠C' r:=λ b u hb hu a0 zz=>by
  subst zz
  rw[ea]at a0;cases a0
  exact y _ _ hb
 have g2:Gr C s H C' (s1.set r (.dic l)) (upd H' (C' r) (.dK kvs)):=by
  refine⟨⟨g.w.map,λ b u hb hu=>?_⟩,by rw[aU];exact g.le,λ i h1 J=>g.new i h1 (by rw[aU]at J;exact J),λ i o1 o2 h1 J=>?_,λ b hb=>?_,λ b ob kv hb=>?_,λ b u hb nt no=>?_⟩
  .have:=g.w.kp b u hb hu
   rw[za (ne b u hb (.inl hu) this)];exact this
  .by_cases hi:i=r
   .subst hi
    rw[aJ (ac.mp G).1]at J
    cases J
    have kd:=g.kd i o1 (.dicF l) h1 G
    exact kd
   .rw[aB (bH hi)]at J;exact g.kd i o1 o2 h1 J
  .unfold upd;split
   .simp
   .exact g.st b hb
  .have:=g.fz b ob kv hb
   rw[za (ne b _ hb (.inr (.inl ⟨_,_,rfl⟩)) this)];exact this
  .have:=g.fr b u hb nt no
   rw[za (ne b u hb (.inr (.inr this)) this)];exact this
 have fin:=k C' _ g2 (by rw[aU];exact hl) R2
 rw[aU]at fin
 have re:∀ {U1} {W1},RE Γ C' H' s1.length U1 W1->RE Γ C' (upd H' (C' r) (.dK kvs)) s1.length U1 W1:=λ Cc=>⟨Cc.len,λ i d e=>by
  obtain⟨b,v,e1,e2⟩:=Cc.val i d e
  exact⟨b,v,e1,RV.monoW gw d v b e2⟩⟩
 cases c with
 | next U1=>exact λ W1 Cc=>⟨_,_,_,ea,y,fin W1 (re Cc)⟩
 | ret d=>exact λ v b rv=>⟨_,_,_,ea,y,fin v b (RV.monoW gw d v b rv)⟩
 | cont U1=>exact λ W1 Cc=>⟨_,_,_,ea,y,fin W1 (re Cc)⟩
 | brk U1=>exact λ W1 Cc=>⟨_,_,_,ea,y,fin W1 (re Cc)⟩
structure Ck where
 N:List Str
 sc:Scope
 lk:String->List Nat->Expr->Bool
noncomputable abbrev ck0 (N:yH)(sc:Scope):Ck:=⟨N,sc,λ _ _ _=>false⟩
noncomputable def Ck.vis (c:Ck)(x:Str):Bool:=match c.sc.names.lookup x with|some .local=>true|some .cell=>true|some .free=>true|_=>false
noncomputable def Ck.loc (c:Ck)(x:Str):Bool:=match c.sc.names.lookup x with|some .local=>true|some .cell=>true|_=>false
noncomputable def Ck.gl (c:Ck)(x:Str):Bool:=(match c.sc.names.lookup x with|some .globalImplicit=>true|_=>false)&&!(x==("__debug__"))&&!decide (x=("__name__"))
noncomputable def Ck.var (c:Ck)(i:Nat)(x:Str):Bool:=decide (c.N[i]?=some x)&&c.vis x&&!(x==("__debug__"))&&!(x==("__classdict__"))
noncomputable def shp:Expr->Bool
 | .Starred ..=>false
 | .Set ..=>false
 | .SetComp ..=>false
 | .DictComp ..=>false
 | .GeneratorExp ..=>false
 | .Slice ..=>false
 | .NamedExpr ..=>false
 | _=>true
noncomputable def aA2:Expr->Bool
 | .ListComp ..=>false
 | .SetComp ..=>false
 | .DictComp ..=>false
 | _=>true
noncomputable def bV2:Expr->Bool
 | .Tuple ..=>false
 | _=>true
noncomputable def aZ7:Expr->Bool
 | .Call _ [] [] _=>false
 | _=>true
noncomputable def mC:DV.Cn->Const->Bool
 | .non,.none=>true
 | .bl b,.bool c=>b==c
 | .int i,.int j=>decide (i=j)
 | .str x,.str y=>decide (y=⟨x.toArray⟩)&&decide (x.length<=1000)
 | _,_=>false
noncomputable def cd2 (ck:Ck):List Nat->List Expr->Bool
 | [],[]=>true
 | i::is,.Name x _::es=>decide (ck.N[i]?=some x)&&ck.loc x&&cd2 ck is es
 | _,_=>false
noncomputable def mTg (ck:Ck):ng->Expr->Bool
 | .one i,.Name x _=>decide (ck.N[i]?=some x)&&ck.loc x
 | .tup is,.Tuple es _ _=>cd2 ck is es
 | _,_=>false
noncomputable def tgN:Expr->List Str
 | .Name x _=>[x]
 | .Tuple es _ _=>es.filterMap λ e=>match e with|.Name x _=>some x|_=>none
 | _=>[]
structure ItT where
 x:Str
 y:Str
 ob:Expr
 sc:Scope
 p1:Pos
 p2:Pos
 p3:Pos
 p4:Pos
 p5:Pos
 p6:Pos
 p7:Pos
 k1:Nat
 k2:Nat
 ap:Pos
 cp:Pos
 pos:Pos
noncomputable def ItT.tg (q:ItT):Expr:=.Tuple [.Name q.x q.p5,.Name q.y q.p6] q.k2 q.p7
noncomputable def ItT.it (q:ItT):Expr:=.Call (.Attribute q.ob "items" q.ap) [] [] q.cp
noncomputable def ItT.text (q:ItT):Expr:=.ListComp (.BinOp (.Name q.x q.p1) .Add (.Tuple [.Name q.y q.p2] q.k1 q.p3) q.p4) [⟨q.tg,q.it,[],0⟩] q.sc q.pos
noncomputable def ckC (ck:Ck)(tgt:Expr)(caps:yD)(scope:Scope):Ck:=⟨tgN tgt++(caps.filterMap id).map λ j=>ck.N.getD j "",scope,λ _ _ _=>false⟩
noncomputable def aQ2 (ck:Ck)(tg:ng)(tgt iter:Expr)(caps:yD)(scope:Scope):Bool :=
 zV (ckC ck tgt caps scope).N caps scope ck.N ck.sc&&decide ((ckC ck tgt caps scope).N.Nodup)&&mTg (ckC ck tgt caps scope) tg tgt&&shp iter
noncomputable def bR8:Expr->Bool
 | .Tuple ..=>true
 | _=>false
noncomputable def biT:nj->Option Str
 | .len=>some "len" | .abs=>some "abs" | .min2=>some "min" | .int=>some "int" | .str=>some "str" | _=>none
noncomputable def biK:nj->Option (Nat×Str)
 | .isInt=>some (1, "int")|.isBool=>some (2, "bool")|.isStr=>some (3, "str")|.isTup=>some (4, "tuple")|.isList=>some (5, "list")|_=>none
noncomputable def mkT:n6->Option Str
 | .tuple=>some "tuple" | .list=>some "list" | _=>none
noncomputable def mkF:n6->Option Str
 | .min=>some "min" | _=>none
noncomputable def mtT:n8->Option (Str×Nat)
 | .append=>some ("append",1)|_=>none
noncomputable def bg4:nB->Bool
 | .nil=>false
 | .ex _ as=>bg4 as
 | .lam _ _ _=>true
 | .fn _ as=>bg4 as
noncomputable def cd1 (ck:Ck)(b:nj)(x:Str)(xs:yK)(m1 m2:Bool):Bool:=match biK b with
 | some p=>(match xs with|[_,.Name y _]=>decide (x=("isinstance"))&&ck.gl x&&decide (y=p.2)&&ck.gl y&&m2|_=>false)
 | none=>(match xs with|_::_=>decide (biT b=some x)&&ck.gl x&&m1|[]=>false)
noncomputable def qL:bh->Option (List Str)
 | ⟨[],args,none,[],[],none,[]⟩=>some (args.map (·.arg))
 | _=>none
noncomputable def bv5 (j:Int):Expr->Bool
 | .Lambda params body scope _=>(match body with
  | .Subscript o i _=>(match o,i with
   | .Name y _,.Constant c _ _=>decide (c=.int j)&&decide (qL params=some [y])&&decide (scope.names.lookup y=some .local)&&!(y==("__debug__"))
   | _,_=>false)
  | _=>false)
 | _=>false
mutual
noncomputable def mE (ck:Ck):nr->Expr->Bool
 | .var i,E=>match E with|.Name x _=>ck.var i x|_=>false
 | .cst c,E=>match E with|.Constant v _ _=>mC c v|_=>false
 | .glob g,E=>match E with|.Name x _=>decide (x=(g:Str))&&ck.gl x|_=>false
 | .bin op a b,E=>match E with|.BinOp l o r _=>decide (o=cj1 op)&&mE ck a l&&mE ck b r|_=>false
 | .not a,E=>match E with|.UnaryOp .Not l _=>mE ck a l|_=>false
 | .cmp op a b,E=>match E with|.Compare l [o] [r] _=>decide (o=ao7 op)&&mE ck a l&&mE ck b r|_=>false
 | .chain o p a b c,E=>match E with|.Compare l [o1,o2] [m,r] _=>decide (o1=ao7 o)&&decide (o2=ao7 p)&&mE ck a l&&mE ck b m&&mE ck c r|_=>false
 | .isN a,E=>match E with|.Compare l [.Is] [.Constant .none _ _] _=>mE ck a l|_=>false
 | .notN a,E=>match E with|.Compare l [.IsNot] [.Constant .none _ _] _=>mE ck a l|_=>false
 | .and a b,E=>match E with
  | .BoolOp .And [l,r] _=>mE ck a l&&mE ck b r
  | .BoolOp .And (l::m::r::es) p=>mE ck a l&&mE ck b (.BoolOp .And (m::r::es) p)
  | _=>false
 | .or a b,E=>match E with
  | .BoolOp .Or [l,r] _=>mE ck a l&&mE ck b r
  | .BoolOp .Or (l::m::r::es) p=>mE ck a l&&mE ck b (.BoolOp .Or (m::r::es) p)
  | _=>false
 | .ite c a b,E=>match E with|.IfExp t l r _=>mE ck c t&&mE ck a l&&mE ck b r|_=>false
 | .tup es,E=>match E with|.Tuple xs _ _=>mEs ck es xs&&decide (xs.length<=1000)|_=>false
 | .lst es,E=>match E with|.List xs _=>mEs ck es xs&&decide (xs.length<=1000)|_=>false
 | .dic ks vs,E=>match E with|.Dict a b _=>(match a,b with|[],[]=>mEs ck ks []&&mEs ck vs []|[some x],[y]=>mEs ck ks [x]&&mEs ck vs [y]|_,_=>false)|_=>false
 | .slU a hi,E=>match E with|.Subscript o (.Slice none (some h) none _) _=>mE ck a o&&mE ck hi h|_=>false
 | .ix a b,E=>match E with|.Subscript o i _=>mE ck a o&&mE ck b i|_=>false
 | .call f as,E=>match E with|.Call (.Name x _) xs [] _=>decide (x=(f:Str))&&ck.gl x&&mAs ck as xs|_=>false
 | .callC f as,E=>match E with|.Call (.Name x _) (y::ys) [] _=>decide (x=(f:Str))&&ck.gl x&&bg4 as&&bM8 ck as (y::ys)|_=>false
 | .callV i es,E=>match E with|.Call (.Name x _) (y::ys) [] _=>ck.var i x&&mEs ck es (y::ys)|_=>false
 | .bi b es,E=>match E with|.Call (.Name x _) xs [] _=>cd1 ck b x xs (mEs ck es xs) (mEs ck es (xs.take 1))|_=>false
 | .mk k l,E=>match E with
  | .Call (.Name x _) [a] [] _=>ck.gl x&&shp a&&((decide (mkT k=some x)&&mL ck 2 l a)||(decide (mkF k=some x)&&mL ck 1 l a))
  | .ListComp e gs sc p=>decide (k=.list)&&mL ck 0 l (.ListComp e gs sc p)
  | _=>false
 | .mkD k l d,E=>match E with
  | .Call (.Name x _) [a] [⟨some y,de,_⟩] _=>(decide (k=.min)&&decide (x=("min":Str)))&&decide (y=("default":Str))&&ck.gl x&&shp a&&mL ck 1 l a&&mE ck d de
  | _=>false
 | .meth m o es,E=>match E with
  | .Call (.Attribute ob x ap) xs [] cp=>decide (mtT m=some (x,xs.length))&&aZ7 ob&&(ap.endLine==cp.line)&&mE ck o ob&&mEs ck es xs
  | _=>false
 | .ext o l,E=>match E with
  | .Call (.Attribute ob x ap) [a] [] cp=>decide (x=("extend":Str))&&aZ7 ob&&(ap.endLine==cp.line)&&mE ck o ob&&mL ck 1 l a&&shp a
  | _=>false
 | .mkDs k e d,E=>match E with
  | .Call (.Name x _) [a] [⟨some y,de,_⟩] _=>decide (k=.min)&&decide (x=("min":Str))&&decide (y=("default":Str))&&ck.gl "min"&&shp a&&mE ck e a&&mE ck d de
  | _=>false
 | .minK id e j,E=>match E with
  | .Call (.Name x _) [a] [⟨some y,le,_⟩] _=>decide (x=("min":Str))&&decide (y=("key":Str))&&ck.gl "min"&&shp a&&mE ck e a&&ck.lk id [] le&&bv5 j le
  | _=>false
 | .gtd o k d,E=>match E with|.Call (.Attribute ob x ap) [a,b] [] cp=>decide (x=("get":Str))&&aZ7 ob&&(ap.endLine==cp.line)&&mE ck o ob&&mE ck k a&&mE ck d b&&shp a&&shp b|_=>false
 | .sdf o k d,E=>match E with|.Call (.Attribute ob x ap) [a,b] [] cp=>decide (x=("setdefault":Str))&&aZ7 ob&&(ap.endLine==cp.line)&&mE ck o ob&&mE ck k a&&mE ck d b&&shp a&&shp b|_=>false
 | .upd o e,E=>match E with|.Call (.Attribute ob x ap) [a] [] cp=>decide (x=("update":Str))&&aZ7 ob&&(ap.endLine==cp.line)&&mE ck o ob&&mE ck e a&&shp a|_=>false
 | .srtD e,E=>match E with|.Call (.Name x _) [a] [] _=>decide (x=("sorted":Str))&&ck.gl x&&shp a&&mE ck e a|_=>false
noncomputable def mEs (ck:Ck):mM->List Expr->Bool
 | .nil,xs=>match xs with|[]=>true|_=>false
 | .cons e es,xs=>match xs with|x::xs=>mE ck e x&&shp x&&mEs ck es xs|_=>false
noncomputable def mFs (ck:Ck):mM->List Expr->Bool
 | .nil,xs=>match xs with|[]=>true|_=>false
 | .cons e es,xs=>match xs with
  | .FormattedValue v c none _::xs=>decide (c=-1)&&mE ck e v&&mFs ck es xs
  | .Constant v j p::xs=>mE ck e (.Constant v j p)&&mFs ck es xs
  | _=>false
noncomputable def mAs (ck:Ck):nB->List Expr->Bool
 | .nil,xs=>match xs with|[]=>true|_=>false
 | .ex e es,xs=>match xs with|x::xs=>mE ck e x&&shp x&&mAs ck es xs|_=>false
 | .lam _ _ _,_=>false
 | .fn _ _,_=>false
noncomputable def bM8 (ck:Ck):nB->List Expr->Bool
 | .nil,xs=>match xs with|[]=>true|_=>false
 | .ex e es,xs=>match xs with|x::xs=>mE ck e x&&shp x&&bM8 ck es xs|_=>false
 | .lam id caps es,xs=>match xs with|x::xs=>ck.lk id caps x&&shp x&&bM8 ck es xs|_=>false
 | .fn _ _,_=>false
noncomputable def mI (ck:Ck)(tgt:Expr):DV.I->Expr->Bool
 | .rng1 a,E=>match E with|.Call (.Name x _) [l] [] _=>decide (x=("range":Str))&&ck.gl x&&mE ck a l&&shp l|_=>false
 | .seq e,x=>mE ck e x&&shp x
 | .enum (.seq a),E=>match E with|.Call (.Name x _) [l] [] _=>decide (x=("enumerate":Str))&&ck.gl x&&mE ck a l&&shp l&&bR8 tgt|_=>false
 | .enum _,_=>false
 | .keys e,x=>mE ck e x&&shp x
noncomputable def mL (ck:Ck)(k:Nat):DV.L->Expr->Bool
 | .comp tg it e caps,E=>match E with|.ListComp elt [⟨tgt,iter,[],z⟩] scope _=>decide (z=0)&&aQ2 ck tg tgt iter caps scope&&mI ck tgt it iter&&mE (ckC ck tgt caps scope) e elt|_=>false
 | .compIf tg it c e caps,E=>match E with|.ListComp elt [⟨tgt,iter,[i],z⟩] scope _=>decide (z=0)&&aQ2 ck tg tgt iter caps scope&&mI ck tgt it iter&&mE (ckC ck tgt caps scope) c i&&mE (ckC ck tgt caps scope) e elt|_=>false
 | .disp es,E=>match E with|.List xs _=>decide (1<=k)&&mEs ck es xs&&decide (xs.length<=1000)|_=>false
 | .seq e,x=>decide (k=2)&&mE ck e x
end
theorem ff {p:Prop}(h:false=true):p:=Bool.noConfusion h
noncomputable def bH7:bh->Bool
 | ⟨[], args, none, [], [], none, []⟩ => args.all λ y => y.annotation.isNone
 | _=>false
noncomputable def cn5:List Stmt->Option (Str×bh×Expr×Pos×Scope×Pos×List Stmt)
 | .FunctionDef nm params [.Return (some b) rp] [] none [] scope none nm' pos::xs=>if nm'=nm then some (nm,params,b,rp,scope,pos,xs)else none
 | _=>none
noncomputable def cl4 (nm:Str):List Stmt->Option (Str×Pos×Expr×Pos×Pos×Pos)
 | [.Return (some (.Call (.Name g gp) [a,.Name x p2] [] cp)) rp2]=>if x=nm then some (g,gp,a,p2,cp,rp2)else none
 | _=>none
noncomputable def ce1:oH->nN->Option (Nat×String×nr×String×List Nat)
 | .und i,.cons (.ret (.callC g (.ex e (.lam id caps .nil)))) .nil=>some (i,g,e,id,caps)
 | _,_=>none
noncomputable def cb1 (ck:Ck)(s:oH)(ss:nN)(S:yL):Bool :=
 (ce1 s ss).any λ d=>(cn5 S).any λ q=>(cl4 q.1 q.2.2.2.2.2.2).any λ r =>
  decide (ck.N[d.1]?=some q.1)&&ck.loc q.1&&ck.var d.1 q.1&&ck.lk d.2.2.2.1 d.2.2.2.2 (.NamedExpr (.Name q.1 q.2.2.2.1) (.Lambda q.2.1 q.2.2.1 q.2.2.2.2.1 q.2.2.2.2.2.1) q.2.2.2.2.2.1)&&decide (r.1=(d.2.1))&&ck.gl r.1&&mE ck d.2.2.1 r.2.2.1&&shp r.2.2.1&&bH7 q.2.1
mutual
noncomputable def mS (ck:Ck):oH->Stmt->Bool
 | .asg tg e,S=>match S with
  | .Assign [t] v _=>mTg ck tg t&&mE ck e v&&(match tg with|.one _=>true|.tup _=>bV2 v&&aA2 v)
  | _=>false
 | .setIx o i e,S=>match S with|.Assign [.Subscript ob ix _] v _=>mE ck o ob&&mE ck i ix&&mE ck e v&&aA2 v|_=>false
 | .ex e,S=>match S with|.Expr v _=>mE ck e v&&aA2 v|_=>false
 | .ret e,S=>match S with|.Return (some v) _=>mE ck e v|_=>false
 | .ite c a b,S=>match S with|.If t l r _=>mE ck c t&&mSs ck a l&&mSs ck b r|_=>false
 | .whl c b,S=>match S with|.While t l [] _=>mE ck c t&&mSs ck b l|_=>false
 | .for_ tg it b,S=>match S with|.For tgt iter l [] _=>mTg ck tg tgt&&mI ck tgt it iter&&mSs ck b l|_=>false
 | .cont,S=>match S with|.Continue _=>true|_=>false
 | .und _,_=>false
 | .forK tg e b,S=>match S with|.For tgt iter l [] _=>mTg ck tg tgt&&(mE ck e iter&&shp iter)&&mSs ck b l|_=>false
noncomputable def mSs (ck:Ck):nN->List Stmt->Bool
 | .nil,xs=>match xs with|[]=>true|_=>false
 | .cons s ss,xs=>match xs with|x::xs=>cb1 ck s ss (x::xs)||(mS ck s x&&mSs ck ss xs)|_=>false
end
theorem aC5 (h:mE y e E=true):shp E=true:=by
 cases E<;>first|rfl|(exfalso;cases e<;>exact ff h)
theorem bQ4 (h:mI y z e E=true):shp E=true:=by
 cases e with
 | seq e=>have h:(mE y e E&&shp E)=true:=h;rw[ak]at h;exact h.2
 | keys e=>have h:(mE y e E&&shp E)=true:=h;rw[ak]at h;exact h.2
 | enum a=>cases E<;>first|rfl|(exfalso;cases a<;>exact ff h)
 | _=>cases E<;>first|rfl|exact ff h
theorem zb {es:yK}(h:shp e=true):bf (e::es) env=(false,eval e env)::bf es env:=by
 cases e<;>first|rfl|cases h
theorem zt :∀ {es:yK},(∀ e∈es,shp e=true)->(dR pos (bf es env)).any (·.1)=false/\(dR pos (bf es env)).all (λ x=>!x.1)=true
 | [],_=>⟨rfl,rfl⟩
 | e::es,h=>by
  have Cc:=zb (es:=es) (env:=env) (h e (az ..))
  obtain⟨y,z⟩:=zt (env:=env) (pos:=pos) λ x hx=>h x (ar _ hx)
  rw[Cc]
  unfold dR at y z ⊢
  simp only[aS,gT,dP,y,z]
  exact⟨rfl,rfl⟩
theorem as8 (h:shp e=true) x :dW e env x=pure x:=by
 cases e<;>first|rfl|cases h
theorem ak8 (h:shp e=true):dh op e=false:=by
 cases e<;>first|rfl|cases h
theorem aw2 (h:aA2 e=true):ga e t l env=pure false:=by
 cases e<;>first|rfl|cases h
theorem ah9 (h:aZ7 e=true):eB e f env (eval e env)=eval e env:=by
 cases e with
 | Call g a k p =>
  cases g with
  | Name x p' =>
   cases a with
   | nil=>cases k with
    | nil=>cases h
    | cons _ _=>rfl
   | cons _ _=>rfl
  | _=>rfl
 | _=>rfl
theorem aR3 {es:yK}(h:bV2 e=true):jA [.Tuple es k p] e env=pure none:=by
 cases e<;>first|rfl|cases h
theorem aR7 :jA [.Subscript o i p] e env=pure none:=by
 cases e<;>rfl
theorem aO6 (h:shp e=true):bf9 e:=by
 intro o i
 cases e<;>first|rfl|cases h
def spV (Γ:Gm)(c:List lY->lX->mf lY):Sp:=λ vs H Q _=>rCl Γ c vs H Q
noncomputable def bNames:List Str:=["len", "abs", "min", "max", "int", "isinstance", "bool", "str", "tuple", "list", "range", "sum", "all", "any", "sorted", "zip", "enumerate", "ord"]
def spL (Γ:Gm)(c:List lY->List lY->lX->mf lY)(cap:List V):Sp:=λ vs H Q _=>∃ C s cs l d s',Rp Γ C H s/\RVL Γ C H l vs/\RVL Γ C H cs cap/\lZ s.length l=true/\lZ s.length cs=true/\c cs l s=.ok d s'/\ae0 Γ C s H d s' Q
noncomputable def LamI.own (J:LamI):Str:=match J.nm with|none => "<lambda>" | some p=>p.1
noncomputable def qM (J:LamI)(params:bh)(body:Expr)(scope:Scope)(pos:Pos):Expr:=match J.nm with
 | none=>.Lambda params body scope pos
 | some p=>.NamedExpr (.Name p.1 p.2) (.Lambda params body scope pos) pos
structure LamHere (Γ:Gm)(X:Cx)(N:yH)(id:String)(caps:List Nat)(params:bh)(body:Expr)(scope:Scope)(c P:Addr)(J:LamI):Prop where
 code:X.env.code=.ref c
 hd:bO X.base c P
 bm:BM X.mg X.base
 ck:lamCheck scope X.env.scope=true
 df:k6 params X.env=([],[])
 lg:Γ.lg id J
 q:J.qual=X.env.qual++J.own
 p:J.params=params
 b:J.body=body
 s:J.scope=scope
 len:J.fr.length=caps.length
 at_:∀(i j:Nat) (x:Str),caps[i]?=some j->J.fr[i]?=some x->N[j]?=some x
 fr:∀ x∈J.fr,scope.names.lookup x=some .free
 cl:∀ x,scope.names.lookup x=some .free->∃ c,X.env.cells.lookup x=some c
 tab:(P,J.qual)∈Γ.T
 nd:(Γ.T.map (·.1)).Nodup
 fn:∀ x,X.fn x=true
 kd:∀ x c,X.env.cells.lookup x=some c->X.env.kindOf x=some .cell\/X.env.kindOf x=some .free
 gs:LamScope (J.ps++J.fr) J.ps J.fr J.scope
 gp:qL J.params=some J.ps
 gb:∀(clos:yB) (pm:Value) (c':Addr) (ctv:Value) (us:yG),us.length=J.ps.length->d4 (bv "<lambda>" J.qual J.params J.body J.scope clos pm (.ref c') ctv) ⟨us,[]⟩=pure (J.ps.zip us)
noncomputable def strD (kvs:List (List Nat×List Nat)):List (PyData×PyData):=kvs.map λ p=>(.str ⟨p.1.toArray⟩,.str ⟨p.2.toArray⟩)
def ObOk (Γ:Gm)(prog:aI)(w:World)(K:ah)(mg:yC)(base:Heap)(F:mz)(n:Nat):Prop:=True
structure CG (Γ:Gm)(F:mz)(n:Nat)(X:Cx)(ck:Ck):Prop where
 K:X.K=Γ.K
 N:X.N=ck.N
 nd:ck.N.Nodup
 xe:X.xe=λ _ _=>False
 calm:X.calm=true
 deep:mB+1<=n
 room:Room n X.A
 sc:∀ x k,ck.sc.names.lookup x=some k->X.env.scope.names.lookup x=some k\/(k=.free/\X.env.scope.names.lookup x=some .cell)
 fn:∀ x,ck.sc.names.lookup x=some .cell->X.fn x=true
 bi:∀ x∈bNames,X.mg x=none
 call:∀ f:String,(∀ l s,F.call f l s=.bad)\/∃ a fd ps,FnOk X.prog X.w X.K X.mg X.base CX0 n a fd ps (spV Γ (F.call f))/\X.mg (f:Str)=some (.ref a)/\cH X.K (.ref a)=true/\Binds X.K fd ps []
 con:∀ x d,F.con x=some d->∃ v u,X.mg (x:Str)=some u/\RelV v u/\(∀ m,d.bnd m=true)/\∀ C H,RV Γ C H d v
 lam:∀ id caps E,ck.lk id caps E=true->∃ c P params body scope pos J,E=qM J params body scope pos/\LamHere Γ X ck.N id caps params body scope c P J
 cl:∀(id:String) (J:LamI) (f:Addr) (cap:List V) (clos:yB),Γ.lg id J->cap.length=J.fr.length->ClOk X.prog X.w X.K X.mg X.base n (λ H=>CloAt H f J cap clos) f (spL Γ (F.lam id) cap)
 fa:∀(f:String) (a:Addr),Γ.fa f=some a->X.mg (f:Str)=some (.ref a)/\∃ oc od fd sl,X.K.lookup a=some ⟨oc,od,.func fd,sl⟩
 fk:DV.FK F
 cdc:∀ c kvs,F.cdc c=some kvs->∃ a,X.mg (c:Str)=some (.ref a)/\∀ h:Heap,X.K.In h->StrTab X.prog X.w h a (strD kvs)
 ob:ObOk Γ X.prog X.w X.K X.mg X.base F n
section
variable {Γ:Gm} {F:mz} {n:Nat} {X:Cx} {ck:Ck}
theorem CG.vis (G:CG Γ F n X ck)(h:ck.vis x=true):Vis X.env.scope x:=by
 unfold Ck.vis at h
 split at h
 .rename_i e;rcases G.sc _ _ e with z|⟨z,_⟩
  .exact .inl z
  .cases z
 .rename_i e;rcases G.sc _ _ e with z|⟨z,_⟩
  .exact .inr (.inl z)
  .cases z
 .rename_i e;rcases G.sc _ _ e with z|⟨_,z⟩
  .exact .inr (.inr z)
  .exact .inr (.inl z)
 .cases h
theorem CG.loc (G:CG Γ F n X ck)(h:ck.loc x=true):Loc X.env.scope x/\(X.fn x=true\/X.env.scope.names.lookup x=some .local):=by
 unfold Ck.loc at h
 split at h
 .rename_i e;rcases G.sc _ _ e with z|⟨z,_⟩
  .exact⟨.inl z,.inr z⟩
  .cases z
 .rename_i e;rcases G.sc _ _ e with z|⟨z,_⟩
  .exact⟨.inr z,.inl (G.fn _ e)⟩
  .cases z
 .cases h
theorem CG.gl (G:CG Γ F n X ck)(h:ck.gl x=true):Gl X x/\(x==("__debug__"))=false/\x ≠ "__name__":=by
 unfold Ck.gl at h
 simp only[ak,gL]at h
 obtain⟨⟨y,Cc⟩,J⟩:=h
 refine⟨?_,Cc,of_decide_eq_false J⟩
 split at y
 .rename_i e;rcases G.sc _ _ e with z|⟨z,_⟩
  .exact z
  .cases z
 .cases y
theorem bw7 (G:CG Γ F n X ck):∀ {is} {es:yK},cd2 ck is es=true->PGs X es (cd0 is)/\(cV es X.env).length=is.length/\(cV es X.env).findIdx? (·.1)=none
 | [],[],_=>⟨bx9,rfl,rfl⟩
 | [],_::_,h=>by cases h
 | i::is,[],h=>by cases h
 | i::is,e::es,h=>by
  cases e with
  | Name x p =>
   unfold cd2 at h
   simp only[ak,decide_eq_true_eq]at h
   obtain⟨⟨J,y⟩,Cc⟩:=h
   obtain⟨l1,z⟩:=G.loc y
   obtain⟨a,b,c⟩:=bw7 G Cc
   have hs:cV (.Name x p::es) X.env=(false,hJ (.Name x p) X.env)::cV es X.env:=rfl
   refine⟨bq4 (aW8 (by rw[G.N];exact G.nd) (by rw[G.N];exact J) l1 z) a (by rw[hs];rfl),by rw[hs,aL,aL,b],?_⟩
   rw[hs,List.findIdx?_cons]
   simp[c]
  | _=>cases h
theorem bn2 (G:CG Γ F n X ck)(h:mTg ck tg e=true):PG X e (gOf Γ.K tg):=by
 unfold mTg at h
 split at h
 .simp only[ak,decide_eq_true_eq]at h
  obtain⟨l1,y⟩:=G.loc h.2
  exact aW8 (by rw[G.N];exact G.nd) (by rw[G.N];exact h.1) l1 y
 .obtain⟨a,b,c⟩:=bw7 G h
  exact bK0 G.K G.calm a b c
 .cases h
theorem CG.comp (G:CG Γ F n X ck)(h:aQ2 ck tg Y iter J scope=true) :
  zV (ckC ck Y J scope).N J scope X.N X.env.scope=true/\shp iter=true /\
  ∀(Cc:Addr) (cells:yB) (s:ai) (H:Hp) (ex:List Addr),CG Γ F n (zE X (ckC ck Y J scope).N scope Cc cells s H ex) (ckC ck Y J scope)/\PG (zE X (ckC ck Y J scope).N scope Cc cells s H ex) Y (gOf Γ.K tg):=by
 unfold aQ2 at h
 simp only[ak,decide_eq_true_eq]at h
 obtain⟨⟨⟨Z,h2⟩,h3⟩,h4⟩:=h
 refine⟨?_,h4,λ Cc cells s H ex=>?_⟩
 .rw[G.N]
  unfold zV at Z ⊢
  simp only[ak]at Z ⊢
  obtain⟨⟨⟨⟨⟨a1,a2⟩,a3⟩,a4⟩,a5⟩,a6⟩:=Z
  refine⟨⟨⟨⟨⟨a1,?_⟩,a3⟩,a4⟩,a5⟩,a6⟩
  rw[aZ]at a2 ⊢
  intro y hy
  have:=a2 y hy
  rw[b8]at this ⊢
  rcases this with q|q
  .exact .inl q
  .right
   rw[b8]at q ⊢
   rcases q with q|q
   .rcases G.sc _ _ (eq_of_beq q)with z|⟨z,_⟩
    .left;rw[z];exact beq_self_eq_true _
    .cases z
   .rcases G.sc _ _ (eq_of_beq q)with z|⟨_,z⟩
    .right;rw[z];exact beq_self_eq_true _
    .left;rw[z];exact beq_self_eq_true _
 .have G':CG Γ F n (zE X (ckC ck Y J scope).N scope Cc cells s H ex) (ckC ck Y J scope):=by
   refine⟨G.K,rfl,h2,rfl,G.calm,G.deep,G.room,λ x k e=>?_,λ x e=>?_,G.bi,G.call,G.con,λ _ _ _ h=>(by cases h),G.cl,G.fa,G.fk,G.cdc,G.ob⟩
   .have q:=qw (env:=X.env) e
    have q':(fy scope X.env).names.lookup x=some (if(k==NameKind.free&&X.env.scope.kind==.function&&X.env.kindOf x==some .cell)then NameKind.cell else k):=q
    show(fy scope X.env).names.lookup x=some k\/_
    rw[q']
    split
    .rename_i hc
     simp only[ak]at hc
     exact .inr ⟨eq_of_beq hc.1.1,rfl⟩
    .exact .inl rfl
   .show(scope.names.lookup x==some .cell)=true
    rw[show scope.names.lookup x=some .cell from e];rfl
  exact⟨G',bn2 G' h3⟩
end
section
variable {Γ:Gm} {F:mz} {n:Nat} {X:Cx} {ck:Ck} {W:St} {H:Hp} {Q:VK}
theorem TEv.eq (e:∀ U s,m U s=m' U s)(q:TEv Γ m W H Q):TEv Γ m' W H Q:=by
 have:=funext λ U=>funext λ s=>e U s
 subst this;exact q
theorem TTv.eq {Q}(e:∀ U s,m U s=m' U s)(q:TTv Γ m W H Q):TTv Γ m' W H Q:=by
 have:=funext λ U=>funext λ s=>e U s
 subst this;exact q
theorem TAv.eq {Q}(e:∀ U s,m U s=m' U s)(q:TAv Γ m W H Q):TAv Γ m' W H Q:=by
 have:=funext λ U=>funext λ s=>e U s
 subst this;exact q
theorem TFv.eq (e:∀ U s,m U s=m' U s)(q:TFv Γ m W H Q):TFv Γ m' W H Q:=by
 have:=funext λ U=>funext λ s=>e U s
 subst this;exact q
theorem TIv.eq (e:∀ U s,m U s=m' U s)(q:TIv Γ m W H R):TIv Γ m' W H R:=by
 have:=funext λ U=>funext λ s=>e U s
 subst this;exact q
theorem TSv.eq (e:∀ U s,m U s=m' U s)(q:TSv Γ m D W H):TSv Γ m' D W H:=by
 have:=funext λ U=>funext λ s=>e U s
 subst this;exact q
def EvT (Γ:Gm)(X:Cx)(E:Expr)(m:l7->lX->mf lY):Prop:=PE X E (TEv Γ m)/\PT X E (TTv Γ m)
theorem EvT.val (h:PE X E (TEv Γ m))(he:∀ y,eG E X.env y=(do let v <- y;standAt E.pos;gE [v] (truthy v)):=by intro _;rfl):EvT Γ X E m :=
 ⟨h,(bQ8 h he).imp λ W H Q q=>aH6 q⟩
theorem bh7 (hc:PT X c Y)(ha:PT X a tb)(hb:PT X b Cc):PT X (.IfExp c a b pos) (λ W H Q=>Y W H λ k z=>if k=true then tb W z Q else Cc W z Q):=by
 intro y s W H Q I h
 have e:eG (.IfExp c a b pos) X.env (eval (.IfExp c a b pos) X.env)=(do if <- eG c X.env (eval c X.env)then eG a X.env (eval a X.env)else eG b X.env (eval b X.env)):=rfl
 rw[e]
 refine ae (thn (hc y s W H _ I h) λ k s1 ⟨z,G,J⟩=>?_)
 cases k with
 | true=>exact ha y s1 W z Q G J
 | false=>exact hb y s1 W z Q G J
theorem bS2 {Q}(h:TTv Γ (λ U s=>my (mc U s) λ k s=>if k then Cc U s else G U s) W H Q):TTv Γ mc W H λ k z=>if k=true then TTv Γ Cc W z Q else TTv Γ G W z Q:=by
 obtain⟨C,U,s,d,s',E,R,y,q⟩:=h
 obtain⟨c,s1,e1,y⟩:=zB y
 refine⟨C,U,s,c,s1,E,R,e1,λ C1 z g1 l1 R1=>?_⟩
 cases c with
 | true =>
  rw[if_pos rfl]at y ⊢
  exact⟨C1,U,s1,d,s',E.mono g1 l1,R1,y,q.trans g1 l1⟩
 | false =>
  rw[if_neg aW]at y ⊢
  exact⟨C1,U,s1,d,s',E.mono g1 l1,R1,y,q.trans g1 l1⟩
section
variable {a b c:nr} {l r t:Expr} {pos:Pos}
theorem bB0 (G:CG Γ F n X ck) op (ha:EvT Γ X l (l8 F a))(hb:EvT Γ X r (l8 F b)):EvT Γ X (.BinOp l (cj1 op) r pos) (l8 F (.bin op a b)) :=
 .val ((cg3 (bW5 G.K op) ha.1 hb.1).imp λ W H Q q=>bn0 (TEv.eq (λ U s=>rfl) q))
theorem bE7 (ha:EvT Γ X l (l8 F a)):EvT Γ X (.UnaryOp .Not l pos) (l8 F (.not a)) :=
 ⟨(cb8 ha.1).imp λ W H Q q=>bO2 (TEv.eq (λ U s=>rfl) q),(bU7 ha.2).imp λ W H Q q=>bR1 (TTv.eq (λ U s=>rfl) q)⟩
theorem bC0 (G:CG Γ F n X ck) op (hs:shp r=true)(ha:EvT Γ X l (l8 F a))(hb:EvT Γ X r (l8 F b)):EvT Γ X (.Compare l [ao7 op] [r] pos) (l8 F (.cmp op a b)):=by
 have ho:=aZ4 G.K (G.room.mono G.deep) op
 refine⟨(bD2 ho ha.1 hb.1 (ak8 hs)).imp λ W H Q q=>bn0 (TEv.eq (λ U s=>rfl) q),(bE9 ho ha.1 hb.1 (ak8 hs)).imp λ W H Q q=>?_⟩
 have q:=aW2 q
 exact bn0 (TEv.eq (λ U s=>rfl) q)
theorem bf2 (G:CG Γ F n X ck) o p (y:shp t=true)(ha:EvT Γ X l (l8 F a))(hb:EvT Γ X r (l8 F b))(hc:EvT Γ X t (l8 F c)):EvT Γ X (.Compare l [ao7 o,ao7 p] [r,t] pos) (l8 F (.chain o p a b c)):=by
 have ho:=aZ4 G.K (G.room.mono G.deep) o
 have hp:=aZ4 G.K (G.room.mono G.deep) p
 have h:=by
  show dh (ao7 p) t=false
  exact ak8 y
 refine⟨(bj1 ho hp ha.1 hb.1 hc.1 h).imp λ W H Q q=>aM9 (TEv.eq (λ U s=>rfl) q),(bk0 ho hp ha.1 hb.1 hc.1 h).imp λ W H Q q=>?_⟩
 have q:=aW2 q
 exact aM9 (TEv.eq (λ U s=>rfl) q)
theorem RV.nonIff (r:RV Γ C H x v):decide (v=.non)=decide (x=.non):=by
 cases x with
 | non=>rw[r.nonE];rfl
 | bl b=>rw[r.blE];rfl
 | int i=>rw[r.intE];rfl
 | str z=>rw[r.strE];rfl
 | tup l=>obtain⟨a,h,rfl,_⟩:=r.tupE;rfl
 | ref k=>rw[r.refE];rfl
 | fn f=>unfold RV at r;obtain⟨a,_,rfl⟩:=r;rfl
 | clo f cs=>unfold RV at r;obtain⟨f,_,_,_,rfl,_⟩:=r;rfl
theorem bG4 (ha:EvT Γ X l (l8 F a)):EvT Γ X (.Compare l [.Is] [.Constant .none j pos'] pos) (l8 F (.isN a)):=by
 have key:∀ W H Q,TEv Γ (l8 F (.isN a)) W H Q->cn3 (TEv Γ (l8 F a)) W H Q:=λ W H Q q=>by
  obtain⟨C,U,s,d,s',E,R,h,k⟩:=q
  obtain⟨x,s1,e1,h⟩:=aa0 h
  cases h
  refine⟨C,U,s,x,_,E,R,e1,λ v C1 y g1 l1 z r1 R1=>?_⟩
  show Q (.bl (decide (v=.non))) y
  rw[r1.nonIff]
  exact k _ C1 y g1 l1 rfl RV.blI R1
 exact⟨(bv7 (bu1 ha.1)).imp key,(bu6 (bu1 ha.1)).imp λ W H Q q=>key _ _ _ (aH6 q)⟩
theorem br3 (ha:EvT Γ X l (l8 F a)):EvT Γ X (.Compare l [.IsNot] [.Constant .none j pos'] pos) (l8 F (.notN a)):=by
 have key:∀ W H Q,TEv Γ (l8 F (.notN a)) W H Q->bS1 (TEv Γ (l8 F a)) W H Q:=λ W H Q q=>by
  obtain⟨C,U,s,d,s',E,R,h,k⟩:=q
  obtain⟨x,s1,e1,h⟩:=aa0 h
  cases h
  refine⟨C,U,s,x,_,E,R,e1,λ v C1 y g1 l1 z r1 R1=>?_⟩
  show Q (.bl (!decide (v=.non))) y
  rw[r1.nonIff]
  exact k _ C1 y g1 l1 rfl RV.blI R1
 exact⟨(bv7 (bc8 ha.1)).imp key,(bu6 (bc8 ha.1)).imp λ W H Q q=>key _ _ _ (aH6 q)⟩
theorem aX8 {es:yK}{t}(h:PT X (.BoolOp op es pos) t):PW X (.BoolOp op es pos) t:=by
 intro z y s W H Q I q
 have:=h y s W H Q I q
 have e:∀ w,eG (.BoolOp op es pos) X.env w=allTrue op es X.env:=λ w=>rfl
 rw[e]at this ⊢
 exact this
theorem bF2 (ha:EvT Γ X l (l8 F a))(hb:EvT Γ X r (l8 F b)):EvT Γ X (.BoolOp .And [l,r] pos) (l8 F (.and a b)) :=
 ⟨(bv8 ha.1 (bt2 hb.1)).imp λ W H Q q=>bs6 (TEv.eq (λ U s=>rfl) q),(bs9 ha.2 (bL3 hb.2)).pt.imp λ W H Q q=>bw8 (TTv.eq (λ U s=>rfl) q)⟩
theorem bD6 {es:yK}(ha:EvT Γ X l (l8 F a))(hb:EvT Γ X (.BoolOp .And (r::es) pos) (l8 F b)):EvT Γ X (.BoolOp .And (l::r::es) pos) (l8 F (.and a b)) :=
 ⟨(bv8 ha.1 hb.1).imp λ W H Q q=>bs6 (TEv.eq (λ U s=>rfl) q),(bs9 ha.2 (aX8 hb.2)).pt.imp λ W H Q q=>bw8 (TTv.eq (λ U s=>rfl) q)⟩
theorem bN8 (ha:EvT Γ X l (l8 F a))(hb:EvT Γ X r (l8 F b)):EvT Γ X (.BoolOp .Or [l,r] pos) (l8 F (.or a b)) :=
 ⟨(bZ7 ha.1 (bt2 hb.1)).imp λ W H Q q=>bW1 (TEv.eq (λ U s=>rfl) q),(bN9 ha.2 (bR4 hb.2)).pt.imp λ W H Q q=>bZ6 (TTv.eq (λ U s=>rfl) q)⟩
theorem bX1 {es:yK}(ha:EvT Γ X l (l8 F a))(hb:EvT Γ X (.BoolOp .Or (r::es) pos) (l8 F b)):EvT Γ X (.BoolOp .Or (l::r::es) pos) (l8 F (.or a b)) :=
 ⟨(bZ7 ha.1 hb.1).imp λ W H Q q=>bW1 (TEv.eq (λ U s=>rfl) q),(bN9 ha.2 (aX8 hb.2)).pt.imp λ W H Q q=>bZ6 (TTv.eq (λ U s=>rfl) q)⟩
theorem bK9 (hc:EvT Γ X t (l8 F c))(ha:EvT Γ X l (l8 F a))(hb:EvT Γ X r (l8 F b)):EvT Γ X (.IfExp t l r pos) (l8 F (.ite c a b)) :=
 ⟨(bo2 hc.2 ha.1 hb.1).imp λ W H Q q=>bW0 (TEv.eq (λ U s=>rfl) q),(bh7 hc.2 ha.2 hb.2).imp λ W H Q q=>bS2 (TTv.eq (λ U s=>rfl) q)⟩
theorem bU3 (G:CG Γ F n X ck)(hs:shp r=true)(ha:EvT Γ X l (l8 F a))(hb:EvT Γ X r (l8 F b)):EvT Γ X (.Subscript l r pos) (l8 F (.ix a b)) :=
 .val ((ch1 (ch3 G.K (aC3 G.room)) ha.1 hb.1 (aO6 hs)).imp λ W H Q q=>bn0 (TEv.eq (λ U s=>rfl) q))
theorem bD8 (G:CG Γ F n X ck)(ha:EvT Γ X l (l8 F a))(hb:EvT Γ X r (l8 F b)):EvT Γ X (.Subscript l (.Slice none (some r) none h) pos) (l8 F (.slU a b)) :=
 .val ((br2 (cg8 G.K) ha.1 bC8 (bJ2 hb.1)).imp λ W H Q q=>(ci7 (ml:=l8 F b)).2.1 (TEv.eq (λ U s=>rfl) q))
end
end
section
variable {Γ:Gm} {F:mz} {n:Nat} {X:Cx} {ck:Ck} {W:St} {H:Hp} {Q:VK}
theorem as0:∀ {es} {U} {s s'} {l} {y:yK} {z},mQ F es U s=.ok l s'->mEs z es y=true->l.length=y.length
 | .nil,U,s,s',l,y,z,h,m=>by
  cases h
  cases y with
  | nil=>rfl
  | cons _ _=>rw[mEs]at m<;>first|cases m|(intros;simp_all)
 | .cons e es,U,s,s',l,y,z,h,m=>by
  obtain⟨d,s1,e1,h⟩:=aa0 h
  obtain⟨r,s2,e2,h⟩:=aa0 h
  cases h
  cases y with
  | nil=>rw[mEs]at m<;>first|cases m|(intros;simp_all)
  | cons x y =>
   rw[mEs,ak]at m
   rw[aL,aL,as0 e2 m.2]
theorem av3:∀ {es} {z:yK},mEs ck es z=true->∀ x∈z,shp x=true
 | .nil,[],_,x,hx=>by cases hx
 | .nil,_::_,m,_,_=>by rw[mEs]at m<;>first|cases m|(intros;simp_all)
 | .cons e es,[],m,x,hx=>by cases hx
 | .cons e es,y::z,m,x,hx=>by
  rw[mEs,ak,ak]at m
  rcases av.mp hx with h|h
  .rw[h];exact m.1.2
  .exact av3 m.2 x h
theorem be2:∀ {es} {z:yK},mAs ck es z=true->∀ x∈z,shp x=true
 | .nil,[],_,x,hx=>by cases hx
 | .nil,_::_,m,_,_=>by rw[mAs]at m<;>first|cases m|(intros;simp_all)
 | .ex e es,[],m,x,hx=>by cases hx
 | .lam _ _ _,_,m,_,_=>by rw[mAs]at m<;>first|cases m|(intros;simp_all)
 | .fn _ _,_,m,_,_=>by rw[mAs]at m<;>first|cases m|(intros;simp_all)
 | .ex e es,y::z,m,x,hx=>by
  rw[mAs,ak,ak]at m
  rcases av.mp hx with h|h
  .rw[h];exact m.1.2
  .exact be2 m.2 x h
theorem aL8 (hs:shp x=true)(Cc:PE X x (TEv Γ (l8 F e)))(z:PA X h (TAv Γ y)) :
  PA X (x::h) (TAv Γ (λ U s=>(l8 F e U s).bind λ d s=>(y U s).bind λ l s=>.ok (d::l) s)) :=
 (zC Cc z (zb hs)).imp λ W H Q q=>bB7 q
theorem aY2 (h:k<=1000):k<=aO:=by rw[eJ];lia
theorem bx6 {y:yK}(m:mEs ck es y=true)(hz:y.length<=1000)(h:PA X y (TAv Γ (mQ F es))):EvT Γ X (.Tuple y k pos) (l8 F (.tup es)) :=
 .val ((bW2 h).imp λ W H Q q=>tv_tup' hz m q)
where
 tv_tup' {es} {y} {W} {H} {Q} (hz:y.length<=1000) (m:mEs ck es y=true) (q:TEv Γ (l8 F (.tup es)) W H Q):cm2 (TAv Γ (mQ F es)) W H Q:=by
  obtain⟨C,U,s,d,s',E,R,z,q⟩:=q
  obtain⟨l,s1,e1,z⟩:=aa0 z
  cases z
  refine⟨C,U,s,l,_,E,R,e1,λ vs C1 G g1 l1 Cc r1 R1=>⟨by rw[r1.length,as0 e1 m];exact aY2 hz,λ p hp=>?_⟩⟩
  exact(q.trans g1 l1).tup R1 r1 Cc hp
theorem by1 {y:yK}(m:mEs ck es y=true)(hz:y.length<=1000)(h:PA X y (TAv Γ (mQ F es))):EvT Γ X (.List y pos) (l8 F (.lst es)):=by
 refine .val ((bs1 h).imp λ W H Q q=>?_)
 obtain⟨C,U,s,d,s',E,R,z,q⟩:=q
 obtain⟨l,s1,e1,z⟩:=aa0 z
 obtain⟨rfl,rfl⟩:=qo z
 refine⟨C,U,s,l,_,E,R,e1,λ vs C1 G g1 l1 Cc r1 R1=>⟨by rw[r1.length,as0 e1 m];exact aY2 hz,λ p hp=>?_⟩⟩
 exact(q.trans g1 l1).alloc R1 r1 Cc hp
theorem bl2 {f:String}{z:yK}(G:CG Γ F n X ck)(hg:ck.gl (f:Str)=true)(m:mAs ck as z=true)(h:PA X z (TAv Γ (nG F as))):EvT Γ X (.Call (.Name (f) p) z [] pos) (l8 F (.call f as)):=by
 refine .val ?_
 obtain⟨g1,g2,g3⟩:=G.gl hg
 rcases G.call f with hbad|⟨a,fd,ps,Z,y,hk,hb⟩
 .intro J s W H Q I q
  obtain⟨C,U,s,d,s',E,R,Cc,q⟩:=q
  obtain⟨l,s1,e1,Cc⟩:=aa0 Cc
  rw[hbad]at Cc
  cases Cc
 have key:∀ W H Q,TEv Γ (l8 F (.call f as)) W H Q->aS4 (spV Γ (F.call f)) [] E0 (TAv Γ (nG F as)) W H Q:=λ W H Q q=>by
  have:=aF7 (TEv.eq (λ U s=>rfl) q)
  unfold tCB at this
  unfold aS4 spV
  simpa only[bp]using this
 cases z with
 | nil =>
  have h0:PE X (.Call (.Name (f) p) [] [] pos) (aS4 (spV Γ (F.call f)) [] E0 bf0):=bk1 Z G.room g1 y hk hb .nil bX9 g2
  cases as with
  | nil =>
   refine h0.imp λ W H Q q=>?_
   have Y:=key W H Q q
   unfold aS4 at Y ⊢
   exact aN4 (TAv.eq (λ U s=>rfl) Y)
  | _=>rw[mAs]at m<;>first|cases m|(intros;simp_all)
 | cons x z =>
  have hs:=be2 m
  exact(by3 Z G.room g1 y hk hb .nil bX9 h g2 (zb (hs x (az ..))) (zt λ e he=>hs e (ar _ he)).1).imp key
def BiC (Γ:Gm)(X:Cx)(b:nj)(x:Str):Prop:=(∃ id,bC x=some (.builtin id)/\ac2 X (.builtin id) (rCl Γ (n4 b)))\/∃ T,bC x=some (.type T)/\ac2 X (.type T) (rCl Γ (n4 b))
theorem bN4 (G:CG Γ F n X ck)(h:biT b=some x):x∈bNames/\BiC Γ X b x:=by
 cases b<;>first|cases h|skip
 .exact⟨by decide,.inl ⟨_,ce2,bA7 G.K G.calm (k:=1) rfl⟩⟩
 .exact⟨by decide,.inl ⟨_,ck5,bA7 G.K G.calm (k:=1) rfl⟩⟩
 .exact⟨by decide,.inr ⟨_,bX5,cb9⟩⟩
 .exact⟨by decide,.inr ⟨_,bV8,bT1⟩⟩
 .exact⟨by decide,.inl ⟨_,bk9,bA7 G.K G.calm (k:=2) rfl⟩⟩
theorem bS7 {z:yK}(G:CG Γ F n X ck)(hb:biT b=some x)(hg:ck.gl x=true)(m:mEs ck es (y::z)=true)(h:PA X (y::z) (TAv Γ (mQ F es))) :
  EvT Γ X (.Call (.Name x p) (y::z) [] pos) (l8 F (.bi b es)):=by
 refine .val ?_
 obtain⟨g1,g2,g3⟩:=G.gl hg
 obtain⟨Y,hc⟩:=bN4 G hb
 have hs:=av3 m
 have s1:=zb (es:=z) (env:=X.env) (hs y (az ..))
 have s2:=(zt (env:=X.env) (pos:=pos) λ e he=>hs e (ar _ he)).1
 rcases hc with⟨id,J,Cc⟩|⟨T,J,Cc⟩
 .exact(ak2 Cc g1 (G.bi _ Y) J h g3 g2 s1 s2).imp λ W H Q q=>aF7 (TEv.eq (λ U s=>rfl) q)
 .exact(al0 Cc g1 (G.bi _ Y) J h g3 g2 s1 s2).imp λ W H Q q=>aF7 (TEv.eq (λ U s=>rfl) q)
theorem bO5 (h:biK b=some (k,t)):(1<=k/\k<=5)/\t∈bNames/\bC t=some (.type (ao8 k))/\n4 b=ol (oA k):=by
 cases b<;>cases h
 .exact⟨by lia,by decide,bX5,rfl⟩
 .exact⟨by lia,by decide,bN3,rfl⟩
 .exact⟨by lia,by decide,bV8,rfl⟩
 .exact⟨by lia,by decide,aX3,rfl⟩
 .exact⟨by lia,by decide,bv0,rfl⟩
noncomputable def PEs (Γ:Gm)(F:mz)(X:Cx):mM->List Expr->Prop
 | .nil,[]=>True
 | .cons e es,x::xs=>(shp x=true/\EvT Γ X x (l8 F e))/\PEs Γ F X es xs
 | _,_=>False
theorem am8:∀ {es} {y:yK},PEs Γ F X es y->PA X y (TAv Γ (mQ F es))
 | .nil,[],_=>ad4.imp λ W H Q q=>aN4 (TAv.eq (λ U s=>rfl) q)
 | .nil,_::_,h=>h.elim
 | .cons _ _,[],h=>h.elim
 | .cons e es,x::y,h=>(aL8 h.1.1 h.1.2.1 (am8 h.2)).imp λ W H Q q=>TAv.eq (λ U s=>rfl) q
theorem bI4 (G:CG Γ F n X ck)(hb:biK b=some (k,t))(hg:ck.gl "isinstance"=true)(z:ck.gl t=true)(h:PEs Γ F X es [a]) :
  EvT Γ X (.Call (.Name "isinstance" p) [a,.Name t Cc] [] pos) (l8 F (.bi b es)):=by
 refine .val ?_
 obtain⟨g1,g2,g3⟩:=G.gl hg
 obtain⟨Z,t2,t3⟩:=G.gl z
 obtain⟨hk,y,hv,J⟩:=bO5 hb
 have Y:PE X (.Name t Cc) (tC (.ty (ao8 k))):=bI6 Z (G.bi _ y) hv rfl t3 t2
 cases es with
 | nil=>exact h.elim
 | cons e es =>
  cases es with
  | cons _ _=>exact h.2.elim
  | nil =>
   obtain⟨⟨hs,ha,_⟩,_⟩:=h
   have hA:=zC ha (zC Y ad4 (zb rfl)) (zb hs)
   refine(ak2 (bN2 G.K hk) g1 (G.bi _ (by decide)) aB8 hA g3 g2 (zb hs) (zt λ e he=>by rw[aV.mp he];rfl).1).imp λ W H Q q=>?_
   obtain⟨C,U,s,d,s',E,R,y,q⟩:=q
   obtain⟨l,s1,e1,y⟩:=aa0 y
   obtain⟨x,s2,e2,e1⟩:=aa0 e1
   obtain⟨l2,s3,e3,e1⟩:=aa0 e1
   cases e3
   cases e1
   rw[J]at y
   refine⟨C,U,s,x,_,E,R,e2,λ v C1 H1 g1 l1 b1 r1 R1=>?_⟩
   exact⟨v,rfl,C1,_,[x],d,s',R1,.cons r1 .nil,by unfold lZ;rw[b1];rfl,y,q.trans g1 l1⟩
end
section
variable {Γ:Gm} {F:mz} {n:Nat} {X:Cx} {ck:Ck} {W:St} {H:Hp}
def TAp (Γ:Gm)(cells:yB)(N:yH)(m:l7->lX->mf (List lY)):TA:=λ W H Q=>∃ C U s l s',RE Γ C H s.length U W/\Rp Γ C H s/\m U s=.ok l s' /\
 ∀ vs C' H',Gr C s H C' s' H'->s.length<=s'.length->lZ s'.length l=true->PVL Γ cells N W C' H' l vs->Rp Γ C' H' s'->Q vs H'
theorem TAp.eq (e:∀ U s,m U s=m' U s)(q:TAp Γ cells N m W H Q):TAp Γ cells N m' W H Q:=by
 obtain⟨C,U,s,l,s',E,R,h,q⟩:=q
 exact⟨C,U,s,l,s',E,R,by rw[<-e];exact h,q⟩
theorem bA8 (h:TAp Γ cells N (λ U s=>.ok [] s) W H Q):bf0 W H Q:=by
 obtain⟨C,U,s,l,s',E,R,y,q⟩:=h
 cases y
 exact q [] C H (Gr.refl _ _ _) (aj _) rfl .nil R
theorem bW4 (h:TAp Γ cells N (λ U s=>(m U s).bind λ d s=>(J U s).bind λ l s=>.ok (d::l) s) W H Q):an7 (TEv Γ m) (TAp Γ cells N J) W H Q:=by
 obtain⟨C,U,s,l,s',E,R,z,q⟩:=h
 obtain⟨x,s1,e1,z⟩:=aa0 z
 obtain⟨y,s2,e2,z⟩:=aa0 z
 cases z
 refine⟨C,U,s,x,s1,E,R,e1,λ v C1 H1 g1 l1 Cc r1 R1=>?_⟩
 refine⟨C1,U,s1,y,s',E.mono g1 l1,R1,e2,λ vs C2 H2 g2 G Z Y R2=>?_⟩
 exact q (v::vs) C2 H2 (g1.trans g2 l1) (am l1 G) (by unfold lZ;rw[zl G x Cc,Z];rfl) (.cons (PVp.mono g2 Cc (.inl r1)) Y) R2
theorem ak6 :∀ {is} {cs},mV U is=some cs->cs.length=is.length/\∀(i j:Nat),is[i]?=some j->∃ d,cs[i]?=some d/\U[j]?=some (some d)
 | [],cs,h=>by cases h;exact⟨rfl,λ i j e=>by cases e⟩
 | k::is,cs,h=>by
  unfold mV at h
  cases e:U[k]? with
  | none=>rw[e]at h;cases h
  | some o =>
   cases o with
   | none=>rw[e]at h;cases h
   | some d =>
    cases e2:mV U is with
    | none=>rw[e,e2]at h;cases h
    | some l =>
     rw[e,e2]at h
     cases h
     obtain⟨Cc,z⟩:=ak6 e2
     refine⟨by rw[aL,aL,Cc],λ i j y=>?_⟩
     cases i with
     | zero=>cases y;exact⟨d,rfl,e⟩
     | succ i=>exact z i j y
theorem bd5 (E:RE Γ C H s.length U W):∀ {is} {cs},mV U is=some cs->∃ cap,RVL Γ C H cs cap/\lZ s.length cs=true/\∀(i j:Nat) v ,is[i]?=some j->cap[i]?=some v->W[j]?=some (some v)
 | [],cs,h=>by cases h;exact⟨[],.nil,rfl,λ i j v e=>by cases e⟩
 | k::is,cs,h=>by
  unfold mV at h
  cases e:U[k]? with
  | none=>rw[e]at h;cases h
  | some o =>
   cases o with
   | none=>rw[e]at h;cases h
   | some d =>
    cases e2:mV U is with
    | none=>rw[e,e2]at h;cases h
    | some l =>
     rw[e,e2]at h
     cases h
     obtain⟨cap,Y,Cc,J⟩:=bd5 E e2
     obtain⟨hb,v,G,hv⟩:=E.val k d e
     refine⟨v::cap,.cons hv Y,by unfold lZ;rw[hb,Cc];rfl,λ i j w y z=>?_⟩
     cases i with
     | zero=>cases y;cases z;exact G
     | succ i=>exact J i j w y z
theorem bN6 {id}(L:LamHere Γ X X.N id h params body scope c P J)(hnm:J.nm=none)(h2:PA X xs (TAp Γ X.env.cells X.N Z)) :
  PA X (.Lambda params body scope pos::xs) (TAp Γ X.env.cells X.N (λ U s=>match mV U h with|some cs=>(Z U s).bind λ l s=>.ok (.clo id cs::l) s|none=>.bad)):=by
 refine(zC (aA4 L.code L.hd L.bm L.ck L.df) h2).imp λ W H Q q=>?_
 obtain⟨C,U,s,l,s',E,R,z,q⟩:=q
 have z:(match mV U h with|some cs=>(Z U s).bind λ l s=>DV.R.ok (DV.D.clo id cs::l) s|none=>DV.R.bad)=.ok l s':=z
 cases eg:mV U h with
 | none=>rw[eg]at z;exact fb z
 | some cs =>
  rw[eg]at z
  obtain⟨y,s2,e2,z⟩:=aa0 z
  cases z
  obtain⟨cap,Y,Cc,hW⟩:=bd5 E eg
  have G:=(ak6 eg).1
  have hq:J.qual=X.env.qual ++ "<lambda>":=by rw[L.q];unfold LamI.own;rw[hnm]
  rw[<-hq]
  refine aK9 R.tab L.nd L.tab λ f H' e st tb hf ho=>?_
  obtain⟨g1,R1⟩:=R.sameT e st tb
  refine⟨C,U,s,y,s',E.mono g1 (aj _),R1,e2,λ vs C2 H2 g2 l2 b2 r2 R2=>?_⟩
  refine q (.ref f::vs) C2 H2 (g1.trans g2 (aj _)) l2 (by unfold lZ l9;rw[aa4 l2 cs Cc,b2];rfl) (.cons ?_ r2) R2
  have p1:PVp Γ X.env.cells X.N W C H' (.clo id cs) (.ref f):=by
   refine .inr ⟨id,cs,rfl,f,J,rfl,L.lg,by unfold ag3;rw[hnm];skip;rw[L.p,L.b,L.s];exact ho,by rw[G,L.len],by rw[L.s];exact L.cl,cap,RVL.mono g1 cs cap Cc Y,λ i x v e1 e3=>?_⟩
   have hi:i<h.length:=by rw[<-L.len];exact(ac.mp e1).1
   have hj:=ag hi
   exact⟨by rw[L.s];exact L.fr x (aN e1),h[i],L.at_ i _ x hj e1,hW i _ v hj e3⟩
  exact p1.mono g2 (by unfold l9;exact Cc)
theorem aW3 {f:String}{es:yK}(G:CG Γ F n X ck)(hg:ck.gl (f:Str)=true)(Z:∀ x,X.fn x=true)(Y:∀ x c,X.env.cells.lookup x=some c->X.env.kindOf x=some .cell\/X.env.kindOf x=some .free)
  (hs:∀ y∈e::es,shp y=true) (h:PA X (e::es) (TAp Γ X.env.cells X.N ms)) :
  PE X (.Call (.Name (f) p) (e::es) [] pos) (TEv Γ (λ U s=>(ms U s).bind λ l s=>(F.call f l s).bind λ d s'=>if(d.ncl&&s'.all oC)=true then .ok d s' else .bad)):=by
 obtain⟨g1,g2,g3⟩:=G.gl hg
 rcases G.call f with hb|⟨a,fd,ps,hF,J,hk,hB⟩
 .intro a0 s W H Q I q
  obtain⟨C,U,s,d,s',E,R,z,q⟩:=q
  obtain⟨l,s1,e1,z⟩:=aa0 z
  rw[hb]at z;exact fb z
 .refine(aL2 hF G.room g1 J hk hB Z h g2 (zb (hs e (az ..))) (zt λ y hy=>hs y (ar _ hy)).1).imp λ W H Q q=>?_
  obtain⟨C,U,s,d,s',E,R,z,q⟩:=q
  obtain⟨l,s1,e1,z⟩:=aa0 z
  obtain⟨d2,s2,e2,z⟩:=aa0 z
  split at z
  case isFalse=>exact fb z
  rename_i hn
  cases z
  rw[ak]at hn
  refine⟨C,U,s,l,s1,E,R,e1,λ vs C1 H1 gg l1 b1 r1 R1=>λ H2 Cc=>?_⟩
  obtain⟨gs,R2⟩:=R1.same Cc.same
  refine⟨C1,s1,l,d,s',R2,r1.caught Cc Y b1,b1,e2,λ v C' H3 g' l' b' r' R'=>?_⟩
  have hc:=Cc.cells.kp g'.w.kp
  exact q v C' (ab6 X.env.cells H3) (gg.trans (Gr.caught Cc g') l1) (am l1 l') b' (RV.dropC hc d v hn.1 r') (R'.dropC hc hn.2)
theorem be8 {xs:yK}(G:CG Γ F n X ck)(hv:ck.var i x=true)(hs:∀ y∈e::xs,shp y=true)(h:PA X (e::xs) (TAv Γ (mQ F es)))(a0:PE X (.Name x p) (bt4 i)) :
  PE X (.Call (.Name x p) (e::xs) [] pos) (TEv Γ (l8 F (.callV i es))):=by
 refine(bg9 rfl rfl rfl rfl rfl G.room a0 h (zb (hs e (az ..))) (zt λ y hy=>hs y (ar _ hy)).1).imp λ W H Q q=>?_
 obtain⟨C,U,s,d,s',E,R,z,q⟩:=q
 have z:=z
 obtain⟨l,s1,e1,z⟩:=aa0 z
 cases eU:U[i]? with
 | none=>rw[eU]at z;exact fb z
 | some o =>
  cases o with
  | none=>rw[eU]at z;exact fb z
  | some v0 =>
   obtain⟨hb,v,hW,rv⟩:=E.val i v0 eU
   cases v0 with
   | fn f =>
    rw[eU]at z
    have z:F.call f l s1=.ok d s':=z
    unfold RV at rv
    obtain⟨a,ha,e2⟩:=rv
    subst e2
    obtain⟨h1,h2⟩:=G.fa f a ha
    rcases G.call f with hb|⟨a',fd,ps,hF,Z,hk,hB⟩
    .rw[hb]at z;exact fb z
    .rw[h1]at Z
     cases Z
     refine⟨a,hW,.inr h2,C,U,s,l,s1,E,R,e1,λ vs C1 H1 g1 l1 b1 r1 R1=>?_⟩
     exact⟨.inr h2,_,_,ClOk.ofFn hF hB,trivial,C1,s1,l,d,s',R1,r1,b1,z,q.trans g1 l1⟩
   | clo id cs =>
    rw[eU]at z
    have z:=z
    unfold RV at rv
    unfold l9 at hb
    obtain⟨f,cap,J,Y,e2,a1,hat,a2,a3⟩:=rv
    subst e2
    have fin:∀ H',CloAt H' f J cap Y->bM1 X.K H' f:=λ H' h'=>h'.fn
    refine⟨f,hW,fin H hat,C,U,s,l,s1,E,R,e1,λ vs C1 H1 g1 l1 b1 r1 R1=>?_⟩
    have Cc:=hat.kp g1.w.kp
    exact⟨fin H1 Cc,_,_,G.cl id J f cap Y a1 a2,Cc,C1,s1,cs,l,d,s',R1,r1,RVL.mono g1 cs cap hb a3,b1,aa4 l1 cs hb,z,q.trans g1 l1⟩
   | _=>rw[eU]at z;exact fb z
end
section
variable {Γ:Gm} {F:mz} {n:Nat} {X:Cx} {ck:Ck} {W:St} {H:Hp} {Q:VK}
def co2 (K:ah)(H:Hp)(v:V)(ys:List V)(z:Bool):Prop:=(∃ a,v=.ref a/\(SqL K H a ys\/(SqT K H a ys/\(z=true->H a=some (.tup ys)))))\/∃ x,v=.str ⟨x.toArray⟩/\x.length<=mq/\ys=sgV x
def TLv (Γ:Gm)(m:l7->lX->mf (List lY)):TE:=λ W H Q=>∃ C U s l s',RE Γ C H s.length U W/\Rp Γ C H s/\m U s=.ok l s' /\
 ∀ v ys C' H',Gr C s H C' s' H'->s.length<=s'.length->lZ s'.length l=true->co2 Γ.K H' v ys (mZ l)->RVL Γ C' H' l ys->Rp Γ C' H' s'->Q v H'
theorem aK5 (h:TLv Γ m W H Q):TFv Γ m W H Q:=by
 obtain⟨C,U,s,l,s',E,R,z,q⟩:=h
 exact⟨C,U,s,l,s',E,R,z,λ p ys C' H' g hl hb hp h0 ho r y=>q (.ref p) ys C' H' g hl hb (.inl ⟨p,rfl,.inl (SqL.of hp)⟩) r y⟩
theorem aB9 :∀ x:List Nat,RVL Γ C H (x.map λ c=>.str [c]) (sgV x)
 | []=>.nil
 | c::x=>.cons (RV.strI (by unfold mq;simp)) (aB9 x)
theorem ap9 :∀ x:List Nat,lZ k (x.map λ c=>.str [c])=true
 | []=>rfl
 | c::x=>by rw[aS];unfold lZ;rw[ap9 x];rfl
theorem bX4 (h:TLv Γ (λ U s=>(m U s).bind λ d s=>DV.bs7 d s) W H Q):TEv Γ m W H Q:=by
 obtain⟨C,U,s,l,s',E,R,y,q⟩:=h
 obtain⟨d,s1,e1,y⟩:=aa0 y
 refine⟨C,U,s,d,s1,E,R,e1,λ v C1 J g1 l1 Y r1 R1=>?_⟩
 cases d with
 | tup l' =>
  cases y
  obtain⟨a,Cc,⟨rfl,z1⟩,G,z⟩:=r1.tupZ
  unfold l9 at Y
  exact q _ Cc C1 J g1 l1 Y (.inl ⟨a,rfl,.inr ⟨G,z1⟩⟩) z R1
 | str x =>
  cases y
  exact q v (sgV x) C1 J g1 l1 (ap9 x) (.inr ⟨x,r1.strE,r1.strL,rfl⟩) (aB9 x) R1
 | ref k =>
  have y:(match s1[k]? with
   | some (.lst l)=>DV.R.ok l s1
   | some (.ro l)=>.ok l s1
   | _=>.bad)=.ok l s':=y
  rw[r1.refE]
  cases e:s1[k]? with
  | none=>rw[e]at y;exact fb y
  | some ob =>
   rw[e]at y
   cases ob with
   | lst l' =>
    cases y
    obtain⟨Cc,G,z⟩:=R1.addr e
    have:=R1.wf k _ e
    unfold mn at this
    exact q _ Cc C1 J g1 l1 this (.inl ⟨_,rfl,.inl (SqL.of G)⟩) z R1
   | ro l' =>
    cases y
    obtain⟨Cc,G,z⟩:=R1.obj k _ e
    have:=R1.wf k _ e
    unfold mn at this
    exact q _ Cc C1 J g1 l1 this (.inl ⟨_,rfl,.inl G.1⟩) z R1
   | _=>exact fb y
 | _=>exact fb y
theorem TLv.eq (e:∀ U s,m U s=m' U s)(q:TLv Γ m W H Q):TLv Γ m' W H Q:=by
 have:=funext λ U=>funext λ s=>e U s
 subst this;exact q
theorem aR8 (G:CG Γ F n X ck)(hg:ck.gl "tuple"=true)(hs:shp a=true)(h:PE X a (TLv Γ m)) :
  PE X (.Call (.Name "tuple" p) [a] [] pos) (TEv Γ (λ U s=>(m U s).bind λ l s=>n9 .tuple l s)):=by
 obtain⟨g1,g2,g3⟩:=G.gl hg
 refine(al0 ((aF3 G.K).or (aG5 G.calm)) g1 (G.bi _ (by decide)) aX3 (zC h ad4 (zb hs)) g3 g2 (zb hs) rfl).imp λ W H Q q=>?_
 obtain⟨C,U,s,d,s',E,R,z,q⟩:=q
 obtain⟨l,s1,e1,z⟩:=aa0 z
 cases z
 refine⟨C,U,s,l,_,E,R,e1,λ v ys C1 Cc g1 l1 y hq r1 R1=>?_⟩
 rcases hq with⟨a,rfl,hq|hq⟩|⟨x,rfl,hx,rfl⟩
 .exact .inl ⟨a,ys,rfl,.inl ⟨hq,λ p hp=>(q.trans g1 l1).tup R1 r1 y hp⟩⟩
 .exact .inl ⟨a,ys,rfl,.inr ⟨hq.1,q _ C1 Cc g1 l1 (by unfold l9;exact y) (RV.tupC hq.1 hq.2 r1) R1⟩⟩
 .exact .inr ⟨x,rfl,hx,λ p hp=>(q.trans g1 l1).tup R1 r1 y hp⟩
theorem bb1 (G:CG Γ F n X ck)(hg:ck.gl "list"=true)(hs:shp a=true)(h:PE X a (TLv Γ m)) :
  PE X (.Call (.Name "list" p) [a] [] pos) (TEv Γ (λ U s=>(m U s).bind λ l s=>n9 .list l s)):=by
 obtain⟨g1,g2,g3⟩:=G.gl hg
 refine(al0 ((aO8 G.K).or (aP8 G.calm)) g1 (G.bi _ (by decide)) bv0 (zC h ad4 (zb hs)) g3 g2 (zb hs) rfl).imp λ W H Q q=>?_
 obtain⟨C,U,s,d,s',E,R,y,q⟩:=q
 obtain⟨l,s1,e1,y⟩:=aa0 y
 obtain⟨rfl,rfl⟩:=qo y
 refine⟨C,U,s,l,_,E,R,e1,λ v ys C1 Cc g1 l1 z hq r1 R1=>?_⟩
 rcases hq with⟨a,rfl,hq⟩|⟨x,rfl,hx,rfl⟩
 .exact .inl ⟨a,ys,rfl,hq.imp id (·.1),λ p hp=>(q.trans g1 l1).alloc R1 r1 z hp⟩
 .exact .inr ⟨x,rfl,hx,λ p hp=>(q.trans g1 l1).alloc R1 r1 z hp⟩
theorem cb6 (G:CG Γ F n X ck)(hk:mkT k=some x)(hg:ck.gl x=true)(hs:shp a=true)(h:PE X a (TLv Γ m)) :
  PE X (.Call (.Name x p) [a] [] pos) (TEv Γ (λ U s=>(m U s).bind λ l s=>n9 k l s)):=by
 cases k<;>cases hk
 .exact aR8 G hg hs h
 .exact bb1 G hg hs h
def FrC (Γ:Gm)(X:Cx)(x:Str)(k:n6):Prop:=∃ id r,bC x=some (.builtin id)/\x∈bNames/\ac2 X (.builtin id) r/\∀ C H s l ys p d s' Q,Rp Γ C H s->RVL Γ C H l ys->H p=some (.lst ys)->n9 k l s=.ok d s'->ae0 Γ C s H d s' Q->r [.ref p] H Q
theorem aI7:∀(l:List Int) a ,(l.foldl min a=a\/l.foldl min a∈l)/\l.foldl min a<=a/\∀ y∈l,l.foldl min a<=y
 | [],a=>⟨.inl rfl,dB _,λ y hy=>by cases hy⟩
 | b::l,a=>by
  obtain⟨G,J,Cc⟩:=aI7 l (min a b)
  rw[dI]
  refine⟨?_,by lia,λ y hy=>?_⟩
  .rcases G with h|h
   .rw[h]
    rcases lM a b with z|z
    .left;lia
    .right;rw[show min a b=b by lia];exact az ..
   .exact .inr (ar _ h)
  .rcases av.mp hy with z|z
   .rw[z];lia
   .exact Cc y z
theorem au7 (h:ni l=some m):m∈l/\∀ y∈l,m<=y:=by
 cases l with
 | nil=>cases h
 | cons a l =>
  cases h
  obtain⟨J,Cc,G⟩:=aI7 l a
  refine⟨?_,λ y hy=>?_⟩
  .rcases J with h|h
   .rw[h];exact az ..
   .exact ar _ h
  .rcases av.mp hy with z|z
   .rw[z];exact Cc
   .exact G y z
theorem by4 (G:CG Γ F n X ck)(hk:mkF k=some x):FrC Γ X x k:=by
 cases k<;>cases hk
 .refine⟨_,_,bk9,by decide,bb8 G.calm G.K,λ C H s l ys p d s' Q R r hp h q=>?_⟩
  unfold n9 at h
  dsimp only at h
  cases e:m7 l with
  | none=>rw[e]at h;exact fb h
  | some is =>
   rw[e]at h
   have h:(match ni is with|some m=>DV.R.ok (DV.D.int m) s|none=>.bad)=.ok d s':=h
   cases e2:ni is with
   | none=>rw[e2]at h;exact fb h
   | some mm =>
    rw[e2]at h
    cases h
    have:=qc e
    subst this
    refine⟨p,is,rfl,SqL.of (by rw[<-r.ints];exact hp),(λ(z)=>by rw[z]at e2;cases e2),λ m h y=>?_⟩
    obtain⟨a,b⟩:=au7 e2
    have:=iw (y mm a) (b m h)
    rw[this]
    exact q.here R rfl RV.intI
theorem cc5 (G:CG Γ F n X ck)(hk:mkF k=some x)(hg:ck.gl x=true)(hs:shp a=true)(h:PE X a (TFv Γ m)) :
  PE X (.Call (.Name x p) [a] [] pos) (TEv Γ (λ U s=>(m U s).bind λ l s=>n9 k l s)):=by
 obtain⟨g1,g2,g3⟩:=G.gl hg
 obtain⟨id,r,hb,hx,hc,Cc⟩:=by4 G hk
 refine(ak2 hc g1 (G.bi _ hx) hb (zC h ad4 (zb hs)) g3 g2 (zb hs) rfl).imp λ W H Q q=>?_
 obtain⟨C,U,s,d,s',E,R,y,q⟩:=q
 obtain⟨l,s1,e1,y⟩:=aa0 y
 exact⟨C,U,s,l,_,E,R,e1,λ p ys C1 z g1 l1 J hp h0 ho r1 R1=>Cc C1 z s1 l ys p d s' Q R1 r1 hp y (q.trans g1 l1)⟩
theorem ca3 (G:CG Γ F n X ck)(hg:ck.gl "min"=true)(hs:shp a=true)(h:PE X a (TFv Γ ml))(hd:PE X de (TEv Γ md)) :
  PE X (.Call (.Name "min" p) [a] [⟨some "default",de,kp⟩] pos) (TEv Γ (λ U s=>(ml U s).bind λ l s=>(md U s).bind λ d s=>om .min l d s)):=by
 obtain⟨g1,g2,g3⟩:=G.gl hg
 refine(ba8 rfl G.calm g1 (G.bi _ (by decide)) h hd (zb hs)).imp λ W H Q q=>?_
 obtain⟨C,U,s,d,s',E,R,Cc,q⟩:=q
 obtain⟨l,s1,e1,Cc⟩:=aa0 Cc
 obtain⟨d0,s2,e2,Cc⟩:=aa0 Cc
 refine⟨C,U,s,l,s1,E,R,e1,λ p ys C1 H1 g1 l1 b1 hp h0 ho r1 R1=>?_⟩
 refine⟨C1,U,s1,d0,s2,E.mono g1 l1,R1,e2,λ v C2 H2 g2 l2 b2 r2 R2=>?_⟩
 have a0:=g2.fr p _ hp (by nofun) (λ i ob e mu=>ho i ob e mu)
 unfold om at Cc
 cases e:m7 l with
 | none=>rw[e]at Cc;exact fb Cc
 | some is =>
  rw[e]at Cc
  have J:(match ni is with|some m=>DV.R.ok (DV.D.int m) s2|none=>DV.R.ok d0 s2)=.ok d s':=Cc
  have:=qc e
  subst this
  have hq:=q.trans (g1.trans g2 l1) (am l1 l2)
  refine⟨p,is,rfl,SqL.of (by rw[<-r1.ints];exact a0),λ z=>?_,λ m Y Z=>?_⟩
  .subst z
   cases J
   exact hq.here R2 b2 r2
  .clear e2
   cases e2:ni is with
   | none =>
    cases is with
    | nil=>cases Y
    | cons _ _=>cases e2
   | some mm =>
    rw[e2]at J
    cases J
    obtain⟨x,y⟩:=au7 e2
    have:=iw (Z mm x) (y m Y)
    rw[this]
    exact hq.here R2 rfl RV.intI
theorem aH0 (h:on x s=.ok l s'):s'=s/\∃ r,x=.ref r/\s[r]?=some (.lst l):=by
 unfold on at h
 split at h
 .rename_i r
  split at h
  .rename_i y e;cases h;exact⟨rfl,r,rfl,e⟩
  .exact fb h
 .exact fb h
theorem bH6 (G:CG Γ F n X ck)(hg:ck.gl "min"=true)(hs:shp a=true)(h:PE X a (TEv Γ me))(hd:PE X de (TEv Γ md)) :
  PE X (.Call (.Name "min" p) [a] [⟨some "default",de,kp⟩] pos) (TEv Γ (λ U s=>(me U s).bind λ x s=>(md U s).bind λ d s=>(on x s).bind λ l s=>om .min l d s)):=by
 obtain⟨g1,g2,g3⟩:=G.gl hg
 refine(ba8 rfl G.calm g1 (G.bi _ (by decide)) h hd (zb hs)).imp λ W H Q q=>?_
 obtain⟨C,U,s,d,s',E,R,hm,q⟩:=q
 obtain⟨x0,s1,e1,Z⟩:=aa0 hm
 obtain⟨d0,s2,e2,Cc⟩:=aa0 Z
 obtain⟨l,s3,e3,J⟩:=aa0 Cc
 clear hm Z Cc
 obtain⟨rfl,r0,rfl,er⟩:=aH0 e3
 refine⟨C,U,s,_,s1,E,R,e1,λ v0 C1 H1 g1 l1 b1 r1 R1=>?_⟩
 refine⟨C1,U,s1,d0,_,E.mono g1 l1,R1,e2,λ v C2 H2 g2 l2 b2 r2 R2=>?_⟩
 obtain⟨ys,a0,hy⟩:=R2.addr er
 have hlt:=by unfold l9 at b1;exact of_decide_eq_true b1
 rw[g2.w.map r0 hlt]at a0
 unfold om at J
 cases e:m7 l with
 | none=>rw[e]at J;exact fb J
 | some is =>
  rw[e]at J
  have Cc:(match ni is with|some m=>DV.R.ok (DV.D.int m) _|none=>DV.R.ok d0 _)=.ok d s':=J
  have:=qc e
  subst this
  have hq:=q.trans (g1.trans g2 l1) (am l1 l2)
  refine⟨C1 r0,is,r1.refE,SqL.of (by rw[<-hy.ints];exact a0),λ z=>?_,λ m Y a1=>?_⟩
  .subst z
   cases Cc
   exact hq.here R2 b2 r2
  .clear e2
   cases e2:ni is with
   | none =>
    cases is with
    | nil=>cases Y
    | cons _ _=>cases e2
   | some mm =>
    rw[e2]at Cc
    cases Cc
    obtain⟨x,y⟩:=au7 e2
    have:=iw (a1 mm x) (y m Y)
    rw[this]
    exact hq.here R2 rfl RV.intI
theorem bg7 (R:Rp Γ C H s)(g:Gr C s H C' s' H')(hb:r<s.length)(e:s'[r]?=some (.lst l)):tyV Γ.K "list" (.ref (C r)) H:=by
 obtain⟨h,y⟩:∃ h,s[r]?=some h:=⟨s[r],ag hb⟩
 have G:=g.mu r h _ y e rfl
 have ho:=R.obj r h y
 cases h with
 | lst l0 =>
  obtain⟨z,Cc,_⟩:=ho
  exact .inl ⟨rfl,z,SqL.of Cc⟩
 | ro _=>cases G
 | _=>have:=g.kd r _ _ y e;cases this
def mtR (Γ:Gm)(m:n8):V->List V->Hp->VK->Prop:=λ x vs H Q=>∃ C s a l d s',Rp Γ C H s/\RV Γ C H a x/\RVL Γ C H l vs/\a.bnd s.length=true/\lZ s.length l=true/\ow m a l s=.ok d s'/\ae0 Γ C s H d s' Q
theorem bt1:mq<aO:=by rw[eJ];decide
theorem aK2 (Cc:mtT m=some (x,k))(h:ow m a l s=.ok d s'):∃ r l0,a=.ref r/\s[r]?=some (.lst l0):=by
 have go:∀ {r:Nat} {f:List lY->mf lY},(match s[r]? with|some (.lst l)=>f l|_=>.bad)=.ok d s'->∃ l0,s[r]?=some (.lst l0):=λ {r f} h=>by
  cases e:s[r]? with
  | none=>rw[e]at h;exact fb h
  | some ob =>
   cases ob with
   | lst l0=>exact⟨l0,rfl⟩
   | _=>rw[e]at h;exact fb h
 cases a with
 | ref r =>
  have y:∀ {f:List lY->mf lY},(match s[r]? with|some (.lst l)=>f l|_=>.bad)=.ok d s'->∃ z l0,DV.D.ref r=.ref z/\s[z]?=some (.lst l0):=λ h=>by obtain⟨l0,e⟩:=go h;exact⟨_,l0,rfl,e⟩
  cases m with
  | append=>match l with
   | [d]=>exact y h
   | []=>exact fb h
   | _::_::_=>exact fb h
  | _=>exact fb h
 | _=>cases m<;>exact fb h
theorem bj7:MtR X "list.append" (mtR Γ .append):=by
 intro G sh W H x vs v us Q I Z rv h
 obtain⟨C,s,a,l,d,s',R,ra,rl,ba,bl,Cc,q⟩:=h
 obtain⟨r,l0,rfl,e⟩:=aK2 rfl Cc
 cases l with
 | nil=>exact fb Cc
 | cons y t =>
  cases t with
  | cons _ _=>exact fb Cc
  | nil =>
   simp only[ow,e]at Cc
   split at Cc
   case isFalse=>exact fb Cc
   rename_i hlt
   cases Cc
   obtain⟨z,rfl,rz⟩:=rl.one
   obtain⟨xs,h1,Y⟩:=R.addr e
   have J:=by have:=R.wf r _ e;unfold mn at this;exact this
   refine az4 G sh W H x [z] v us Q I Z rv ⟨C r,xs,z,ra.refE,rfl,h1,by rw[Y.length];have:=bt1;lia,?_⟩
   exact q.put R e (Y.append (.cons rz .nil)) (zI J bl) rfl RV.nonI
structure MtOk (Γ:Gm)(X:Cx)(m:n8)(x:Str):Prop where
 ex:∃ id,PySem.Slot "list" x id/\typeOf (.builtin id)=pure (.type "method_descriptor")/\MtR X id (mtR Γ m)
theorem bS4 (z:X.K=Γ.K)(y:Room (mB+1) X.A)(h:mtT m=some (x,k)):MtOk Γ X m x:=by
 cases m<;>cases h
 .exact⟨_,iD,PySem.F.type_list_append,bj7⟩
theorem bl9 {Cc:yK}(G:CG Γ F n X ck)(Z:mtT m=some (x,Cc.length))(hab:aZ7 ob=true)(hl:(ap.endLine==cp.line)=true)(ho:PE X ob (TEv Γ (l8 F o)))
  (a2:mEs ck es Cc=true) (h:PEs Γ F X es Cc):EvT Γ X (.Call (.Attribute ob x ap) Cc [] cp) (l8 F (.meth m o es)):=by
 refine .val ?_
 obtain⟨id,slot,a1,hr⟩:=(bS4 (Γ:=Γ) (X:=X) G.K (G.room.mono G.deep) Z).ex
 have hs:=av3 a2
 have key:∀ W H Q,TEv Γ (l8 F (.meth m o es)) W H Q->tBM Γ.K "list" (mtR Γ m) (TEv Γ (l8 F o)) (TAv Γ (mQ F es)) W H Q:=λ W H Q q=>by
  obtain⟨C,U,s,d,s',E,R,z,q⟩:=q
  obtain⟨a,s1,e1,z⟩:=aa0 z
  obtain⟨l,s2,e2,z⟩:=aa0 z
  refine⟨C,U,s,a,s1,E,R,e1,λ v C1 H1 g1 l1 J r1 R1=>?_⟩
  obtain⟨r,l0,rfl,er⟩:=aK2 Z z
  rw[r1.refE]
  have hk:∀ C2 H2,Gr C1 s1 H1 C2 s2 H2->tyV Γ.K "list" (.ref (C1 r)) H1:=λ C2 H2 g2=>bg7 R1 g2 (by unfold l9 at J;exact of_decide_eq_true J) er
  have Y:TAv Γ (mQ F es) W H1 λ Cc H2=>mtR Γ m (.ref (C1 r)) Cc H2 Q:=by
   refine⟨C1,U,s1,l,s2,E.mono g1 l1,R1,e2,λ vs C2 H2 g2 l2 b2 r2 R2=>?_⟩
   refine⟨C2,s2,.ref r,l,d,s',R2,?_,r2,zl l2 _ J,b2,z,q.trans (g1.trans g2 l1) (am l1 l2)⟩
   have:=RV.mono g2 _ _ J r1
   rw[r1.refE]at this
   exact this
  refine⟨?_,Y⟩
  have hlt:r<s1.length:=by unfold l9 at J;exact of_decide_eq_true J
  obtain⟨o0,e0⟩:∃ o0,s1[r]?=some o0:=⟨s1[r],ag hlt⟩
  have a0:=R1.obj r o0 e0
  cases o0 with
  | lst l0 =>
   obtain⟨Cc,h1,_⟩:=a0
   exact .inl ⟨rfl,Cc,SqL.of h1⟩
  | ro l0 =>
   obtain⟨Cc,h1,_⟩:=a0
   exact .inl ⟨rfl,Cc,h1.1⟩
  | _ =>
   obtain⟨o',eo,ek⟩:=DV.ai5 G.fk es U s1 _ _ e2 r _ e0
   rw[er]at eo;cases eo;cases ek
 cases Cc with
 | nil =>
  have p0:PE X (.Call (.Attribute ob x ap) [] [] cp) (cm0 X.K "list" (mtR Γ m) (TEv Γ (l8 F o))):=bO7 eP slot a1 hr ho (ah9 hab) hl
  rw[G.K]at p0
  refine p0.imp λ W H Q q=>?_
  cases es with
  | cons _ _=>exact h.elim
  | nil =>
   obtain⟨C,U,s,d,s',E,R,z,k⟩:=key W H Q q
   refine⟨C,U,s,d,s',E,R,z,λ v C1 H1 g1 l1 J r1 R1=>?_⟩
   obtain⟨h1,h2⟩:=k v C1 H1 g1 l1 J r1 R1
   exact⟨h1,aN4 (TAv.eq (λ U s=>rfl) h2)⟩
 | cons y ys =>
  refine(bv3 G.K eP slot a1 hr ho (am8 h) (ah9 hab) ?_ hl (zb (hs y (az ..))) (zt λ e he=>hs e (ar _ he)).1).imp key
  rw[(zt hs).2]
  have:(y::ys).length<=1:=by
   unfold mtT at Z
   split at Z<;>first|(have:=aA Z;have:=congrArg Prod.snd this;simp at this;simp;omega)|cases Z
  simp only[dQ,fO,lN]
  show(true&&decide ((y::ys).length+0+0<30))=true
  rw[dQ]
  exact decide_eq_true (by lia)
end
section
variable {Γ:Gm} {F:mz} {n:Nat} {X:Cx} {ck:Ck} {W:St} {H:Hp} {Q:VK}
theorem bG5 (G:CG Γ F n X ck)(hab:aZ7 ob=true)(hl:(ap.endLine==cp.line)=true)(ho:PE X ob (TEv Γ (l8 F o)))(hs:shp a=true)(h:PE X a (TFv Γ m))(a0:∀ U s,DV.KR s (m U s)) :
  PE X (.Call (.Attribute ob "extend" ap) [a] [] cp) (TEv Γ (λ U s=>(l8 F o U s).bind λ x s=>(m U s).bind λ q s=>DV.bw0 x q s)):=by
 refine(bv3 G.K eP iE PySem.F.type_list_extend aV6 ho (zC h ad4 (zb hs)) (ah9 hab) ?_ hl (zb hs) rfl).imp λ W H Q q=>?_
 .rw[(zt λ e he=>by rw[aV.mp he];exact hs).2];rfl
 .obtain⟨C,U,s,d,s',E,R,y,q⟩:=q
  obtain⟨x,s1,e1,y⟩:=aa0 y
  obtain⟨l,s2,e2,y⟩:=aa0 y
  refine⟨C,U,s,x,s1,E,R,e1,λ v C1 H1 g1 l1 b1 r1 R1=>?_⟩
  cases x with
  | ref r =>
   have y:(match s2[r]? with
    | some (.lst m)=>if m.length+l.length<=mq then DV.R.ok DV.D.non (s2.set r (.lst (m++l)))else .bad
    | _=>.bad)=.ok d s':=y
   cases e:s2[r]? with
   | none=>rw[e]at y;exact fb y
   | some ob' =>
    rw[e]at y
    cases ob' with
    | lst l0 =>
     have y:(if l0.length+l.length<=mq then DV.R.ok DV.D.non (s2.set r (.lst (l0++l)))else .bad)=.ok d s':=y
     split at y
     case isFalse=>exact fb y
     rename_i a2
     cases y
     have hlt:=by unfold l9 at b1;exact of_decide_eq_true b1
     have a1:tyV Γ.K "list" (.ref (C1 r)) H1:=by
      obtain⟨Y,e0⟩:∃ Y,s1[r]?=some Y:=⟨s1[r],ag hlt⟩
      have z:=R1.obj r Y e0
      cases Y with
      | lst l0 =>
       obtain⟨J,Cc,_⟩:=z
       exact .inl ⟨rfl,J,SqL.of Cc⟩
      | ro l0 =>
       obtain⟨J,Cc,_⟩:=z
       exact .inl ⟨rfl,J,Cc.1⟩
      | _ =>
       obtain⟨o',eo,ek⟩:=a0 U s1 _ _ e2 r _ e0
       rw[e]at eo;cases eo;cases ek
     rw[r1.refE]
     refine⟨a1,C1,U,s1,l,s2,E.mono g1 l1,R1,e2,λ p ys C2 H2 g2 l2 b2 hp h0 ho r2 R2=>?_⟩
     obtain⟨J,Cc,h2⟩:=R2.addr e
     have Z:=by have:=R2.wf r _ e;unfold mn at this;exact this
     refine⟨C1 r,p,J,ys,rfl,rfl,by rw[<-g2.w.map r hlt];exact Cc,hp,by rw[h2.length,r2.length];have:=bt1;lia,?_⟩
     rw[<-g2.w.map r hlt]
     exact(q.trans (g1.trans g2 l1) (am l1 l2)).put R2 e (h2.append r2) (zI Z b2) rfl RV.nonI
    | _=>exact fb y
  | _=>exact fb y
theorem PIf.imp (h:PIf X e t)(i:∀ W H Q,t' W H Q->t W H Q):PIf X e t':=λ y s W H Q I q=>h y s W H Q I (i W H Q q)
structure CompF (Γ:Gm)(X:Cx)(m:l7->lX->mf (List lY))(E:Expr):Prop where
 ex:∃ elt tgt iter ifs scope pos N' caps wi g tc te,E=.ListComp elt [⟨tgt,iter,ifs,0⟩] scope pos/\zV N' caps scope X.N X.env.scope=true/\PI X tgt iter wi /\
  (∀(Cc:Addr) (cells:yB) (s:ai) (H:Hp) (ex:List Addr),PG (zE X N' scope Cc cells s H ex) tgt g/\PIf (zE X N' scope Cc cells s H ex) ifs tc/\PE (zE X N' scope Cc cells s H ex) elt te) /\
  (∀ x,dW iter X.env x=pure x)/\∀ W H Q,TFv Γ m W H Q->tComp caps wi g tc te W H Q
theorem CompF.pe (h:CompF Γ X m E)(hc:X.calm=true):PE X E (TFv Γ m):=by
 obtain⟨Cc,a0,iter,z,scope,pos,N',y,wi,g,tc,te,rfl,Z,J,G,h4,Y⟩:=h.ex
 exact(ba3 N' y Z J hc G h4).imp Y
theorem bB4 {mI}(G:CG Γ F n X ck)(hm:aQ2 ck tg y iter h scope=true)
  (Y:PI X y iter (TIv Γ mI)) (hc:∀ Cc cells s H ex,PT (zE X (ckC ck y h scope).N scope Cc cells s H ex) i (TTv Γ mc)) (he:∀ Cc cells s H ex,PE (zE X (ckC ck y h scope).N scope Cc cells s H ex) z (TEv Γ J)) :
  CompF Γ X (λ U s=>(mI U s).bind λ q s0=>if q.its.length<=mq then nF (λ s=>m9 s0 s q.src) (λ d U s=>match mY U tg d with
   | some U=>my (mc U s) λ k s=>if k then(J U s).bind λ v s=>.ok (some v,U) s else .ok (none,U) s
   | none=>.bad) q.its (nM U h) s0 else .bad) (.ListComp z [⟨y,iter,[i],0⟩] scope pos):=by
 obtain⟨Z,c2,c3⟩:=G.comp hm
 exact⟨z,y,iter,[i],scope,pos,_,h,_,_,_,_,rfl,Z,Y,λ Cc cells s H ex=>⟨(c3 Cc cells s H ex).2,bE4 (hc Cc cells s H ex),he Cc cells s H ex⟩,as8 c2,λ W H Q q=>aV0 q⟩
theorem bj9 {mI}(G:CG Γ F n X ck)(J:aQ2 ck tg y iter h scope=true)
  (Z:PI X y iter (TIv Γ mI)) (he:∀ Cc cells s H ex,PE (zE X (ckC ck y h scope).N scope Cc cells s H ex) z (TEv Γ Y)) :
  CompF Γ X (λ U s=>(mI U s).bind λ q s0=>if q.its.length<=mq then nF (λ s=>m9 s0 s q.src) (λ d U s=>match mY U tg d with
   | some U=>(Y U s).bind λ v s=>.ok (some v,U) s
   | none=>.bad) q.its (nM U h) s0 else .bad) (.ListComp z [⟨y,iter,[],0⟩] scope pos):=by
 obtain⟨c1,c2,c3⟩:=G.comp J
 refine⟨z,y,iter,[],scope,pos,_,h,_,_,TTv Γ (λ U s=>.ok (.bl true) s),_,rfl,c1,Z,λ Cc cells s H ex=>⟨(c3 Cc cells s H ex).2,bL1.imp λ W H Q q=>?_,he Cc cells s H ex⟩,as8 c2,λ W H Q q=>aV0 (TFv.eq (λ U s=>?_) q)⟩
 .obtain⟨C,U,s,b,s',E,R,J,q⟩:=q
  cases J
  exact q C H (Gr.refl _ _ _) (aj _) R
 .congr 1
theorem bz8 (G:CG Γ F n X ck)(h:PE X E (TEv Γ (l8 F e))):PI X tg E (TIv Γ (oq F (.seq e))):=by
 refine(PI.or (bH1 G.K h) (PI.or (bh4 G.K h) (bQ5 h))).imp λ W H R q=>bY0 (TIv.eq (λ U s=>rfl) q)
theorem bm3 (G:CG Γ F n X ck)(hg:ck.gl "range"=true)(hs:shp l=true)(h:PE X l (TEv Γ (l8 F a))):PI X tg (.Call (.Name "range" p) [l] [] pos) (TIv Γ (oq F (.rng1 a))) :=
 (aY6 (G.gl hg).1 (G.bi _ (by decide)) (zC h ad4 (zb hs)) (zb hs)).imp λ W H R q=>bB1 (TIv.eq (λ U s=>rfl) q)
theorem bq0 {elts:yK}(G:CG Γ F n X ck)(hg:ck.gl "enumerate"=true)(hs:shp l=true)(h:PE X l (TEv Γ (l8 F a))):PI X (.Tuple elts ek epos) (.Call (.Name "enumerate" p) [l] [] pos) (TIv Γ (oq F (.enum (.seq a)))):=by
 have q:=bB3 (elts:=elts) (ek:=ek) (epos:=epos) (p:=p) (pos:=pos) (G.gl hg).1 (G.bi _ (by decide)) (zC h ad4 (zb hs)) (zb hs)
 rw[G.K]at q
 exact q.imp λ W H R q=>bz2 (TIv.eq (λ U s=>rfl) q)
theorem bY3 (h:TEv Γ (λ U s=>nv (.dic []) s) W H Q):bu0 W H Q:=by
 obtain⟨C,U,s,d,s',E,R,z,q⟩:=h
 obtain⟨rfl,rfl⟩:=qo z
 intro p hp
 obtain⟨g,y⟩:=R.new (o:=.dic []) hp rfl λ C' H' g e=>⟨[],e,rfl⟩
 exact q (.ref p) _ _ g (by simp) (by unfold l9;simp) (by unfold RV;simp) y
theorem bY2 (h:TEv Γ (λ U s=>(mk U (s++[.dic []])).bind λ kd s1=>(mv U s1).bind λ Cc s2=>if kd.key=true/\s2[s.length]?=some (.dic [])then .ok (.ref s.length) (s2.set s.length (.dic [(kd,Cc)]))else .bad) W H Q):bR6 [(TEv Γ mk,TEv Γ mv)] W H Q:=by
 obtain⟨C,U,s,d,s',E,R,y,q⟩:=h
 obtain⟨kd,s1,e1,y⟩:=aa0 y
 obtain⟨Cc,s2,e2,y⟩:=aa0 y
 split at y
 case isFalse=>exact fb y
 rename_i hc
 cases y
 intro p hp
 obtain⟨g0,R0⟩:=R.new (o:=.dic []) hp rfl λ C' H' g e=>⟨[],e,rfl⟩
 have l0:s.length<=(s++[DV.O.dic []]).length:=by simp
 refine⟨_,U,s++[DV.O.dic []],kd,s1,E.mono g0 l0,R0,e1,λ v1 C1 H1 g1 l1 Z r1 R1=>?_⟩
 refine⟨C1,U,s1,Cc,s2,(E.mono g0 l0).mono g1 l1,R1,e2,λ G C2 H2 g2 J b2 r2 R2=>?_⟩
 have z:C2 s.length=p:=by
  rw[g2.w.map s.length (ao (by simp) l1),g1.w.map s.length (by simp)];simp
 obtain⟨k,hk⟩:=qQ hc.1
 have ek:=aq7 hk (RV.mono g2 kd v1 Z r1)
 obtain⟨kvs,z1,z2⟩:=R2.obj s.length _ hc.2
 have z2:=z2
 subst z2
 rw[z]at z1
 refine⟨z1,[(k,G)],by rw[ek];rfl,by simp,?_⟩
 have hb:(DV.O.dic [(kd,Cc)]).bnd s2.length=true:=by
  unfold mn
  simp only[aS,dE,lZ,eD,ak]
  exact⟨zl J _ Z,b2⟩
 obtain⟨g3,Y⟩:=R2.set hc.2 rfl hb λ H' g e=>⟨_,e,k,G,[],rfl,hk,RV.monoW g _ _ b2 r2,rfl⟩
 rw[z]at g3 Y
 have L:=am l0 (am l1 J)
 have lt:s.length<s2.length:=ao (by simp) (am l1 J)
 exact q (.ref p) _ _ (((g0.trans g1 l0).trans g2 (am l0 l1)).trans g3 L) (by rw[aU];exact L) (by unfold l9;rw[aU];exact decide_eq_true lt) (by unfold RV;rw[z]) Y
theorem dic_kd2 {o:mO}(h:o.kd=2):(∃ l,o=.dic l)\/∃ l,o=.dicF l:=by
 cases o with
 | dic l=>exact .inl ⟨l,rfl⟩
 | dicF l=>exact .inr ⟨l,rfl⟩
 | _=>cases h
section
variable {c:String} {kvs:List (List Nat×List Nat)} {a:Addr}
end
end
theorem aV9 f :∀ k,ot f k=bL (λ i j=>decide (f i<f j)) k
 | 0=>rfl
 | k+1=>by
  unfold ot bL
  rw[aV9 f k]
  by_cases h:f (k+1)<f (bL (λ i j=>decide (f i<f j)) k)
  .rw[if_pos h,if_pos (by simpa using h)]
  .rw[if_neg h,if_neg (by simpa using h)]
theorem bm2 (h:oI j d=some z):∃ t,d=.tup t/\((mW t.length j).bind λ k=>t[k]?)=some (.int z):=by
 cases d with
 | tup t =>
  have h:(match(mW t.length j).bind λ k=>t[k]? with|some (.int z)=>some z|_=>none)=some z:=h
  split at h
  .rename_i e;cases h;exact⟨t,rfl,e⟩
  .cases h
 | _=>cases h
theorem aJ1 :∀ {l} {y},ou j l=some y->y.length=l.length/\∀(i:Nat) d,l[i]?=some d->∃ z t,d=.tup t/\((mW t.length j).bind λ k=>t[k]?)=some (.int z)/\y[i]?=some z
 | [],y,h=>by cases h;exact⟨rfl,λ i d e=>by cases e⟩
 | d::l,y,h=>by
  have h:(match oI j d with|some z=>(match ou j l with|some zs=>some (z::zs)|none=>none)|none=>none)=some y:=h
  cases e1:oI j d with
  | none=>rw[e1]at h;cases h
  | some z =>
   rw[e1]at h
   cases e2:ou j l with
   | none=>rw[e2]at h;cases h
   | some zs =>
    rw[e2]at h
    cases h
    obtain⟨Y,G⟩:=aJ1 e2
    refine⟨by rw[aL,aL,Y],λ i d' Cc=>?_⟩
    cases i with
    | zero=>cases Cc;obtain⟨t,J,q2⟩:=bm2 e1;exact⟨z,t,J,q2,rfl⟩
    | succ i=>exact G i d' Cc
section
variable {Γ:Gm} {F:mz} {n:Nat} {X:Cx} {ck:Ck}
theorem bl6 {id}(G:CG Γ F n X ck)(hg:ck.gl "min"=true)(hs:shp a=true)(h:PE X a (TEv Γ me))
  (L:LamHere Γ X X.N id [] params body scope c P J) (hnm:J.nm=none) (hk:bv5 j (.Lambda params body scope lp)=true) :
  PE X (.Call (.Name "min" p) [a] [⟨some "key",.Lambda params body scope lp,kp⟩] pos) (TEv Γ (λ U s=>(me U s).bind λ x s=>(on x s).bind λ l s=>DV.aG4 j l s)):=by
 obtain⟨g1,g2,g3⟩:=G.gl hg
 cases body with
 | Subscript o i p3 =>
  cases o with
  | Name y p1 =>
   cases i with
   | Constant cc k p2 =>
    have hk:(decide (cc=.int j)&&decide (qL params=some [y])&&decide (scope.names.lookup y=some .local)&&!(y==("__debug__":Str)))=true:=hk
    rw[ak,ak,ak]at hk
    obtain⟨⟨⟨k1,k2⟩,k3⟩,k4⟩:=hk
    have e1:=of_decide_eq_true k1
    have e2:=of_decide_eq_true k2
    have e3:=of_decide_eq_true k3
    subst e1
    have a2:(y==("__debug__":Str))=false:=by simpa using k4
    have a5:=by
     have:=L.gp
     rw[L.p,e2]at this
     exact(aA this).symm
    have hq:J.qual=X.env.qual ++ "<lambda>":=by rw[L.q];unfold LamI.own;rw[hnm]
    have hr:cl6 X (λ x f H Q=>∃ a xs fa c' Y pm Z,∃ kf:Nat->Int,x=.ref a/\f=.ref fa/\SqL X.K H a xs/\0<xs.length/\H fa=some (ao9 fa (bv "<lambda>" J.qual params (.Subscript (.Name y p1) (.Constant (.int j) k p2) p3) scope Y pm (.ref c') Z))/\H c'=some (zX c' J.qual) /\
      (∀(i:Nat) v,xs[i]?=some v->∃ p ys,v=.ref p/\SqT X.K H p ys/\atI ys j=some (.int (kf i)))/\∀ v,xs[bL (λ i j=>decide (kf i<kf j)) (xs.length - 1)]?=some v->Q v H):=by
     intro b6 s W H x f v u Q I rx rf hh
     obtain⟨a,xs,fa,c',Y,pm,Z,kf,rfl,rfl,h1,h2,h3,h4,h5,h6⟩:=hh
     cases rx
     cases rf
     have gs:=L.gs
     rw[L.s]at gs
     refine bj5 kf G.calm G.room.depth I h1 h2 gs a5 e3 a2 h3 h4 (λ us b4=>?_) h5 h6
     have:=L.gb Y pm c' Z us b4
     rw[L.p,L.b,L.s]at this
     exact this
    refine(bH0 hr g1 (G.bi _ (by decide)) h (aA4 L.code L.hd L.bm L.ck L.df) (zb hs)).imp λ W H Q q=>?_
    obtain⟨C,U,s,d,s',E,R,hm,q⟩:=q
    obtain⟨x0,s1,e1,a1⟩:=aa0 hm
    obtain⟨l,s2,b3,Cc⟩:=aa0 a1
    clear hm a1
    obtain⟨rfl,r0,rfl,er⟩:=aH0 b3
    refine⟨C,U,s,_,_,E,R,e1,λ v C1 H1 g1 l1 b1 r1 R1=>?_⟩
    rw[<-hq]
    refine aK9 R1.tab L.nd L.tab λ f H' e st tb hf ho=>?_
    obtain⟨gg,R2⟩:=R1.sameT e st tb
    obtain⟨pm,c',Z,b0,b5⟩:=ho
    obtain⟨xs,hp,hy⟩:=R2.addr er
    have a6:=hy.length
    unfold DV.aG4 at Cc
    cases ek:ou j l with
    | none=>rw[ek]at Cc;exact fb Cc
    | some ks =>
     rw[ek]at Cc
     have Cc:(match l[ot (λ i=>ks.getD i 0) (l.length - 1)]? with|some d=>DV.R.ok d _|none=>.bad)=.ok d s':=Cc
     obtain⟨kl,b2⟩:=aJ1 ek
     cases el:l[ot (λ i=>ks.getD i 0) (l.length - 1)]? with
     | none=>rw[el]at Cc;exact fb Cc
     | some d0 =>
      rw[el]at Cc
      cases Cc
      refine⟨_,xs,f,c',_,pm,Z,λ i=>ks.getD i 0,r1.refE,rfl,by rw[G.K];exact SqL.of hp,by have:=(ac.mp el).1;lia,b0,b5,λ i v hv=>?_,λ v hv=>?_⟩
      .obtain⟨d1,a0,rv⟩:=hy.get' hv
       obtain⟨z,t,rfl,hz,a4⟩:=b2 i d1 a0
       obtain⟨a',ys,rfl,hT,rt⟩:=rv.tupE
       obtain⟨w',hw,a3⟩:=aI4 rt hz
       have:=a3.intE
       subst this
       refine⟨a',ys,rfl,by rw[G.K];exact hT,?_⟩
       rw[hw]
       show _=some (V.int (ks.getD i 0))
       rw[a7,a4]
       rfl
      .rw[<-aV9,a6]at hv
       obtain⟨d1,a0,rv⟩:=hy.get' hv
       rw[el]at a0
       cases a0
       have wf:=R1.wf _ _ er
       unfold mn at wf
       exact q v C1 H' (g1.trans gg l1) l1 (af7 wf el) rv R2
   | _=>exact ff hk
  | _=>exact ff hk
 | _=>exact ff hk
end
section
variable {Γ:Gm} {F:mz} {n:Nat} {X:Cx} {ck:Ck}
def TJv (Γ:Gm)(m:l7->lX->mf (List lY))(out:List Nat):TE:=λ W H Q=>∃ C U s l s' ws,RE Γ C H s.length U W/\Rp Γ C H s/\m U s=.ok l s'/\nY l=some ws/\(out++ws.flatten).length<=mq /\
 ∀ C' H',Gr C s H C' s' H'->s.length<=s'.length->Rp Γ C' H' s'->Q (.str ⟨(out++ws.flatten).toArray⟩) H'
def PF (Γ:Gm)(X:Cx)(vs:yK)(m:l7->lX->mf (List lY)):Prop :=
 ∀ out pins s (W:St) H Q ,Inv X pins W H s->TJv Γ m out W H Q->wpAny (model X.prog X.w) X.A (joinParts ⟨out.toArray⟩ (evalEach vs X.env)) (EP X pins W Q) X.xe s
theorem PF.eq (e:∀ U s,m U s=m' U s)(h:PF Γ X vs m):PF Γ X vs m':=λ out y s W H Q I q=>by
 obtain⟨C,U,s0,l,s',ws,E,R,z,q⟩:=q
 exact h out y s W H Q I ⟨C,U,s0,l,s',ws,E,R,by rw[e];exact z,q⟩
theorem aE4 (w:List Nat):(⟨w.toArray⟩:Str).length=w.length:=by simp[Str.length]
theorem bU4:PF Γ X [] (λ _ s=>.ok [] s):=λ out h s W H Q I q=>by
 obtain⟨C,U,s0,l,s',ws,E,R,y,hw,hl,q⟩:=q
 cases y
 cases hw
 rw[List.flatten_nil,bp]at q hl
 exact joinParts_nilE (joinParts_nil ⟨.str ⟨out.toArray⟩,H,I.tok _,⟨_,rfl⟩,q C H (Gr.refl _ _ _) (aj _) R⟩ (by rw[aE4];exact am hl zN))
theorem aW6 (h:nY (d::l)=some ws):∃ w y,d=.str w/\nY l=some y/\ws=w::y:=by
 cases d with
 | str w =>
  have h:(nY l).map (w::·)=some ws:=h
  cases e:nY l with
  | none=>rw[e]at h;cases h
  | some y=>rw[e]at h;cases h;exact⟨w,y,rfl,rfl,rfl⟩
 | _=>cases h
theorem aZ8 (h2:PF Γ X vs m2)
  (h1:∀(h:yA) (s:ai) (W:St) (H:Hp) (w:List Nat) (Q:VK),w.length<=mq->Inv X h W H s->TEv Γ m1 W H (λ x y=>x=.str ⟨w.toArray⟩/\Q x y) ->
   wpAny (model X.prog X.w) X.A (eval v X.env) (λ u s1=>∃ t y,u=.str ⟨w.toArray⟩ t/\Inv X h W y s1/\Q (.str ⟨w.toArray⟩) y) X.xe s) :
  PF Γ X (v::vs) (λ U s=>(m1 U s).bind λ d s=>(m2 U s).bind λ l s=>.ok (d::l) s):=λ out h s W H Q I q=>by
 obtain⟨C,U,s0,l,s',ws,E,R,G,hw,hl,q⟩:=q
 obtain⟨d,s1,e1,G⟩:=aa0 G
 obtain⟨l2,s2,e2,G⟩:=aa0 G
 cases G
 obtain⟨w,J,rfl,Y,rfl⟩:=aW6 hw
 rw[c9,<-aM]at hl q
 have z:(out++w).length<=mq:=by rw[aD]at hl;lia
 have Cc:w.length<=mq:=by rw[aD]at z;lia
 refine joinParts_consE (joinParts_cons (bU (h1 h s W H w (λ x y=>∃ C1,Gr C s0 H C1 s1 y/\s0.length<=s1.length/\Rp Γ C1 y s1) Cc I ⟨C,U,s0,.str w,s1,E,R,e1,λ v C1 y g1 l1 b1 r1 R1=>⟨r1.strE,C1,g1,l1,R1⟩⟩) (λ u Z hu=>?_) λ _ _ x=>x))
 obtain⟨t,y,rfl,I1,C1,g1,l1,R1⟩:=hu
 show(_++_:Str).length<=aO/\_
 rw[aS9]
 refine⟨by rw[aE4];exact am z zN,h2 (out++w) h Z W y Q I1 ⟨C1,U,s1,l2,s',J,E.mono g1 l1,R1,e2,Y,hl,λ C2 H2 g2 l2 R2=>q C2 H2 (g1.trans g2 l1) (am l1 l2) R2⟩⟩
theorem bs5 (hv:PE X v (TEv Γ z)) h s (W:St) H (w:List Nat)(Q:VK)(I:Inv X h W H s)(q:TEv Γ z W H (λ x y=>x=.str ⟨w.toArray⟩/\Q x y)) :
  wpAny (model X.prog X.w) X.A (eval v X.env) (λ u s1=>∃ t y,u=.str ⟨w.toArray⟩ t/\Inv X h W y s1/\Q (.str ⟨w.toArray⟩) y) X.xe s :=
 bU (hv h s W H _ I q) (λ u s1 hu=>by
  obtain⟨x,y,Cc,J,ex,G⟩:=hu
  subst ex
  obtain⟨t,rfl⟩:=(J)
  exact⟨t,y,rfl,Cc,G⟩) λ _ _ x=>x
theorem bZ3 (hv:PE X v (TEv Γ y))(G:PF Γ X vs z) :
  PF Γ X (.FormattedValue v (-1) none p::vs) (λ U s=>(y U s).bind λ d s=>(z U s).bind λ l s=>.ok (d::l) s) :=
 aZ8 G λ h s W H w Q hw I q=>FormattedValue_plain (bU (bs5 hv h s W H w Q I q) (λ u s1 hu=>by
  obtain⟨t,Cc,rfl,J,Y⟩:=hu
  exact formatField_str (λ t' tk=>⟨t',Cc,rfl,J.tok tk,Y⟩) (by rw[aE4];exact am hw zN)) λ _ _ x=>x)
theorem bQ9 (hv:PE X v (TEv Γ y))(Cc:PF Γ X vs z) :
  PF Γ X (v::vs) (λ U s=>(y U s).bind λ d s=>(z U s).bind λ l s=>.ok (d::l) s) :=
 aZ8 Cc λ h s W H w Q hw I q=>bs5 hv h s W H w Q I q
end
section
variable {Γ:Gm} {F:mz} {n:Nat} {X:Cx} {ck:Ck} {W:St} {H:Hp} {Q:VK}
theorem bh2:bS3 ch6:=λ {a b k} ha hb=>by
 cases a with
 | str x =>
  cases ha
  cases b with
  | str y =>
   have h:=aA hb
   injection h with h
   have z:=by simpa using h
   rw[z]
  | _=>cases hb
 | _=>cases ha
theorem RVD.lk :∀ {l} {gs},RVD ch6 Γ C H l gs->mF (.str f) l=some d->∃ v,gs.lookup ⟨f.toArray⟩=some v/\RV Γ C H d v/\((⟨f.toArray⟩,v))∈gs/\d∈l.map (·.2)
 | [],_,_,e=>by cases e
 | (a,e0)::l,_,h,e=>by
  obtain⟨y,v',r,rfl,e2,J,Cc⟩:=h
  unfold mF at e
  split at e
  .rename_i ha
   subst ha
   cases e2
   cases e
   exact⟨v',by simp[],J,by simp,by simp⟩
  .rename_i ha
   obtain⟨v,G,q2,q3,q4⟩:=RVD.lk Cc e
   refine⟨v,?_,q2,ar _ q3,by simp at q4 ⊢;exact .inr q4⟩
   have ne:((⟨f.toArray⟩)==y)=false:=beq_eq_false_iff_ne.mpr λ z=>ha (bh2 e2 (by rw[<-z];rfl))
   rw[be,ne];exact G
theorem au2 a :∀ l:List Int,(nZ a l).Perm (a::l)
 | []=>.refl _
 | b::l=>by
  unfold nZ
  split
  .exact .refl _
  .exact((au2 a l).cons b).trans (.swap a b l)
theorem ar4:∀ l:List Int,(DV.zT l).Perm l
 | []=>.refl _
 | a::l=>(au2 a _).trans ((ar4 l).cons a)
theorem aq0 :∀ {l},l.Pairwise (·<=·)->(nZ a l).Pairwise (·<=·)
 | [],_=>by unfold nZ;exact List.pairwise_singleton _ _
 | b::l,h=>by
  unfold nZ
  rw[bR]at h
  split
  .rename_i hab
   exact bR.mpr ⟨λ c hc=>(av.mp hc).elim (λ z=>z▸hab) λ z=>kg hab (h.1 c z),bR.mpr h⟩
  .rename_i hab
   refine bR.mpr ⟨λ c hc=>?_,aq0 h.2⟩
   rcases av.mp ((au2 a l).mem_iff.mp hc)with z|z
   .lia
   .exact h.1 c z
theorem ai6:∀ l:List Int,(DV.zT l).Pairwise (·<=·)
 | []=>.nil
 | a::l=>aq0 (ai6 l)
theorem ax4:∀ {l m:List Int},l.Perm m->l.Pairwise (·<=·)->m.Pairwise (·<=·)->l=m
 | [],m,p,_,_=>(List.nil_perm.mp p).symm
 | a::l,[],p,_,_=>absurd (List.perm_nil.mp p) (by simp)
 | a::l,b::m,p,h1,h2=>by
  have g1:=bR.mp h1
  have g2:=bR.mp h2
  have hab:a=b:=by
   have x1:a<=b:=by
    rcases av.mp (p.symm.mem_iff.mp (az ..))with z|z
    .lia
    .exact g1.1 b z
   have x2:b<=a:=by
    rcases av.mp (p.mem_iff.mp (az ..))with z|z
    .lia
    .exact g2.1 a z
   lia
  subst hab
  rw[ax4 (List.Perm.cons_inv p) g1.2 g2.2]
theorem az1 :∀ ns:List Int,RVL Γ C H (ns.map DV.D.int) (ns.map V.int)
 | []=>.nil
 | n::ns=>.cons RV.intI (az1 ns)
theorem aq6 :∀ ns:List Int,lZ m (ns.map DV.D.int)=true
 | []=>rfl
 | n::ns=>by rw[aS];unfold lZ;rw[aq6 ns];rfl
end
section
variable {Γ:Gm} {F:mz} {n:Nat} {X:Cx} {ck:Ck}
theorem bo6 (h:DV.bp7 x y z s=.ok d s'):∃ r l,x=.ref r/\s[r]?=some (.dic l)/\y.key=true/\d=(mF y l).getD z/\s'=s:=by
 unfold DV.bp7 at h
 split at h
 .split at h
  .split at h
   .cases h;exact⟨_,_,rfl,by assumption,by assumption,rfl,rfl⟩
   .exact fb h
  .exact fb h
 .exact fb h
theorem bf1 (R:Rp Γ C H t)(f:t[r]?=some z)(k:z.kd=2):IsD H (C r):=by
 rcases dic_kd2 k with⟨l0,rfl⟩|⟨l0,rfl⟩
 .obtain⟨h,y,_⟩:=R.obj r _ f
  exact .inl ⟨h,.inl y⟩
 .obtain⟨Cc,h,y,_⟩:=R.obj r _ f
  exact .inl ⟨h,.inr ⟨Cc,y⟩⟩
theorem bC7 (G:CG Γ F n X ck)(hab:aZ7 ob=true)(hl:(ap.endLine==cp.line)=true)(s1:shp a=true)(s2:shp b=true)(ho:PE X ob (TEv Γ (l8 F o)))(hk:PE X a (TEv Γ (l8 F k)))(he:PE X b (TEv Γ (l8 F e))) :
  EvT Γ X (.Call (.Attribute ob "get" ap) [a,b] [] cp) (l8 F (.gtd o k e)):=by
 have a2:∀ x∈[a,b],shp x=true:=λ x hx=>by
  rcases av.mp hx with z|z
  .rw[z];exact s1
  .rw[aV.mp z];exact s2
 refine .val ((bj6 (aC3 G.room) ho hk he ⟨ah9 hab,by rw[(zt a2).2];rfl,hl,by rw[zb s1,zb s2];rfl⟩).imp λ W H Q q=>?_)
 obtain⟨C,U,s,d,s',E,R,hm,q⟩:=q
 obtain⟨x,h,e1,Cc⟩:=aa0 hm
 obtain⟨y,t2,e2,J⟩:=aa0 Cc
 obtain⟨z,t3,e3,a1⟩:=aa0 J
 clear hm Cc J
 obtain⟨r,l,rfl,er,hy,rfl,rfl⟩:=bo6 a1
 refine⟨C,U,s,_,h,E,R,e1,λ v1 C1 H1 g1 l1 b1 r1 R1=>?_⟩
 have hlt:r<h.length:=by unfold l9 at b1;exact of_decide_eq_true b1
 obtain⟨o1,f1⟩:∃ o1,h[r]?=some o1:=⟨h[r],ag hlt⟩
 obtain⟨o2,f2,k2⟩:=ox G.fk k U h _ _ e2 r _ f1
 obtain⟨o3,f3,k3⟩:=ox G.fk e U t2 _ _ e3 r _ f2
 rw[er]at f3;cases f3
 refine⟨C1 r,r1.refE,bf1 R1 f1 (k2.symm.trans k3.symm),C1,U,h,y,t2,E.mono g1 l1,R1,e2,λ v2 C2 H2 g2 l2 b2 r2 R2=>?_⟩
 have G2:=g1.trans g2 l1
 have L2:=am l1 l2
 refine⟨C2,U,t2,z,_,E.mono G2 L2,R2,e3,λ v3 C3 H3 g3 l3 b3 r3 Z=>?_⟩
 obtain⟨kk,Y⟩:=qQ hy
 have ey:=aq7 Y (RV.mono g3 y v2 b2 r2)
 subst ey
 obtain⟨kvs,c1,c2⟩:=Z.obj r _ er
 have a0:C3 r=C1 r:=by rw[g3.w.map r (ao hlt l2),g2.w.map r hlt]
 rw[a0]at c1
 refine⟨ar0 kvs kk,aR0.k c1,?_⟩
 have hq:=q.trans (G2.trans g3 L2) (am L2 l3)
 rcases c2.val zW Y with⟨q1,q2⟩|⟨e',v',q1,q2,q3,q4⟩
 .rw[q1]at hq;rw[q2];exact hq.here Z b3 r3
 .rw[q1]at hq;rw[q2]
  have wf:=Z.wf _ _ er
  unfold mn at wf
  rw[ak]at wf
  exact hq.here Z (aa5.mp wf.2 _ q4) q3
theorem bj2 (h:DV.aV3 x y z s=.ok d s'):∃ r l,x=.ref r/\s[r]?=some (.dic l)/\y.key=true/\l.length<mq/\((∃ v,mF y l=some v/\d=v/\s'=s)\/(mF y l=none/\d=z/\s'=s.set r (.dic (mG y z l)))):=by
 unfold DV.aV3 at h
 split at h
 .split at h
  .rename_i l er
   split at h
   .rename_i hc
    rw[ak]at hc
    cases q:mF y l with
    | none=>rw[q]at h;cases h;exact⟨_,l,rfl,er,hc.1,of_decide_eq_true hc.2,.inr ⟨q,rfl,rfl⟩⟩
    | some u=>rw[q]at h;cases h;exact⟨_,l,rfl,er,hc.1,of_decide_eq_true hc.2,.inl ⟨_,q,rfl,rfl⟩⟩
   .exact fb h
  .exact fb h
 .exact fb h
theorem bG8 (G:CG Γ F n X ck)(hab:aZ7 ob=true)(hl:(ap.endLine==cp.line)=true)(s1:shp a=true)(s2:shp b=true)(ho:PE X ob (TEv Γ (l8 F o)))(hk:PE X a (TEv Γ (l8 F k)))(he:PE X b (TEv Γ (l8 F e))) :
  EvT Γ X (.Call (.Attribute ob "setdefault" ap) [a,b] [] cp) (l8 F (.sdf o k e)):=by
 have a3:∀ x∈[a,b],shp x=true:=λ x hx=>by
  rcases av.mp hx with z|z
  .rw[z];exact s1
  .rw[aV.mp z];exact s2
 refine .val ((bk6 ho hk he ⟨ah9 hab,by rw[(zt a3).2];rfl,hl,by rw[zb s1,zb s2];rfl⟩).imp λ W H Q q=>?_)
 obtain⟨C,U,s,d,s',E,R,hm,q⟩:=q
 obtain⟨x,Cc,e1,Y⟩:=aa0 hm
 obtain⟨y,t2,e2,a0⟩:=aa0 Y
 obtain⟨z,t3,e3,a2⟩:=aa0 a0
 clear hm Y a0
 obtain⟨r,l,rfl,er,hy,a5,hd⟩:=bj2 a2
 refine⟨C,U,s,_,Cc,E,R,e1,λ v1 C1 H1 g1 l1 b1 r1 R1=>?_⟩
 have hlt:=by unfold l9 at b1;exact of_decide_eq_true b1
 obtain⟨o1,f1⟩:∃ o1,Cc[r]?=some o1:=⟨Cc[r],ag hlt⟩
 obtain⟨o2,f2,k2⟩:=ox G.fk k U Cc _ _ e2 r _ f1
 obtain⟨o3,f3,k3⟩:=ox G.fk e U t2 _ _ e3 r _ f2
 rw[er]at f3;cases f3
 refine⟨C1 r,r1.refE,bf1 R1 f1 (k2.symm.trans k3.symm),C1,U,Cc,y,t2,E.mono g1 l1,R1,e2,λ v2 C2 H2 g2 l2 b2 r2 R2=>?_⟩
 have G2:=g1.trans g2 l1
 have L2:=am l1 l2
 refine⟨C2,U,t2,z,_,E.mono G2 L2,R2,e3,λ v3 C3 H3 g3 l3 b3 r3 R3=>?_⟩
 obtain⟨kk,h⟩:=qQ hy
 have ey:=aq7 h (RV.mono g3 y v2 b2 r2)
 subst ey
 obtain⟨kvs,c1,c2⟩:=R3.obj r _ er
 have a1:C3 r=C1 r:=by rw[g3.w.map r (ao hlt l2),g2.w.map r hlt]
 have hq:=q.trans (G2.trans g3 L2) (am L2 l3)
 have Z:=R3.wf _ _ er
 refine⟨kvs,kk,by rw[<-a1];exact c1,rfl,by rw[c2.length];exact ao a5 zN,λ v hv=>?_,λ hn=>?_⟩
 .rcases c2.val zW h with⟨J,q2⟩|⟨e',v',J,q2,q3,q4⟩
  .rw[q2]at hv;cases hv
  .rw[q2]at hv;cases hv
   rcases hd with⟨u,z1,rfl,rfl⟩|⟨z1,_⟩
   .rw[J]at z1;cases z1
    have wf:=Z
    unfold mn at wf
    rw[ak]at wf
    exact hq.here R3 (aa5.mp wf.2 _ q4) q3
   .rw[J]at z1;cases z1
 .rcases c2.val zW h with⟨J,q2⟩|⟨e',v',J,q2,q3,q4⟩
  .rcases hd with⟨u,z1,_⟩|⟨_,rfl,rfl⟩
   .rw[J]at z1;cases z1
   .have yb:=zl l3 y b2
    have hb:=av4 Z yb b3
    have a4:=by
     unfold mn at hb
     rw[ak]at hb
     exact hb.2
    obtain⟨g,R'⟩:=R3.set er rfl hb λ H' g e=>⟨_,e,RVD.monoW g _ _ a4 (c2.put zW h r3)⟩
    rw[<-a1]
    exact hq v3 C3 _ g (by simp) (by rw[aU];exact b3) (RV.mono g d v3 b3 r3) R'
  .rw[q2]at hn;cases hn
theorem bk7 (h:DV.bq8 x y s=.ok d s'):∃ r q l m,x=.ref r/\y=.ref q/\s[r]?=some (.dic l)/\s[q]?=some (.dic m)/\r≠q/\l.length+m.length<=mq/\d=.non/\s'=s.set r (.dic (nH l m)):=by
 unfold DV.bq8 at h
 split at h
 .split at h
  .split at h
   .split at h
    .split at h
     .rename_i hc
      cases h;exact⟨_,_,_,_,rfl,rfl,by assumption,by assumption,hc.1,hc.2,rfl,rfl⟩
     .exact fb h
    .exact fb h
   .exact fb h
  .exact fb h
 .exact fb h
theorem RVD.merge :∀ {m l} {y kvs},RVD jf Γ C H l kvs->RVD jf Γ C H m y->RVD jf Γ C H (nH l m) (af6 kvs y)
 | [],l,y,kvs,h,g=>by
  have g:=g
  subst g;exact h
 | (d,e)::m,l,_,kvs,h,g=>by
  obtain⟨k,v,r,rfl,e2,Cc,z⟩:=g
  exact RVD.merge (l:=mG d e l) (kvs:=ao6 kvs k v) (RVD.put zW e2 Cc h) z
theorem aK7 :∀ {m l},(DV.O.dic l).bnd n=true->(DV.O.dic m).bnd n=true->(DV.O.dic (nH l m)).bnd n=true
 | [],l,h,_=>h
 | (d,e)::m,l,h,g=>by
  unfold mn at g
  rw[ak,aS,aS]at g
  obtain⟨g1,g2⟩:=g
  unfold lZ at g1 g2
  obtain⟨y,G⟩:=dX.mp g1
  obtain⟨Cc,z⟩:=dX.mp g2
  exact aK7 (m:=m) (av4 h y Cc) (show(lZ n (m.map (·.1))&&lZ n (m.map (·.2)))=true by rw[G,z];rfl)
theorem bI9 (G:CG Γ F n X ck)(hab:aZ7 ob=true)(hl:(ap.endLine==cp.line)=true)(s1:shp a=true)(ho:PE X ob (TEv Γ (l8 F o)))(hk:PE X a (TEv Γ (l8 F k))) :
  EvT Γ X (.Call (.Attribute ob "update" ap) [a] [] cp) (l8 F (.upd o k)):=by
 have a1:∀ x∈[a],shp x=true:=λ x hx=>by rw[aV.mp hx];exact s1
 refine .val ((bC3 ho hk ⟨ah9 hab,by rw[(zt a1).2];rfl,hl,by rw[zb s1];rfl⟩).imp λ W H Q q=>?_)
 obtain⟨C,U,s,d,s',E,R,hm,q⟩:=q
 obtain⟨x,J,e1,Y⟩:=aa0 hm
 obtain⟨y,t2,e2,a0⟩:=aa0 Y
 clear hm Y
 obtain⟨r,b,l,m,rfl,rfl,er,eb,ne,Z,rfl,rfl⟩:=bk7 a0
 refine⟨C,U,s,_,J,E,R,e1,λ v1 C1 H1 g1 l1 b1 r1 R1=>?_⟩
 have hlt:=by unfold l9 at b1;exact of_decide_eq_true b1
 obtain⟨o1,f1⟩:∃ o1,J[r]?=some o1:=⟨J[r],ag hlt⟩
 obtain⟨o2,f2,k2⟩:=ox G.fk k U J _ _ e2 r _ f1
 rw[er]at f2;cases f2
 refine⟨C1 r,r1.refE,bf1 R1 f1 k2.symm,C1,U,J,_,_,E.mono g1 l1,R1,e2,λ v2 C2 H2 g2 l2 b2 r2 R2=>?_⟩
 obtain⟨kvs,c1,c2⟩:=R2.obj r _ er
 obtain⟨h,d1,d2⟩:=R2.obj b _ eb
 have Cc:=g2.w.map r hlt
 have hq:=q.trans (g1.trans g2 l1) (am l1 l2)
 have hb:=aK7 (R2.wf _ _ er) (R2.wf _ _ eb)
 have a2:=by
  unfold mn at hb
  rw[ak]at hb
  exact hb.2
 obtain⟨g,R'⟩:=R2.set er rfl hb λ H' g e=>⟨_,e,RVD.monoW g _ _ a2 (c2.merge d2)⟩
 refine⟨C2 b,kvs,h,r2.refE,λ z=>ne (R2.inj r b _ _ er eb rfl rfl (by rw[Cc];exact z)),by rw[<-Cc];exact c1,d1,by rw[c2.length,d2.length];exact am Z zN,?_⟩
 rw[<-Cc]
 exact hq .non C2 _ g (by simp) rfl RV.nonI R'
theorem bb3 (h:oJ x s=.ok d s'):∃ r l is,x=.ref r/\s[r]?=some (.dic l)/\m7 (l.map (·.1))=some is/\is.length<64/\d=.ref s.length/\s'=s++[.lst ((DV.zT is).map DV.D.int)]:=by
 unfold oJ at h
 split at h
 .split at h
  .rename_i l er
   split at h
   .rename_i is y
    split at h
    .cases h;exact⟨_,l,is,rfl,er,y,‹_›,rfl,rfl⟩
    .exact fb h
   .exact fb h
  .exact fb h
 .exact fb h
theorem ay5 :∀ {l} {is} {kvs},m7 (l.map (·.1))=some is->RVD jf Γ C H l kvs->kvs.map (·.1)=is.map Sum.inl
 | [],is,kvs,h,g=>by
  have g:=g
  subst g;cases h;rfl
 | (d,e)::l,is,_,h,g=>by
  obtain⟨k,v,r,rfl,e2,z,y⟩:=g
  cases d with
  | int i =>
   obtain⟨Cc,q,rfl⟩:=cy.mp (h)
   cases e2
   rw[aS,aS,ay5 q y]
  | _=>cases h
theorem bp0 (G:CG Γ F n X ck)(hg:ck.gl "sorted"=true)(hs:shp a=true)(h:PE X a (TEv Γ m)) :
  PE X (.Call (.Name "sorted" p) [a] [] pos) (TEv Γ (λ U s=>(m U s).bind λ x s=>oJ x s)):=by
 obtain⟨g1,g2,g3⟩:=G.gl hg
 refine(ak2 (aA5 G.calm) g1 (G.bi _ (by decide)) (by decide +kernel) (zC h ad4 (zb hs)) g3 g2 (zb hs) rfl).imp λ W H Q q=>?_
 obtain⟨C,U,s,d,s',E,R,Z,q⟩:=q
 obtain⟨x,s1,e1,z⟩:=aa0 Z
 obtain⟨r,l,is,rfl,er,J,y,rfl,rfl⟩:=bb3 z
 refine⟨C,U,s,_,_,E,R,e1,λ v C1 H1 g1 l1 b1 r1 R1=>?_⟩
 obtain⟨kvs,Cc,c2⟩:=R1.obj r _ er
 refine⟨C1 r,kvs,is,by rw[r1.refE],Cc,ay5 J c2,y,λ p ms hp pm Y=>?_⟩
 rw[ax4 (pm.trans (ar4 is).symm) Y (ai6 is)]
 exact(q.trans g1 l1).alloc R1 (az1 _) (aq6 _) hp
end
section
variable {Γ:Gm} {F:mz} {n:Nat}
theorem bT0 (h:mC c v=true):EvT Γ X (.Constant v k pos) (l8 F (.cst c)):=by
 refine .val ?_
 unfold mC at h
 split at h
 .exact cc1.imp λ W H Q q=>az0 (λ _=>rfl) (λ _ _=>RV.nonI) (TEv.eq (λ U s=>rfl) q)
 .rename_i b c
  have e:=eq_of_beq h
  subst e
  exact ce9.imp λ W H Q q=>az0 (λ _=>rfl) (λ _ _=>RV.blI) (TEv.eq (λ U s=>rfl) q)
 .rename_i i j
  have e:=of_decide_eq_true h
  subst e
  exact bR3.imp λ W H Q q=>az0 (λ _=>rfl) (λ _ _=>RV.intI) (TEv.eq (λ U s=>rfl) q)
 .rename_i x y
  rw[ak]at h
  have e:=of_decide_eq_true h.1
  have e2:=of_decide_eq_true h.2
  subst e
  exact bW6.imp λ W H Q q=>az0 (λ _=>rfl) (λ _ _=>RV.strI (by unfold mq;lia)) (TEv.eq (λ U s=>rfl) q)
 .cases h
theorem by0 {y:yK}(m:mEs J es y=true)(hz:y.length<=1000)(h:PA X y (TAv Γ (mQ F es))):PE X (.List y pos) (TFv Γ (DV.evL F (.disp es))):=by
 refine(bs1 h).imp λ W H Q q=>?_
 obtain⟨C,U,s,l,s',E,R,G,q⟩:=q
 refine⟨C,U,s,l,s',E,R,G,λ vs C1 z g1 l1 Cc r1 R1=>⟨by rw[r1.length,as0 G m];exact aY2 hz,λ p hp=>?_⟩⟩
 obtain⟨g2,R2⟩:=R1.same ((ae2.refl z).new hp)
 refine q p vs C1 _ (g1.trans g2 l1) l1 Cc zd ?_ (Off.new R1 hp) (RVL.mono g2 _ _ Cc r1) R2
 cases e:H p with
 | none=>rfl
 | some o=>exact absurd hp (g1.st p (by rw[e];simp))
theorem CompF.eq (c:CompF Γ X m E)(e:∀ U s,m' U s=m U s):CompF Γ X m' E:=by
 have:=funext λ U=>funext λ s=>e U s
 subst this;exact c
theorem zg (h:(a&&b)=true):a=true/\b=true:=by rw[ak]at h;exact h
theorem bM2 {g:String}(G:CG Γ F n X Cc)(h:Cc.gl (g:Str)=true):EvT Γ X (.Name (g) p) (l8 F (.glob g)):=by
 refine .val ?_
 obtain⟨g1,g2,g3⟩:=G.gl h
 cases e:F.con g with
 | none =>
  intro z s W H Q I q
  obtain⟨C,U,s,d,s',E,R,y,q⟩:=q
  have y:(match F.con g with|some d=>DV.R.ok d s|none=>.bad)=.ok d s':=y
  rw[e]at y
  cases y
 | some d =>
  obtain⟨v,u,Z,Y,J,h4⟩:=G.con g d e
  exact(bF3 g1 Z Y g2).imp λ W H Q q=>az0 J h4 (TEv.eq (λ U s=>by show(match F.con g with|some d=>DV.R.ok d s|none=>.bad)=DV.R.ok d s;rw[e]) q)
theorem bR5 (G:CG Γ F n X y)(h:y.var i x=true):EvT Γ X (.Name x p) (l8 F (.var i)):=by
 refine .val ?_
 unfold Ck.var at h
 obtain⟨h,h4⟩:=zg h
 obtain⟨h,Cc⟩:=zg h
 obtain⟨J,z⟩:=zg h
 have e1:(x==("__debug__"))=false:=by simpa using Cc
 have e2:(x==("__classdict__"))=false:=by simpa using h4
 exact(aT8 (by rw[G.N];exact of_decide_eq_true J) (G.vis z) e1 e2).imp λ W H Q q=>cc4 i (TEv.eq (λ U s=>rfl) q)
theorem bs0 (G:CG Γ F n X y)(h:y.var i x=true):PE X (.Name x p) (bt4 i):=by
 unfold Ck.var at h
 obtain⟨h,h4⟩:=zg h
 obtain⟨h,Cc⟩:=zg h
 obtain⟨J,z⟩:=zg h
 exact aT8 (by rw[G.N];exact of_decide_eq_true J) (G.vis z) (by simpa using Cc) (by simpa using h4)
theorem aw1 :∀ {es} {G:yK},bM8 J es G=true->∀ x∈G,shp x=true
 | .nil,[],_,x,hx=>by cases hx
 | .nil,_::_,h,_,_=>ff h
 | .ex e es,[],h,_,_=>ff h
 | .ex e es,y::ys,h,x,hx=>by
  obtain⟨h,Cc⟩:=zg h
  obtain⟨Y,z⟩:=zg h
  rcases av.mp hx with rfl|hx
  .exact z
  .exact aw1 Cc x hx
 | .lam _ _ es,[],h,_,_=>ff h
 | .lam _ _ es,y::ys,h,x,hx=>by
  obtain⟨h,Cc⟩:=zg h
  obtain⟨Y,z⟩:=zg h
  rcases av.mp hx with rfl|hx
  .exact z
  .exact aw1 Cc x hx
 | .fn _ _,_,h,_,_=>ff h
theorem aJ3 :∀ {es} {J:yK},bM8 Cc es J=true->bg4 es=true->∃ id z E,Cc.lk id z E=true
 | .nil,_,_,h=>by cases h
 | .ex e es,[],h,_=>ff h
 | .ex e es,y::ys,h,hl=>by
  obtain⟨h,G⟩:=zg h
  exact aJ3 G hl
 | .lam id z es,[],h,_=>ff h
 | .lam id z es,y::ys,h,_=>by
  obtain⟨h,G⟩:=zg h
  obtain⟨Y,Z⟩:=zg h
  exact⟨id,z,y,Y⟩
 | .fn _ _,_,h,_=>ff h
theorem aM1 (h:∀ U s,m U s=.bad):EvT Γ X E m:=by
 refine⟨λ y s W H Q I q=>?_,λ y s W H Q I q=>?_⟩
 .obtain⟨C,U,s,d,s',E,R,z,q⟩:=q
  rw[h]at z;exact fb z
 .obtain⟨C,U,s,d,s',E,R,z,q⟩:=q
  rw[h]at z;exact fb z
inductive LK (Γ:Gm)(X:Cx)(m:l7->lX->mf (List lY))(E:Expr)(k:Nat):Prop where
 | c (h:CompF Γ X m E):LK Γ X m E k
 | f (hk:1<=k) (h:PE X E (TFv Γ m)):LK Γ X m E k
 | s (hk:k=2) (h:PE X E (TLv Γ m)):LK Γ X m E k
theorem bT6 (h:LK Γ X m E 0):CompF Γ X m E:=by
 cases h with
 | c h=>exact h
 | f hk h=>lia
 | s hk h=>lia
theorem bM5 (G:CG Γ F n X y)(h:LK Γ X m E 1):PE X E (TFv Γ m):=by
 cases h with
 | c h=>exact h.pe G.calm
 | f hk h=>exact h
 | s hk h=>lia
theorem cj3 (G:CG Γ F n X y)(h:LK Γ X m E 2):PE X E (TLv Γ m):=by
 cases h with
 | c h=>exact(h.pe G.calm).imp λ W H Q q=>aK5 q
 | f hk h=>exact h.imp λ W H Q q=>aK5 q
 | s hk h=>exact h
theorem biOk_inv (h:cd1 z b x Cc (mEs z es Cc) (mEs z es (Cc.take 1))=true) :
  (∃ k t a y J,biK b=some (k,t)/\Cc=[a,.Name y J]/\x=("isinstance")/\y=t/\z.gl x=true/\z.gl y=true/\mEs z es [a]=true)\/∃ a ys,Cc=a::ys/\biT b=some x/\z.gl x=true/\mEs z es (a::ys)=true:=by
 unfold cd1 at h
 cases hk:biK b with
 | none =>
  rw[hk]at h
  cases Cc with
  | nil=>exact ff h
  | cons a ys =>
   obtain⟨h,Y⟩:=zg h
   obtain⟨Z,G⟩:=zg h
   exact .inr ⟨a,ys,rfl,of_decide_eq_true Z,G,Y⟩
 | some p =>
  rw[hk]at h
  cases Cc with
  | nil=>exact ff h
  | cons a ys=>cases ys with
   | nil=>exact ff h
   | cons b ys=>cases b with
    | Name y J=>cases ys with
     | nil =>
      obtain⟨h,h5⟩:=zg h
      obtain⟨h,h4⟩:=zg h
      obtain⟨h,Y⟩:=zg h
      obtain⟨Z,G⟩:=zg h
      exact .inl ⟨p.1,p.2,a,y,J,rfl,rfl,of_decide_eq_true Z,of_decide_eq_true Y,G,h4,h5⟩
     | cons _ _=>exact ff h
    | _=>exact ff h
mutual
theorem sE:∀(e:nr) (E:Expr) (X:Cx) (z:Ck),CG Γ F n X z->mE z e E=true->EvT Γ X E (l8 F e)
 | .var i,E,X,z,G,h=>by
  cases E with
  | Name x p =>
   exact bR5 G h
  | _=>exact ff h
 | .cst c,E,X,z,G,h=>by
  cases E with
  | Constant v k p =>
   exact bT0 h
  | _=>exact ff h
 | .glob g,E,X,z,G,h=>by
  cases E with
  | Name x p =>
   obtain⟨Y,Cc⟩:=zg h
   have e:=of_decide_eq_true Y
   subst e
   exact bM2 G Cc
  | _=>exact ff h
 | .bin op a b,E,X,z,G,h=>by
  cases E with
  | BinOp l o r pE =>
   obtain⟨h,Z⟩:=zg h
   obtain⟨Y,Cc⟩:=zg h
   have e:=of_decide_eq_true Y
   subst e
   exact bB0 G op (sE a _ X z G Cc) (sE b _ X z G Z)
  | _=>exact ff h
 | .not a,E,X,z,G,h=>by
  cases E with
  | UnaryOp o l p =>
   cases o with
   | Not =>
    exact bE7 (sE a _ X z G h)
   | _=>exact ff h
  | _=>exact ff h
 | .cmp op a b,E,X,z,G,h=>by
  cases E with
  | Compare l os rs pE =>
   cases os with
   | cons o os_0 =>
    cases os_0 with
    | nil =>
     cases rs with
     | cons r rs_0 =>
      cases rs_0 with
      | nil =>
       obtain⟨h,Z⟩:=zg h
       obtain⟨Y,Cc⟩:=zg h
       have e:=of_decide_eq_true Y
       subst e
       exact bC0 G op (aC5 Z) (sE a _ X z G Cc) (sE b _ X z G Z)
      | _=>exact ff h
     | _=>exact ff h
    | _=>exact ff h
   | _=>exact ff h
  | _=>exact ff h
 | .chain o p a b c,E,X,z,G,h=>by
  cases E with
  | Compare l os rs pE =>
   cases os with
   | cons o1 os_0 =>
    cases os_0 with
    | cons o2 os_1 =>
     cases os_1 with
     | nil =>
      cases rs with
      | cons m rs_0 =>
       cases rs_0 with
       | cons r rs_1 =>
        cases rs_1 with
        | nil =>
         obtain⟨h,h5⟩:=zg h
         obtain⟨h,h4⟩:=zg h
         obtain⟨h,Z⟩:=zg h
         obtain⟨Y,Cc⟩:=zg h
         have e:=of_decide_eq_true Y
         have e':=of_decide_eq_true Cc
         subst e
         subst e'
         exact bf2 G o p (aC5 h5) (sE a _ X z G Z) (sE b _ X z G h4) (sE c _ X z G h5)
        | _=>exact ff h
       | _=>exact ff h
      | _=>exact ff h
     | _=>exact ff h
    | _=>exact ff h
   | _=>exact ff h
  | _=>exact ff h
 | .isN a,E,X,z,G,h=>by
  cases E with
  | Compare l os rs pE =>
   cases os with
   | cons o os1 =>
    cases o with
    | Is =>
     cases os1 with
     | nil =>
      cases rs with
      | cons r rs1 =>
       cases r with
       | Constant v k p1 =>
        cases v with
        | none =>
         cases rs1 with
         | nil =>
          exact bG4 (sE a _ X z G h)
         | _=>exact ff h
        | _=>exact ff h
       | _=>exact ff h
      | _=>exact ff h
     | _=>exact ff h
    | _=>exact ff h
   | _=>exact ff h
  | _=>exact ff h
 | .notN a,E,X,z,G,h=>by
  cases E with
  | Compare l os rs pE =>
   cases os with
   | cons o os1 =>
    cases o with
    | IsNot =>
     cases os1 with
     | nil =>
      cases rs with
      | cons r rs1 =>
       cases r with
       | Constant v k p1 =>
        cases v with
        | none =>
         cases rs1 with
         | nil =>
          exact br3 (sE a _ X z G h)
         | _=>exact ff h
        | _=>exact ff h
       | _=>exact ff h
      | _=>exact ff h
     | _=>exact ff h
    | _=>exact ff h
   | _=>exact ff h
  | _=>exact ff h
 | .and a b,E,X,z,G,h=>by
  cases E with
  | BoolOp op vs p=>cases op with
   | And =>
    cases vs with
    | nil=>exact ff h
    | cons l vs=>cases vs with
     | nil=>exact ff h
     | cons r vs=>cases vs with
      | nil =>
       obtain⟨Y,Cc⟩:=zg h
       exact bF2 (sE a _ X z G Y) (sE b _ X z G Cc)
      | cons r2 vs =>
       obtain⟨Y,Cc⟩:=zg h
       exact bD6 (sE a _ X z G Y) (sE b _ X z G Cc)
   | _=>exact ff h
  | _=>exact ff h
 | .or a b,E,X,z,G,h=>by
  cases E with
  | BoolOp op vs p=>cases op with
   | Or =>
    cases vs with
    | nil=>exact ff h
    | cons l vs=>cases vs with
     | nil=>exact ff h
     | cons r vs=>cases vs with
      | nil =>
       obtain⟨Y,Cc⟩:=zg h
       exact bN8 (sE a _ X z G Y) (sE b _ X z G Cc)
      | cons r2 vs =>
       obtain⟨Y,Cc⟩:=zg h
       exact bX1 (sE a _ X z G Y) (sE b _ X z G Cc)
   | _=>exact ff h
  | _=>exact ff h
 | .ite c a b,E,X,z,G,h=>by
  cases E with
  | IfExp tE l r pE =>
   obtain⟨h,Z⟩:=zg h
   obtain⟨Y,Cc⟩:=zg h
   exact bK9 (sE c _ X z G Y) (sE a _ X z G Cc) (sE b _ X z G Z)
  | _=>exact ff h
 | .tup es,E,X,z,G,h=>by
  cases E with
  | Tuple xs k p =>
   obtain⟨Y,Cc⟩:=zg h
   exact bx6 Y (of_decide_eq_true Cc) (am8 (sEs es _ X z G Y))
  | _=>exact ff h
 | .lst es,E,X,z,G,h=>by
  cases E with
  | List xs p =>
   obtain⟨Y,Cc⟩:=zg h
   exact by1 Y (of_decide_eq_true Cc) (am8 (sEs es _ X z G Y))
  | _=>exact ff h
 | .dic .nil .nil,E,X,z,G,h=>by
  cases E with
  | Dict a b p=>cases a with
   | nil=>cases b with
    | nil=>exact .val (bo3.imp λ W H Q q=>bY3 (TEv.eq (λ U s=>rfl) q))
    | _=>exact ff h
   | cons x a=>cases x with
    | none=>exact ff h
    | some x=>cases a with
     | nil=>cases b with
      | nil=>exact ff h
      | cons y b=>cases b with
       | nil=>exact ff h
       | _=>exact ff h
     | _=>exact ff h
  | _=>exact ff h
 | .dic (.cons k .nil) (.cons v .nil),E,X,z,G,h=>by
  cases E with
  | Dict a b p=>cases a with
   | nil=>cases b with
    | nil=>exact ff h
    | _=>exact ff h
   | cons x a=>cases x with
    | none=>exact ff h
    | some x=>cases a with
     | nil=>cases b with
      | nil=>exact ff h
      | cons y b=>cases b with
       | nil =>
        obtain⟨Y,Cc⟩:=zg h
        obtain⟨Y,_⟩:=zg Y
        obtain⟨Y,_⟩:=zg Y
        obtain⟨Cc,_⟩:=zg Cc
        obtain⟨Cc,_⟩:=zg Cc
        exact .val ((bL0 (bm1 (sE k _ X z G Y).1 (sE v _ X z G Cc).1 bF9) rfl rfl (by nofun) (by show 1<=15;decide)).imp λ W H Q q=>bY2 (TEv.eq (λ U s=>rfl) q))
       | _=>exact ff h
     | _=>exact ff h
  | _=>exact ff h
 | .dic .nil (.cons _ _),E,X,z,G,h=>aM1 λ _ _=>rfl
 | .dic (.cons _ .nil) .nil,E,X,z,G,h=>aM1 λ _ _=>rfl
 | .dic (.cons _ .nil) (.cons _ (.cons _ _)),E,X,z,G,h=>aM1 λ _ _=>rfl
 | .dic (.cons _ (.cons _ _)) _,E,X,z,G,h=>aM1 λ _ _=>rfl
 | .gtd o k d,E,X,z,G,h=>by
  cases E with
  | Call fE xs kw cp =>
   cases fE with
   | Attribute ob x ap =>
    cases xs with
    | cons a xs_0 =>
     cases xs_0 with
     | cons b xs_1 =>
      cases xs_1 with
      | nil =>
       cases kw with
       | nil =>
        obtain⟨h,h8⟩:=zg h
        obtain⟨h,h7⟩:=zg h
        obtain⟨h,h6⟩:=zg h
        obtain⟨h,h5⟩:=zg h
        obtain⟨h,h4⟩:=zg h
        obtain⟨h,Z⟩:=zg h
        obtain⟨Y,Cc⟩:=zg h
        have e:=of_decide_eq_true Y
        subst e
        exact bC7 G Cc Z h7 h8 (sE o _ X z G h4).1 (sE k _ X z G h5).1 (sE d _ X z G h6).1
       | _=>exact ff h
      | _=>exact ff h
     | _=>exact ff h
    | _=>exact ff h
   | _=>exact ff h
  | _=>exact ff h
 | .sdf o k d,E,X,z,G,h=>by
  cases E with
  | Call fE xs kw cp =>
   cases fE with
   | Attribute ob x ap =>
    cases xs with
    | cons a xs_0 =>
     cases xs_0 with
     | cons b xs_1 =>
      cases xs_1 with
      | nil =>
       cases kw with
       | nil =>
        obtain⟨h,h8⟩:=zg h
        obtain⟨h,h7⟩:=zg h
        obtain⟨h,h6⟩:=zg h
        obtain⟨h,h5⟩:=zg h
        obtain⟨h,h4⟩:=zg h
        obtain⟨h,Z⟩:=zg h
        obtain⟨Y,Cc⟩:=zg h
        have e:=of_decide_eq_true Y
        subst e
        exact bG8 G Cc Z h7 h8 (sE o _ X z G h4).1 (sE k _ X z G h5).1 (sE d _ X z G h6).1
       | _=>exact ff h
      | _=>exact ff h
     | _=>exact ff h
    | _=>exact ff h
   | _=>exact ff h
  | _=>exact ff h
 | .upd o k,E,X,z,G,h=>by
  cases E with
  | Call fE xs kw cp =>
   cases fE with
   | Attribute ob x ap =>
    cases xs with
    | cons a xs_0 =>
     cases xs_0 with
     | nil =>
      cases kw with
      | nil =>
       obtain⟨h,h7⟩:=zg h
       obtain⟨h,h5⟩:=zg h
       obtain⟨h,h4⟩:=zg h
       obtain⟨h,Z⟩:=zg h
       obtain⟨Y,Cc⟩:=zg h
       have e:=of_decide_eq_true Y
       subst e
       exact bI9 G Cc Z h7 (sE o _ X z G h4).1 (sE k _ X z G h5).1
      | _=>exact ff h
     | _=>exact ff h
    | _=>exact ff h
   | _=>exact ff h
  | _=>exact ff h
 | .srtD e,E,X,z,G,h=>by
  cases E with
  | Call fE xs kw p =>
   cases fE with
   | Name x pN =>
    cases xs with
    | cons a ys =>
     cases ys with
     | nil =>
      cases kw with
      | nil =>
       obtain⟨h,h4⟩:=zg h
       obtain⟨h,Z⟩:=zg h
       obtain⟨Y,Cc⟩:=zg h
       have e1:=of_decide_eq_true Y
       subst e1
       exact .val ((bp0 G Cc Z (sE e _ X z G h4).1).imp λ W H Q q=>TEv.eq (λ U s=>rfl) q)
      | _=>exact ff h
     | _=>exact ff h
    | _=>exact ff h
   | _=>exact ff h
  | _=>exact ff h
 | .ix a b,E,X,z,G,h=>by
  cases E with
  | Subscript o i p =>
   obtain⟨Y,Cc⟩:=zg h
   exact bU3 G (aC5 Cc) (sE a _ X z G Y) (sE b _ X z G Cc)
  | _=>exact ff h
 | .slU a hi,E,X,z,G,h=>by
  cases E with
  | Subscript o i p =>
   cases i with
   | Slice lo hi st p2 =>
    cases lo with
    | none =>
     cases hi with
     | some l =>
      cases st with
      | none =>
       obtain⟨Y,Cc⟩:=zg h
       exact bD8 G (sE a _ X z G Y) (sE hi _ X z G Cc)
      | _=>exact ff h
     | _=>exact ff h
    | _=>exact ff h
   | _=>exact ff h
  | _=>exact ff h
 | .call f as,E,X,z,G,h=>by
  cases E with
  | Call fE xs kw p =>
   cases fE with
   | Name x pN =>
    cases kw with
    | nil =>
     obtain⟨h,Z⟩:=zg h
     obtain⟨Y,Cc⟩:=zg h
     have e:=of_decide_eq_true Y
     subst e
     exact bl2 G Cc Z (sAs as _ X z G Z)
    | _=>exact ff h
   | _=>exact ff h
  | _=>exact ff h
 | .callC f as,E,X,z,G,h=>by
  cases E with
  | Call fE xs kw p =>
   cases fE with
   | Name x pN =>
    cases xs with
    | cons y ys =>
     cases kw with
     | nil =>
      obtain⟨h,Z⟩:=zg h
      obtain⟨h,h4⟩:=zg h
      obtain⟨Y,Cc⟩:=zg h
      have e:=of_decide_eq_true Y
      subst e
      obtain⟨id,a0,E',hlk⟩:=aJ3 Z h4
      obtain⟨_,_,_,_,_,_,_,_,L⟩:=G.lam id a0 E' hlk
      exact .val ((aW3 G Cc L.fn L.kd (aw1 Z) (ch8 as _ X z G Z)).imp λ W H Q q=>TEv.eq (λ U s=>rfl) q)
     | _=>exact ff h
    | _=>exact ff h
   | _=>exact ff h
  | _=>exact ff h
 | .callV i es,E,X,z,G,h=>by
  cases E with
  | Call fE xs kw p =>
   cases fE with
   | Name x pN =>
    cases xs with
    | cons y ys =>
     cases kw with
     | nil =>
      obtain⟨Y,Cc⟩:=zg h
      exact .val (be8 G Y (av3 Cc) (am8 (sEs es _ X z G Cc)) (bs0 G Y))
     | _=>exact ff h
    | _=>exact ff h
   | _=>exact ff h
  | _=>exact ff h
 | .bi b es,E,X,z,G,h=>by
  cases E with
  | Call fE xs kw p =>
   cases fE with
   | Name x pN =>
    cases kw with
    | nil =>
     have h:cd1 z b x xs (mEs z es xs) (mEs z es (xs.take 1))=true:=h
     rcases biOk_inv h with⟨k,t,a,y,py,hk,rfl,rfl,rfl,Cc,h4,h5⟩|⟨a,ys,rfl,Y,Cc,Z⟩
     .exact bI4 G hk Cc h4 (sEs es _ X z G h5)
     .exact bS7 G Y Cc Z (am8 (sEs es _ X z G Z))
    | _=>exact ff h
   | _=>exact ff h
  | _=>exact ff h
 | .mk k l,E,X,z,G,h=>by
  cases E with
  | ListComp e gs sc p =>
   obtain⟨Y,Cc⟩:=zg h
   have e:=of_decide_eq_true Y
   subst e
   exact .val (((bT6 (sL l _ X z G 0 Cc)).pe G.calm).imp λ W H Q q=>aU6 (TEv.eq (λ U s=>rfl) q))
  | Call fE xs kw p =>
   cases fE with
   | Name x pN =>
    cases xs with
    | cons a xs_0 =>
     cases xs_0 with
     | nil =>
      cases kw with
      | nil =>
       obtain⟨h,h4⟩:=zg h
       obtain⟨Cc,Z⟩:=zg h
       rw[b8]at h4
       rcases h4 with h4|h4
       .obtain⟨h5,h6⟩:=zg h4
        exact .val ((cb6 G (of_decide_eq_true h5) Cc Z (cj3 G (sL l _ X z G 2 h6))).imp λ W H Q q=>TEv.eq (λ U s=>rfl) q)
       .obtain⟨h5,h6⟩:=zg h4
        exact .val ((cc5 G (of_decide_eq_true h5) Cc Z (bM5 G (sL l _ X z G 1 h6))).imp λ W H Q q=>TEv.eq (λ U s=>rfl) q)
      | _=>exact ff h
     | _=>exact ff h
    | _=>exact ff h
   | _=>exact ff h
  | _=>exact ff h
 | .mkDs k e d,E,X,z,G,h=>by
  cases E with
  | Call fE xs kw p =>
   cases fE with
   | Name x pN =>
    cases xs with
    | cons a xs_0 =>
     cases xs_0 with
     | nil =>
      cases kw with
      | cons kk kw1 =>
       cases kk with
       | mk ky de kp =>
        cases ky with
        | some y =>
         cases kw1 with
         | nil =>
          obtain⟨h,h7⟩:=zg h
          obtain⟨h,h6⟩:=zg h
          obtain⟨h,h5⟩:=zg h
          obtain⟨h,h4⟩:=zg h
          obtain⟨h,Z⟩:=zg h
          obtain⟨Y,Cc⟩:=zg h
          have e1:=of_decide_eq_true Y
          have e2:=of_decide_eq_true Cc
          have e3:=of_decide_eq_true Z
          subst e1 e2 e3
          exact .val ((bH6 G h4 h5 (sE e _ X z G h6).1 (sE d _ X z G h7).1).imp λ W H Q q=>TEv.eq (λ U s=>rfl) q)
         | _=>exact ff h
        | _=>exact ff h
      | _=>exact ff h
     | _=>exact ff h
    | _=>exact ff h
   | _=>exact ff h
  | _=>exact ff h
 | .minK id e jj,E,X,z,G,h=>by
  cases E with
  | Call fE xs kw p =>
   cases fE with
   | Name x pN =>
    cases xs with
    | cons a xs_0 =>
     cases xs_0 with
     | nil =>
      cases kw with
      | cons kk kw1 =>
       cases kk with
       | mk ky de kp =>
        cases ky with
        | some y =>
         cases kw1 with
         | nil =>
          obtain⟨h,h7⟩:=zg h
          obtain⟨h,h6⟩:=zg h
          obtain⟨h,h5⟩:=zg h
          obtain⟨h,h4⟩:=zg h
          obtain⟨h,Z⟩:=zg h
          obtain⟨Y,Cc⟩:=zg h
          have e1:=of_decide_eq_true Y
          have e2:=of_decide_eq_true Cc
          subst e1 e2
          obtain⟨c,P,params,body,scope,lp,J,e3,L⟩:=G.lam id [] _ h6
          have hnm:J.nm=none:=by
           cases q:J.nm with
           | none=>rfl
           | some p=>unfold qM at e3;rw[q]at e3;rw[e3]at h7;cases h7
          unfold qM at e3
          rw[hnm]at e3
          dsimp only at e3
          subst e3
          rw[<-G.N]at L
          exact .val ((bl6 G Z h4 (sE e _ X z G h5).1 L hnm h7).imp λ W H Q q=>TEv.eq (λ U s=>rfl) q)
         | _=>exact ff h
        | _=>exact ff h
      | _=>exact ff h
     | _=>exact ff h
    | _=>exact ff h
   | _=>exact ff h
  | _=>exact ff h
 | .mkD k l d,E,X,z,G,h=>by
  cases E with
  | Call fE xs kw p =>
   cases fE with
   | Name x pN =>
    cases xs with
    | cons a xs_0 =>
     cases xs_0 with
     | nil =>
      cases kw with
      | cons kk kw1 =>
       cases kk with
       | mk ky de kp =>
        cases ky with
        | some y =>
         cases kw1 with
         | nil =>
          obtain⟨h,h7⟩:=zg h
          obtain⟨h,h6⟩:=zg h
          obtain⟨h,h5⟩:=zg h
          obtain⟨h,Z⟩:=zg h
          obtain⟨Y,Cc⟩:=zg h
          have e3:=of_decide_eq_true Cc
          subst e3
          obtain⟨e,e2⟩:=zg Y
          have e:=of_decide_eq_true e
          have e2:=of_decide_eq_true e2
          subst e e2
          exact .val ((ca3 G Z h5 (bM5 G (sL l _ X z G 1 h6)) (sE d _ X z G h7).1).imp λ W H Q q=>TEv.eq (λ U s=>rfl) q)
         | _=>exact ff h
        | _=>exact ff h
      | _=>exact ff h
     | _=>exact ff h
    | _=>exact ff h
   | _=>exact ff h
  | _=>exact ff h
 | .meth m o es,E,X,z,G,h=>by
  cases E with
  | Call fE xs kw p =>
   cases fE with
   | Attribute ob x ap =>
    cases kw with
    | nil =>
     obtain⟨h,h5⟩:=zg h
     obtain⟨h,h4⟩:=zg h
     obtain⟨h,Z⟩:=zg h
     obtain⟨Y,Cc⟩:=zg h
     exact bl9 G (of_decide_eq_true Y) Cc Z (sE o _ X z G h4).1 h5 (sEs es _ X z G h5)
    | _=>exact ff h
   | _=>exact ff h
  | _=>exact ff h
 | .ext o l,E,X,z,G,h=>by
  cases E with
  | Call fE xs kw p =>
   cases fE with
   | Attribute ob x ap =>
    cases xs with
    | cons a xs_0 =>
     cases xs_0 with
     | nil =>
      cases kw with
      | nil =>
       obtain⟨h,h6⟩:=zg h
       obtain⟨h,h5⟩:=zg h
       obtain⟨h,h4⟩:=zg h
       obtain⟨h,Z⟩:=zg h
       obtain⟨Y,Cc⟩:=zg h
       have e:=of_decide_eq_true Y
       subst e
       exact .val ((bG5 G Cc Z (sE o _ X z G h4).1 h6 (bM5 G (sL l _ X z G 1 h5)) (DV.aO3 G.fk l)).imp λ W H Q q=>TEv.eq (λ U s=>rfl) q)
      | _=>exact ff h
     | _=>exact ff h
    | _=>exact ff h
   | _=>exact ff h
  | _=>exact ff h
theorem sEs:∀(es:mM) (y:yK) (X:Cx) (z:Ck),CG Γ F n X z->mEs z es y=true->PEs Γ F X es y
 | .nil,y,X,z,G,h=>by
  cases y with
  | nil =>
   exact trivial
  | _=>exact ff h
 | .cons e es,y,X,z,G,h=>by
  cases y with
  | cons x y =>
   obtain⟨h,J⟩:=zg h
   obtain⟨Y,Cc⟩:=zg h
   exact⟨⟨Cc,sE e _ X z G Y⟩,sEs es _ X z G J⟩
  | _=>exact ff h
theorem sFs:∀(es:mM) (z:yK) (X:Cx) (y:Ck),CG Γ F n X y->mFs y es z=true->PF Γ X z (mQ F es)
 | .nil,z,X,y,G,h=>by
  cases z with
  | nil=>exact(bU4).eq λ _ _=>rfl
  | _=>exact ff h
 | .cons e es,z,X,y,G,h=>by
  cases z with
  | cons x z =>
   cases x with
   | FormattedValue v c sp p =>
    cases sp with
    | none =>
     obtain⟨h,Y⟩:=zg h
     obtain⟨J,Cc⟩:=zg h
     have e1:=of_decide_eq_true J
     subst e1
     exact(bZ3 (sE e _ X y G Cc).1 (sFs es _ X y G Y)).eq λ _ _=>rfl
    | _=>exact ff h
   | Constant v j p =>
    obtain⟨J,Cc⟩:=zg h
    exact(bQ9 (sE e _ X y G J).1 (sFs es _ X y G Cc)).eq λ _ _=>rfl
   | _=>exact ff h
  | _=>exact ff h
theorem sAs:∀(es:nB) (y:yK) (X:Cx) (z:Ck),CG Γ F n X z->mAs z es y=true->PA X y (TAv Γ (nG F es))
 | .nil,y,X,z,G,h=>by
  cases y with
  | nil =>
   exact ad4.imp λ W H Q q=>aN4 (TAv.eq (λ U s=>rfl) q)
  | _=>exact ff h
 | .ex e es,y,X,z,G,h=>by
  cases y with
  | cons x y =>
   obtain⟨h,J⟩:=zg h
   obtain⟨Y,Cc⟩:=zg h
   exact(aL8 Cc (sE e _ X z G Y).1 (sAs es _ X z G J)).imp λ W H Q q=>TAv.eq (λ U s=>rfl) q
  | _=>exact ff h
 | .lam _ _ _,y,X,z,G,h=>ff h
 | .fn _ _,y,X,z,G,h=>ff h
theorem ch8:∀(es:nB) (y:yK) (X:Cx) (z:Ck),CG Γ F n X z->bM8 z es y=true->PA X y (TAp Γ X.env.cells X.N (nG F es))
 | .nil,y,X,z,G,h=>by
  cases y with
  | nil =>
   exact ad4.imp λ W H Q q=>bA8 (TAp.eq (λ U s=>rfl) q)
  | _=>exact ff h
 | .ex e es,y,X,z,G,h=>by
  cases y with
  | cons x y =>
   obtain⟨h,Y⟩:=zg h
   obtain⟨Z,Cc⟩:=zg h
   exact(zC (sE e _ X z G Z).1 (ch8 es _ X z G Y) (zb Cc)).imp λ W H Q q=>bW4 (TAp.eq (λ U s=>rfl) q)
  | _=>exact ff h
 | .lam id caps es,y,X,z,G,h=>by
  cases y with
  | cons x y =>
   obtain⟨h,Y⟩:=zg h
   obtain⟨Z,Cc⟩:=zg h
   obtain⟨c,P,params,body,scope,pos,J,e,L⟩:=G.lam id caps _ Z
   have hnm:J.nm=none:=by
    cases q:J.nm with
    | none=>rfl
    | some p=>unfold qM at e;rw[q]at e;rw[e]at Cc;cases Cc
   unfold qM at e
   rw[hnm]at e
   dsimp only at e
   subst e
   rw[<-G.N]at L
   exact(bN6 L hnm (ch8 es _ X z G Y)).imp λ W H Q q=>TAp.eq (λ U s=>rfl) q
  | _=>exact ff h
 | .fn _ _,y,X,z,G,h=>ff h
theorem sI:∀(i:DV.I) (E tg:Expr) (X:Cx) (y:Ck),CG Γ F n X y->mI y tg i E=true->PI X tg E (TIv Γ (oq F i))
 | .seq e,E,tg,X,y,G,h=>by
  obtain⟨z,Cc⟩:=zg h
  exact bz8 G (sE e _ X y G z).1
 | .keys e,E,tg,X,y,G,h=>by
  obtain⟨z,Cc⟩:=zg h
  exact(by5 (sE e _ X y G z).1).imp λ W H R q=>bD9 (TIv.eq (λ U s=>rfl) q)
 | .rng1 a,E,tg,X,y,G,h=>by
  cases E with
  | Call fE xs kw p =>
   cases fE with
   | Name x pN =>
    cases xs with
    | cons l xs_0 =>
     cases xs_0 with
     | nil =>
      cases kw with
      | nil =>
       obtain⟨h,h4⟩:=zg h
       obtain⟨h,J⟩:=zg h
       obtain⟨z,Cc⟩:=zg h
       have e:=of_decide_eq_true z
       subst e
       exact bm3 G Cc h4 (sE a _ X y G J).1
      | _=>exact ff h
     | _=>exact ff h
    | _=>exact ff h
   | _=>exact ff h
  | _=>exact ff h
 | .enum (.seq a),E,tg,X,y,G,h=>by
  cases E with
  | Call fE xs kw p =>
   cases fE with
   | Name x pN =>
    cases xs with
    | cons l xs_0 =>
     cases xs_0 with
     | nil =>
      cases kw with
      | nil =>
       obtain⟨h,Y⟩:=zg h
       obtain⟨h,h4⟩:=zg h
       obtain⟨h,J⟩:=zg h
       obtain⟨z,Cc⟩:=zg h
       have e:=of_decide_eq_true z
       subst e
       cases tg with
       | Tuple es k p=>exact bq0 G Cc h4 (sE a _ X y G J).1
       | _=>exact ff Y
      | _=>exact ff h
     | _=>exact ff h
    | _=>exact ff h
   | _=>exact ff h
  | _=>exact ff h
 | .enum (.rng1 _),E,tg,X,y,G,h=>ff h
 | .enum (.enum _),E,tg,X,y,G,h=>ff h
 | .enum (.keys _),E,tg,X,y,G,h=>ff h
theorem sL:∀(l:DV.L) (E:Expr) (X:Cx) (J:Ck),CG Γ F n X J->∀ k,mL J k l E=true->LK Γ X (DV.evL F l) E k
 | .comp tg it e caps,E,X,J,G,k,h=>by
  cases E with
  | ListComp elt gs scope p =>
   cases gs with
   | cons g gs1 =>
    cases g with
    | mk tgt iter ifs z =>
     cases ifs with
     | nil =>
      cases gs1 with
      | nil =>
       obtain⟨h,h3⟩:=zg h
       obtain⟨h,Y⟩:=zg h
       obtain⟨h0,y⟩:=zg h
       have Z:=of_decide_eq_true h0
       subst Z
       have c:=bj9 (pos:=p) G y (sI it _ _ X J G Y) λ Cc cells s H ex=>(sE e _ _ _ ((G.comp y).2.2 Cc cells s H ex).1 h3).1
       exact .c (c.eq λ U s=>rfl)
      | _=>exact ff h
     | _=>exact ff h
   | _=>exact ff h
  | _=>exact ff h
 | .compIf tg it i e caps,E,X,J,G,k,h=>by
  cases E with
  | ListComp elt gs scope p =>
   cases gs with
   | cons g gs1 =>
    cases g with
    | mk tgt iter ifs z =>
     cases ifs with
     | cons i1 ifs1 =>
      cases ifs1 with
      | nil =>
       cases gs1 with
       | nil =>
        obtain⟨h,h4⟩:=zg h
        obtain⟨h,h3⟩:=zg h
        obtain⟨h,Y⟩:=zg h
        obtain⟨h0,y⟩:=zg h
        have Z:=of_decide_eq_true h0
        subst Z
        have c:=bB4 (pos:=p) G y (sI it _ _ X J G Y) (λ Cc cells s H ex=>(sE i _ _ _ ((G.comp y).2.2 Cc cells s H ex).1 h3).2) λ Cc cells s H ex=>(sE e _ _ _ ((G.comp y).2.2 Cc cells s H ex).1 h4).1
        exact .c (c.eq λ U s=>rfl)
       | _=>exact ff h
      | _=>exact ff h
     | _=>exact ff h
   | _=>exact ff h
  | _=>exact ff h
 | .disp es,E,X,J,G,k,h=>by
  cases E with
  | List xs p =>
   obtain⟨h,Y⟩:=zg h
   obtain⟨h0,y⟩:=zg h
   exact .f (of_decide_eq_true h0) (by0 y (of_decide_eq_true Y) (am8 (sEs es _ X J G y)))
  | _=>exact ff h
 | .seq e,E,X,J,G,k,h=>by
  obtain⟨h0,y⟩:=zg h
  exact .s (of_decide_eq_true h0) ((sE e _ X J G y).1.imp λ W H Q q=>bX4 (TLv.eq (λ U s=>rfl) q))
end
end
section
variable {Γ:Gm} {F:mz} {n:Nat}
theorem bh6 (G:CG Γ F n X ck)(c:CompF Γ X m E)(hi:ck.N[i]?=some x)(hl:ck.loc x=true) :
  PS X (.Assign [.Name x px] E pos) (bm7 (TFv Γ m) (ay2 i)):=by
 obtain⟨Cc,J,iter,y,scope,p2,N',h,wi,g,tc,te,rfl,h1,h2,h3,h4,h5⟩:=c.ex
 obtain⟨l1,l2⟩:=G.loc hl
 have nd:X.N.Nodup:=by rw[G.N];exact G.nd
 have Z:X.N[i]?=some x:=by rw[G.N];exact hi
 generalize hb:((X.env.blockKind==.function&&X.env.kindOf x==some .local&&px.line==(Expr.ListComp Cc [⟨J,iter,y,0⟩] scope p2).pos.line&&!(scope.names.any λ(n,k)=>n==x&&(k==.local||k==.cell))))=b
 have z:ga (.ListComp Cc [⟨J,iter,y,0⟩] scope p2) (some (.Name x px)) pos.line X.env=pure b:=by rw[<-hb];rfl
 have imp:∀ D W H,bm7 (TFv Γ m) (ay2 i) D W H->bm7 (tComp h wi g tc te) (ay2 i) D W H:=λ D W H q=>h5 _ _ _ q
 cases b with
 | true =>
  have Y:=by
   simp only[ak]at hb
   exact eq_of_beq hb.1.1.2
  exact(aR5 N' h nd Z Y h1 h2 G.calm h3 h4 z).imp imp
 | false=>exact(bw1 nd Z l1 (ba3 N' h h1 h2 G.calm h3 h4) z l2).imp imp
theorem bE8 (G:CG Γ F n X y)(Cc:y.N[i]?=some x)(hl:y.loc x=true)(h:mE y e v=true) :
  PS X (.Assign [.Name x Z] v pos) (TSv Γ (DV.ex F (.asg (.one i) e))):=by
 obtain⟨l1,l2⟩:=G.loc hl
 have nd:X.N.Nodup:=by rw[G.N];exact G.nd
 have z:X.N[i]?=some x:=by rw[G.N];exact Cc
 by_cases hc:aA2 v=true
 .exact(bw1 nd z l1 (sE e v X y G h).1 (aw2 hc) l2).imp λ D W H q=>aY5 (TSv.eq (λ U s=>rfl) q)
 .have hs:=aC5 h
  cases v with
  | ListComp elt gs sc p =>
   cases e with
   | mk k l =>
    obtain⟨Y,J⟩:=zg h
    have e:=of_decide_eq_true Y
    subst e
    exact(bh6 G (bT6 (sL l _ X y G 0 J)) Cc hl).imp λ D W H q=>bi7 (TSv.eq (λ U s=>rfl) q)
   | _=>exact ff h
  | SetComp _ _ _ _=>cases hs
  | DictComp _ _ _ _ _=>cases hs
  | _=>exact absurd rfl hc
theorem bh0 {body:yL}(hT:TabsH T H)(nd:(T.map (·.1)).Nodup)(hm:(P,q)∈T)
  (go:∀(f:Addr) (H':Hp),aZ6 H H'->(∀ b,H b≠none->H' b≠none)->TabsH T H'->H f=none->(∃ J pm Y Z,H' f=some (ao9 f (cT name q params body scope (ad7 cells scope.names []) .none .none J pm none (.ref Y) Z))/\H' Y=some (zX Y q))->D0.nx (W.set ix (some (.ref f))) H') :
  cn8 cells P name q params body scope pos ix D0 W H:=by
 obtain⟨ps,hP,ht,hc⟩:=hT _ hm
 refine⟨ps,hP,ht,λ hn Y f J pm Z n1 n2 ne=>?_,λ cv e=>?_⟩
 .have cP:Y≠P:=λ z=>by rw[z,hP]at n1;cases n1
  have fP:f≠P:=λ z=>by rw[z,hP]at n2;cases n2
  have G:∀ b,b≠P->H b≠none->∀ o1 o2 o3,upd (upd (upd H P o1) Y o2) f o3 b=H b:=λ b z1 z2 o1 o2 o3=>by
   rw[za λ z=>by subst z;exact z2 n2,za λ z=>by subst z;exact z2 n1,za z1]
  refine go f _ (λ b o d e=>?_) (λ b hb=>?_) (λ y hy=>?_) n2 ⟨J,pm,Y,Z,zd,by rw[za ne,zd]⟩
  .rw[G b (λ z=>by subst z;rw[hP]at e;cases e;exact d _ rfl) (by rw[e];simp)];exact e
  .by_cases z:b=P
   .subst z;rw[za (bH fP),za (bH cP),zd];simp
   .rw[G b z hb];exact hb
  .by_cases z:y.1=P
   .have ey:=by
     have:∀(l:List (Addr×Str)),(l.map (·.1)).Nodup->y∈l->(P,q)∈l->y=(P,q):=by
      intro l
      induction l with
      | nil=>intro _ h;simp at h
      | cons a l ih =>
       intro hn h1 h2
       rw[aS,cJ]at hn
       rcases av.mp h1 with e1|h1<;>rcases av.mp h2 with e2|h2
       .rw[e1,e2]
       .exact absurd (by rw[<-e1,z];exact bw h2) hn.1
       .exact absurd (by rw[<-e2,<-z];exact bw (f:=(·.1)) h1) hn.1
       .exact ih hn.2 h1 h2
     exact this T nd hy hm
    subst ey
    refine⟨_,by rw[za (bH fP),za (bH cP),zd],?_,λ Cc cv e=>?_⟩
    .rw[ed];exact TriplesOk_snoc _ _ _ _ ht
    .rw[ed]at e
     rcases codeAmong_add _ ht e with e'|e'
     .obtain⟨c2,e1,e2⟩:=hc Cc cv e'
      exact⟨c2,e1,by rw[G c2 (λ z=>by subst z;rw[hP]at e2;unfold zX at e2;cases e2) (by rw[e2];simp)];exact e2⟩
     .exact⟨Y,e',by rw[za ne,zd]⟩
   .obtain⟨qs,e1,e2,e3⟩:=hT y hy
    refine⟨qs,by rw[G y.1 z (by rw[e1];simp)];exact e1,e2,λ Cc cv e=>?_⟩
    obtain⟨c2,e4,e5⟩:=e3 Cc cv e
    exact⟨c2,e4,by rw[G c2 (λ z=>by subst z;rw[hP]at e5;unfold zX at e5;cases e5) (by rw[e5];simp)];exact e5⟩
 .obtain⟨Y,e1,e2⟩:=hc pos cv e
  refine⟨Y,e1,λ f J pm Z n=>go f _ (.of ((ae2.refl H).new n)) (λ b hb=>by
   by_cases z:b=f
   .subst z;rw[zd];simp
   .rw[za z];exact hb) (hT.new n) n ⟨J,pm,Y,Z,zd,?_⟩⟩
  rw[za (zu e2 n)];exact e2
theorem aU4 env : ∀ l : List Arg, (l.all λ y => y.annotation.isNone) = true -> jE l env = []
 | [], _ => by unfold jE; rfl
 | ⟨x,some a,p⟩::l,h=>by simp at h
 | ⟨x,none,p⟩::l,h=>by
  unfold jE
  exact aU4 env l (by simpa using h)
theorem bj3 (h:bH7 params=true) env :params.defaults=[]/\params.kw_defaults=[]/\annTrees params none env=[]:=by
 unfold bH7 at h
 split at h
 .refine⟨rfl,rfl,?_⟩
  unfold annTrees
  simp only[Option.toList,bp]
  rw[aU4 env _ h];rfl
 .cases h
theorem aC9 {α:Type}{o}{f:α->Bool}(h:o.any f=true):∃ a,o=some a/\f a=true:=by
 cases o with
 | none=>exact ff h
 | some a=>exact⟨a,rfl,h⟩
theorem bh3 {s}(h:ce1 s y=some d):s=.und d.1/\y=.cons (.ret (.callC d.2.1 (.ex d.2.2.1 (.lam d.2.2.2.1 d.2.2.2.2 .nil)))) .nil:=by
 unfold ce1 at h
 split at h
 .cases h;exact⟨rfl,rfl⟩
 .cases h
theorem bj0 {S:yL}(h:cn5 S=some q):S=.FunctionDef q.1 q.2.1 [.Return (some q.2.2.1) q.2.2.2.1] [] none [] q.2.2.2.2.1 none q.1 q.2.2.2.2.2.1::q.2.2.2.2.2.2:=by
 have y:∀ {p},(none)=some q->p:=λ h=>nomatch h
 cases S with
 | cons x xs =>
  cases x with
  | FunctionDef nm params body dl ret tp scope ts nm2 pos =>
   cases body with
   | cons b1 bs =>
    cases b1 with
    | Return v rp =>
     cases v with
     | some b =>
      cases bs with
      | nil =>
       cases dl with
       | nil =>
        cases ret with
        | none =>
         cases tp with
         | nil =>
          cases ts with
          | none =>
           have h:(if nm2=nm then some (nm,params,b,rp,scope,pos,xs)else none)=some q:=h
           by_cases e:nm2=nm
           .rw[if_pos e]at h;cases h;rw[e]
           .rw[if_neg e]at h;exact y h
          | _=>exact y h
         | _=>exact y h
        | _=>exact y h
       | _=>exact y h
      | _=>exact y h
     | _=>exact y h
    | _=>exact y h
   | _=>exact y h
  | _=>exact y h
 | _=>exact y h
theorem bi6 {S:yL}(h:cl4 Cc S=some r):S=[.Return (some (.Call (.Name r.1 r.2.1) [r.2.2.1,.Name Cc r.2.2.2.1] [] r.2.2.2.2.1)) r.2.2.2.2.2]:=by
 have z:∀ {p},(none)=some r->p:=λ h=>nomatch h
 cases S with
 | cons x xs =>
  cases x with
  | Return v rp2 =>
   cases v with
   | some e =>
    cases e with
    | Call f as kw cp =>
     cases f with
     | Name g gp =>
      cases as with
      | cons a as1 =>
       cases as1 with
       | cons y as2 =>
        cases y with
        | Name x p2 =>
         cases as2 with
         | nil =>
          cases kw with
          | nil =>
           cases xs with
           | nil =>
            have h:(if x=Cc then some (g,gp,a,p2,cp,rp2)else none)=some r:=h
            by_cases e:x=Cc
            .rw[if_pos e]at h;cases h;rw[e]
            .rw[if_neg e]at h;exact z h
           | _=>exact z h
          | _=>exact z h
         | _=>exact z h
        | _=>exact z h
       | _=>exact z h
      | _=>exact z h
     | _=>exact z h
    | _=>exact z h
   | _=>exact z h
  | _=>exact z h
 | _=>exact z h
theorem bQ3 {s}(G:CG Γ F n X ck)(hM:cb1 ck s ss S=true):PSs X S (TSv Γ (oK F (.cons s ss))):=by
 obtain⟨⟨i,g,e,id,Cc⟩,e1,hA⟩:=aC9 hM
 clear hM
 obtain⟨⟨Y,params,b,rp,scope,pos,xs⟩,e2,hB⟩:=aC9 hA
 clear hA
 obtain⟨⟨g',gp,a,p2,cp,f0⟩,e3,h⟩:=aC9 hB
 clear hB
 obtain⟨rfl,rfl⟩:=bh3 e1
 have e3:=bi6 e3
 have e2:=bj0 e2
 dsimp only at e2 e3 h ⊢
 subst e3
 subst e2
 clear e1
 obtain⟨h,c3⟩:=zg h
 obtain⟨h,b0⟩:=zg h
 obtain⟨h,h9⟩:=zg h
 obtain⟨h,h8⟩:=zg h
 obtain⟨h,h7⟩:=zg h
 obtain⟨h,h6⟩:=zg h
 obtain⟨h,h5⟩:=zg h
 obtain⟨h0,h2⟩:=zg h
 have h7:=of_decide_eq_true h7
 subst h7
 have h1:=of_decide_eq_true h0
 clear h0
 obtain⟨c,P,a4,b6,b4,e8,J,eE,L⟩:=G.lam id Cc _ h6
 obtain⟨pn,hnm⟩:∃ pn,J.nm=some pn:=by
  cases q:J.nm with
  | none=>unfold qM at eE;rw[q]at eE;cases eE
  | some p=>exact⟨p,rfl⟩
 obtain⟨pa,pb⟩:=pn
 unfold qM at eE
 rw[hnm]at eE
 dsimp only at eE
 cases eE
 rw[<-G.N]at L h1
 obtain⟨l1,l2⟩:=G.loc h2
 obtain⟨a1,a2,a3⟩:=bj3 c3 X.env
 have e7:X.env.kindOf Y=some .local\/X.env.kindOf Y=some .cell:=l1
 have hq:k7 X.env Y Y=J.qual:=by
  rw[L.q]
  unfold LamI.own k7
  rw[hnm]
  rcases e7 with z|z<;>rw[z]<;>rfl
 have p1:=cb0 (body:=[.Return (some b) rp]) (pos:=pos) (by rw[G.N];exact G.nd) h1 l1 L.code L.hd L.bm L.ck hq a1 a2 a3 l2
 have c2:PE X (.Name Y p2) (bt4 i):=bs0 G h5
 obtain⟨g1,g2,g3⟩:=G.gl h8
 rcases G.call g with hb|⟨fa,fd,ps,hF,d3,hk,hB⟩
 .intro e9 sh W H D I q
  obtain⟨C,U,s,c,s',E,R,Z,q⟩:=q
  obtain⟨c1,s1,e1,Z⟩:=aa0 Z
  have e1:(match oM U i with|some U=>DV.R.ok (DV.Ct.next U) s|none=>.bad)=.ok c1 s1:=e1
  split at e1
  case h_2=>cases e1
  cases e1
  obtain⟨c1,s1,e1,Z⟩:=aa0 Z
  obtain⟨d1,s2,e1,y⟩:=aa0 e1
  obtain⟨l,s3,e1,y⟩:=aa0 e1
  obtain⟨d,s4,e4,y⟩:=aa0 y
  rw[hb]at e4;cases e4
 have hE:=(sE e _ X ck G h9).1
 have hA:=zC hE (zC c2 ad4 (zb rfl)) (zb b0)
 have p3:=aL2 (p:=gp) (pos:=cp) hF G.room g1 d3 hk hB L.fn hA g2 (zb b0) (zt λ z hz=>by rw[aV.mp hz];rfl).1
 refine(aj1 p1 (aj1 (bc6 p3) aF2)).imp λ D W H q=>?_
 obtain⟨C,U,s,c0,s',E,R,Z,q⟩:=q
 obtain⟨c1,s1,e1,Z⟩:=aa0 Z
 have e1:(match oM U i with|some U=>DV.R.ok (DV.Ct.next U) s|none=>.bad)=.ok c1 s1:=e1
 unfold oM at e1
 by_cases hil:i < U.length
 case neg=>rw[if_neg hil]at e1;cases e1
 rw[if_pos hil]at e1
 cases e1
 obtain⟨c1,s1,e1,Z⟩:=aa0 Z
 obtain⟨d1,s2,e1,y⟩:=aa0 e1
 cases y
 cases Z
 obtain⟨l,s3,e1,y⟩:=aa0 e1
 obtain⟨d2,s4,e4,y⟩:=aa0 y
 split at y
 case isFalse=>exact fb y
 rename_i hn
 cases y
 rw[ak]at hn
 obtain⟨x1,s5,e5,e1⟩:=aa0 e1
 obtain⟨y1,s6,e6,e1⟩:=aa0 e1
 cases e1
 have e6:(match mV (U.set i none) Cc with|some cs=>(nG F .nil (U.set i none) s5).bind λ l s=>DV.R.ok (DV.D.clo id cs::l) s|none=>DV.R.bad)=.ok y1 s3:=e6
 cases eg:mV (U.set i none) Cc with
 | none=>rw[eg]at e6;cases e6
 | some cs =>
  rw[eg]at e6
  cases e6
  refine bh0 R.tab L.nd L.tab λ f H' eS st tb hf ho=>?_
  obtain⟨a0,R1⟩:=R.sameT eS st tb
  have E1:RE Γ C H' s.length (U.set i none) (W.set i (some (.ref f))):=by
   have E0:=E.mono a0 (aj _)
   refine⟨by rw[aU,aU];exact E0.len,λ j d ej=>?_⟩
   by_cases z:i=j
   .subst z
    rw[aJ hil]at ej;cases ej
   .rw[aB z]at ej
    obtain⟨q1,v,q2,q3⟩:=E0.val j d ej
    exact⟨q1,v,by rw[aB z];exact q2,q3⟩
  obtain⟨cap,a5,b2,hW⟩:=bd5 E1 eg
  have a6:=(ak6 eg).1
  have d0:ag3 H' f J (ad7 X.env.cells J.scope.names []):=by
   unfold ag3;rw[hnm];skip;rw[L.p,L.b,L.s];exact ho
  refine⟨C,U.set i none,s,x1,_,E1,R1,e5,λ v1 C1 H1 g1 l1 b1 r1 b5=>?_⟩
  have c4:i < W.length:=by rw[<-E.len];exact hil
  refine⟨.ref f,by rw[aJ c4],?_⟩
  intro H2 ca
  obtain⟨gs,R2⟩:=b5.same ca.same
  have b3:=aa4 l1 cs b2
  have e0:∀ m,x1.bnd m=true->lZ m cs=true->lZ m [x1,.clo id cs]=true:=λ m z1 z2=>by
   simp only[lZ,z1,dQ,eD]
   unfold l9;exact z2
  have bl:=e0 _ b1 b3
  have pv:PVL Γ X.env.cells X.N (W.set i (some (.ref f))) C1 H1 [x1,.clo id cs] [v1,.ref f]:=by
   refine .cons (.inl r1) (.cons (.inr ⟨id,cs,rfl,f,J,rfl,L.lg,d0.kp g1.w.kp,by rw[a6,L.len],by rw[L.s];exact L.cl,cap,RVL.mono g1 cs cap b2 a5,λ i x v e1 e3=>?_⟩) .nil)
   have hi:i<Cc.length:=by rw[<-L.len];exact(ac.mp e1).1
   have hj:Cc[i]?=some Cc[i]:=ag hi
   exact⟨by rw[L.s];exact L.fr x (aN e1),Cc[i],L.at_ i _ x hj e1,hW i _ v hj e3⟩
  refine⟨C1,_,[x1,.clo id cs],_,_,R2,pv.caught ca L.kd bl,bl,e4,λ v C' H3 g' l' b' r' R'=>?_⟩
  have hc:Cells X.env.cells H3:=ca.cells.kp g'.w.kp
  exact q C' (ab6 X.env.cells H3) ((a0.trans g1 (aj _)).trans (Gr.caught ca g') l1) (am l1 l') (R'.dropC hc hn.2) v b' (RV.dropC hc _ v hn.1 r')
mutual
theorem sS:∀(st:oH) (S:Stmt) (X:Cx) (y:Ck),CG Γ F n X y->mS y st S=true->PS X S (TSv Γ (DV.ex F st))
 | .asg tg e,S,X,y,G,h=>by
  cases S with
  | Assign ts v p =>
   cases ts with
   | cons t ts1 =>
    cases ts1 with
    | nil =>
     obtain⟨h,J⟩:=zg h
     obtain⟨Cc,z⟩:=zg h
     cases tg with
     | one i =>
      have h:=Cc
      cases t with
      | Name x px =>
       obtain⟨Z,a2⟩:=zg h
       exact bE8 G (of_decide_eq_true Z) a2 z
      | _=>exact ff h
     | tup is =>
      obtain⟨Z,a2⟩:=zg J
      have h:=Cc
      cases t with
      | Tuple te tk tp=>exact(bu4 (sE e _ X y G z).1 (bn2 G Cc) (show ga v (some (.Tuple te tk tp)) p.line X.env=pure false from aw2 a2) (aR3 Z) rfl).imp λ D W H q=>aY5 (TSv.eq (λ U s=>rfl) q)
      | _=>exact ff h
    | _=>exact ff h
   | _=>exact ff h
  | _=>exact ff h
 | .setIx o i e,S,X,y,G,h=>by
  cases S with
  | Assign ts v p2 =>
   cases ts with
   | cons tt ts1 =>
    cases tt with
    | Subscript ob ix p1 =>
     cases ts1 with
     | nil =>
      obtain⟨h,h4⟩:=zg h
      obtain⟨h,J⟩:=zg h
      obtain⟨Cc,z⟩:=zg h
      have Y:=aC5 z
      refine(bu4 (sE e _ X y G J).1 (cc0 (sE o _ X y G Cc).1 (sE i _ X y G z).1 (bX2 (aC3 G.room)) ?_) (show ga v (some (.Subscript ob ix p1)) p2.line X.env=pure false from aw2 h4) aR7 ?_).imp λ D W H q=>bn3 (TSv.eq (λ U s=>rfl) q)
      .intro w
       cases ix<;>first|rfl|cases Y
      .rfl
     | _=>exact ff h
    | _=>exact ff h
   | _=>exact ff h
  | _=>exact ff h
 | .ex e,S,X,y,G,h=>by
  cases S with
  | Expr v p =>
   obtain⟨Cc,z⟩:=zg h
   exact(bG3 (sE e _ X y G Cc).1 (aw2 z)).imp λ D W H q=>bH4 (TSv.eq (λ U s=>rfl) q)
  | _=>exact ff h
 | .ret e,S,X,y,G,h=>by
  cases S with
  | Return vo p =>
   cases vo with
   | some v =>
    exact(bc6 (sE e _ X y G h).1).imp λ D W H q=>ca4 (TSv.eq (λ U s=>rfl) q)
   | _=>exact ff h
  | _=>exact ff h
 | .ite c a b,S,X,y,G,h=>by
  cases S with
  | If t l r p =>
   obtain⟨h,J⟩:=zg h
   obtain⟨Cc,z⟩:=zg h
   exact(ci3 (sE c _ X y G Cc).2 (sSs a _ X y G z) (sSs b _ X y G J)).imp λ D W H q=>cl0 (TSv.eq (λ U s=>rfl) q)
  | _=>exact ff h
 | .whl c b,S,X,y,G,h=>by
  cases S with
  | While t l o p =>
   cases o with
   | nil =>
    obtain⟨Cc,z⟩:=zg h
    exact(bh9 (by rw[G.xe];exact iy) (sE c _ X y G Cc).2 (sSs b _ X y G z)).imp λ D W H q=>bg6 (TSv.eq (λ U s=>rfl) q)
   | _=>exact ff h
  | _=>exact ff h
 | .for_ tg it b,S,X,y,G,h=>by
  cases S with
  | For tgt iter l o p =>
   cases o with
   | nil =>
    obtain⟨h,J⟩:=zg h
    obtain⟨Cc,z⟩:=zg h
    exact(br8 (by rw[G.xe];exact iy) G.calm (sI it _ _ X y G z) (bn2 G Cc) (sSs b _ X y G J) (as8 (bQ4 z))).imp λ D W H q=>bu2 (TSv.eq (λ U s=>rfl) q)
   | _=>exact ff h
  | _=>exact ff h
 | .forK tg e b,S,X,y,G,h=>by
  cases S with
  | For tgt iter l o p =>
   cases o with
   | nil =>
    obtain⟨h,J⟩:=zg h
    obtain⟨Cc,z⟩:=zg h
    exact(bG6 (br8 (by rw[G.xe];exact iy) G.calm (sI (.keys e) _ _ X y G z) (bn2 G Cc) (sSs b _ X y G J) (as8 (zg z).2))).imp λ D W H q=>bA1 (TSv.eq (λ U s=>rfl) q)
   | _=>exact ff h
  | _=>exact ff h
 | .cont,S,X,y,G,h=>by
  cases S with
  | Continue p =>
   exact aG8.imp λ D W H q=>bz0 (TSv.eq (λ U s=>rfl) q)
  | _=>exact ff h
 | .und _,S,X,y,G,h=>ff h
theorem sSs:∀(st:nN) (S:yL) (X:Cx) (y:Ck),CG Γ F n X y->mSs y st S=true->PSs X S (TSv Γ (oK F st))
 | .nil,S,X,y,G,h=>by
  cases S with
  | nil =>
   exact aF2.imp λ D W H q=>bE6 (m:=oK F .nil) (λ U s=>rfl) q
  | _=>exact ff h
 | .cons s ss,S,X,y,G,h=>by
  cases S with
  | cons x xs =>
   rcases(b8 _ _).mp h with h|h
   .exact bQ3 G h
   obtain⟨Cc,z⟩:=zg h
   exact(aj1 (sS s _ X y G Cc) (sSs ss _ X y G z)).imp λ D W H q=>bZ9 (TSv.eq (λ U s=>rfl) q)
  | _=>exact ff h
end
end
section
variable {Γ:Gm} {F:mz} {n:Nat} {X:Cx} {ck:Ck} {a Cc:Addr} {oe:Obj}
end
section
variable {Γ:Gm} {F:mz} {n:Nat} {X:Cx} {ck:Ck} {a Cc:Addr} {oe:Obj}
end
section
variable {F:mz} {X:Cx} {ck:Ck} {a Cc:Addr} {oe:Obj}
end
section
variable {Γ:Gm}
theorem aG9 (R:Rp Γ C H s)(g:Gr C s H C1 s1 z)(ho:oN s s1=true)(y:i<s.length)(e:s1[i]?=some o):o.bnd s.length=true:=by
 unfold oN at ho
 have:=aZ.mp ho i (cb.mpr y)
 rw[e,b8]at this
 rcases this with h|h
 .exact R.wf i o (of_decide_eq_true h).symm
 .exact h
theorem qC {s1:lX}(e:(s1.take k)[i]?=some o):i<k/\s1[i]?=some o:=by
 rw[jS]at e
 split at e
 .exact⟨‹_›,e⟩
 .cases e
theorem aO5 (R:Rp Γ C H s)(g:Gr C s H C1 s1 h)(R1:Rp Γ C1 h s1)(ho:oN s s1=true):Gr C s H C1 (s1.take s.length) h/\Rp Γ C1 h (s1.take s.length):=by
 have hl:(s1.take s.length).length=s.length:=by rw[bG];have:=g.le;lia
 refine⟨⟨g.w,by rw[hl];exact aj _,λ i G Cc=>by rw[hl]at Cc;lia,λ i o y e e'=>g.kd i o y e (qC e').2,g.st,g.fz,g.fr⟩,λ i j o y e e' m m' z=>R1.inj i j o y (qC e).2 (qC e').2 m m' z,λ i o e=>R1.obj i o (qC e).2,λ i o e=>?_,R1.tab⟩
 rw[hl]
 exact aG9 R g ho (qC e).1 (qC e).2
theorem au1 (R:Rp Γ C H s)(g:Gr C s H C1 s1 Cc)(R1:Rp Γ C1 Cc s1)(hb:v0.bnd s1.length=true)(r:RV Γ C1 Cc v0 v)(h:DV.zr s v0 s1=.ok d s') :
  ∃ C',Gr C s H C' s' Cc/\s.length<=s'.length/\d.bnd s'.length=true/\RV Γ C' Cc d v/\Rp Γ C' Cc s':=by
 have all:d=v0->s'=s1->∃ C',Gr C s H C' s' Cc/\s.length<=s'.length/\d.bnd s'.length=true/\RV Γ C' Cc d v/\Rp Γ C' Cc s':=λ e1 e2=>by
  subst e1;subst e2
  exact⟨C1,g,g.le,hb,r,R1⟩
 unfold DV.zr at h
 split at h
 case isFalse=>cases h;exact all rfl rfl
 rename_i ho
 obtain⟨gt,Rt⟩:=aO5 R g R1 ho
 have hl:(s1.take s.length).length=s.length:=by rw[bG];have:=g.le;omega
 have tk:d=v0->s'=s1.take s.length->v0.bnd s.length=true->∃ C',Gr C s H C' s' Cc/\s.length<=s'.length/\d.bnd s'.length=true/\RV Γ C' Cc d v/\Rp Γ C' Cc s':=λ e1 e2 b=>by
  subst e1;subst e2
  exact⟨C1,gt,by rw[hl];exact aj _,by rw[hl];exact b,r,Rt⟩
 split at h
 .rename_i k
  split at h
  .cases h
   exact tk rfl rfl (by unfold l9;exact decide_eq_true ‹_›)
  .rename_i hk
   split at h
   .rename_i o Y
    split at h
    .rename_i J
     cases h
     have gw:Gw C1 s.length Cc (λ i=>if i=s.length then C1 k else C1 i) Cc:=⟨λ i y=>if_neg (aw y),Kp.refl _⟩
     have key:∀ i G ,(s1.take s.length++[o])[i]?=some G->(i<s.length/\s1[i]?=some G)\/(i=s.length/\G=o):=λ i G e=>by
      rcases gK i s.length with h|h|h
      .rw[aQ (by rw[hl];exact h)]at e;exact .inl (qC e)
      .subst h
       rw[aP (by rw[hl];exact aj _),hl,lO]at e
       exact .inr ⟨rfl,(aA e).symm⟩
      .rw[cZ (by rw[aD,hl];simp;lia)]at e;cases e
     have z:(s1.take s.length++[o]).length=s.length+1:=by rw[aD,hl];rfl
     refine⟨λ i=>if i=s.length then C1 k else C1 i,⟨⟨λ i y=>?_,g.w.kp⟩,by rw[z];lia,λ i h1 h2=>?_,λ i oo G e e'=>?_,g.st,g.fz,g.fr⟩,by rw[z];omega,by unfold l9;rw[z];exact decide_eq_true (du _),?_,⟨λ i j oi oj a1 a0 mi Z e=>?_,λ i G e=>?_,λ i G e=>?_,R1.tab⟩⟩
     .skip
      rw[if_neg (aw y)];exact g.w.map i y
     .rw[z]at h2
      rw[if_pos (by lia)]
      exact g.new k (by lia) (ac.mp Y).1
     .rcases key i G e' with⟨_,e2⟩|⟨y,_⟩
      .exact g.kd i oo G e e2
      .have:=(ac.mp e).1;lia
     .rw[r.refE]
      unfold RV
      rw[if_pos rfl]
     .rcases key i oi a1 with⟨y,ei⟩|⟨y,zi⟩<;>rcases key j oj a0 with⟨hj,ej⟩|⟨hj,zj⟩
      .rw[if_neg (aw y),if_neg (aw hj)]at e
       exact R1.inj i j oi oj ei ej mi Z e
      .rw[if_neg (aw y),if_pos hj]at e
       subst zj
       have:=R1.inj i k oi _ ei Y mi Z e
       lia
      .rw[if_neg (aw hj),if_pos y]at e
       subst zi
       have:=R1.inj k j _ oj Y ej mi Z e
       lia
      .rw[y,hj]
     .rcases key i G e with⟨y,e⟩|⟨y,rfl⟩
      .skip
       rw[if_neg (aw y)]
       exact(R1.obj i G e).mono gw (aG9 R g ho y e) λ _ u hu=>hu
      .skip
       rw[if_pos y]
       exact(R1.obj k _ Y).mono gw J λ _ u hu=>hu
     .rw[z]
      rcases key i G e with⟨y,e⟩|⟨_,rfl⟩
      .exact qd (db _) _ (aG9 R g ho y e)
      .exact qd (db _) _ J
    .cases h;exact all rfl rfl
   .exact fb h
 .split at h
  .cases h;exact tk rfl rfl ‹_›
  .cases h;exact all rfl rfl
structure LamGood (J:LamI)(L:nO):Prop where
 sc:LamScope (J.ps++J.fr) J.ps J.fr J.scope
 ps:J.ps.length=L.ps
 fr:J.fr.length=L.cs
 m:mE (ck0 (J.ps++J.fr) J.scope) L.body J.body=true
 pa:qL J.params=some J.ps
 bind:∀(clos:yB) (doc pm:Value) (c':Addr) (ctv:Value) (us:yG),us.length=J.ps.length->d4 (bv "<lambda>" J.qual J.params J.body J.scope clos pm (.ref c') ctv) ⟨us,[]⟩=pure (J.ps.zip us) /\
  ∀(nm:Str) (rp:Pos),d4 (cT nm J.qual J.params [.Return (some J.body) rp] J.scope clos .none .none doc pm none (.ref c') ctv) ⟨us,[]⟩=pure (J.ps.zip us)
structure LkAt (Γ:Gm)(cds:yF)(f:Str)(sc:Scope)(N:yH)(fd:bQ)(id:String)(caps:List Nat)(params:bh)(body:Expr)(scope:Scope)(c P:Addr)(J:LamI):Prop where
 code:fd.code=.ref c
 cd:(c,P)∈cds
 ck:lamCheck scope sc=true
 fre:∀ x,scope.names.lookup x=some .free->sc.names.lookup x=some .cell
 cel:∀ y∈sc.names,y.2=.cell->sc.names.lookup y.1=some .cell
 df:∀ env,k6 params env=([],[])
 lg:Γ.lg id J
 q:J.qual=f ++ ".<locals>."++J.own
 p:J.params=params
 b:J.body=body
 s:J.scope=scope
 len:J.fr.length=caps.length
 at_:∀(i j:Nat) (x:Str),caps[i]?=some j->J.fr[i]?=some x->N[j]?=some x
 fr:∀ x∈J.fr,scope.names.lookup x=some .free
 tab:(P,J.qual)∈Γ.T
def bM7 (Γ:Gm)(cds:yF)(f:Str)(sc:Scope)(N:yH)(fd:bQ)(lk:String->List Nat->Expr->Bool):Prop :=
 ∀ id caps E,lk id caps E=true->∃ c P params body scope pos J,E=qM J params body scope pos/\LkAt Γ cds f sc N fd id caps params body scope c P J
def GoodB (Γ:Gm)(cds:yF)(mg:yC)(f:String)(pc vc:Nat)(m:Ck->List Stmt->Bool):Prop:=∃ st N ps a fd lk,DefAt Γ.K mg (f) st ps a fd/\FnScope N ps (defScope st)/\ps.length=pc/\N.length=pc+vc/\m ⟨N,defScope st,lk⟩ (zD st)=true/\bM7 Γ cds (f) (defScope st) N fd lk
def Good (Γ:Gm)(cds:yF)(mg:yC)(f:String)(d:nI):Prop:=GoodB Γ cds mg f d.ps d.vs λ ck S=>mSs ck d.body S
structure PrOk (Γ:Gm)(cds:yF)(P:mD)(mg:yC)(w:World):Prop where
 df:∀ f d,P.df f=some d->Good Γ cds mg f d
 con:∀ x d,P.con x=some d->∃ v u,mg (x:Str)=some u/\RelV v u/\(∀ m,d.bnd m=true)/\∀ C H,RV Γ C H d v
 bi:∀ x∈bNames,mg x=none
 fa:∀(f:String) (a:Addr),Γ.fa f=some a->mg (f:Str)=some (.ref a)/\∃ oc od fd sl,Γ.K.lookup a=some ⟨oc,od,.func fd,sl⟩
 lg:∀ id J,Γ.lg id J->∃ L,P.lm id=some L/\LamGood J L
 nd:(Γ.T.map (·.1)).Nodup
 cdc:∀(c:String) kvs,P.cdc c=some kvs->∃ a,mg (c:Str)=some (.ref a)/\∀(prog:aI) (h:Heap),Γ.K.In h->StrTab prog w h a (strD kvs)
def ap7 (Γ:Gm)(prog:aI)(w:World)(mg:yC)(base:Heap)(F:mz)(n:Nat):Prop:=(∀ f:String,(∀ l s,F.call f l s=.bad) \/
  ∃ a fd ps,FnOk prog w Γ.K mg base CX0 n a fd ps (spV Γ (F.call f))/\mg (f)=some (.ref a)/\cH Γ.K (.ref a)=true/\Binds Γ.K fd ps []) /\
 (∀ id J f cap clos ,Γ.lg id J->cap.length=J.fr.length->ClOk prog w Γ.K mg base n (λ H=>CloAt H f J cap clos) f (spL Γ (F.lam id) cap))/\ObOk Γ prog w Γ.K mg base F n
theorem bl3 (r:RVL Γ C H l vs)(b:lZ n l=true)(hN:N.length=l.length+k):RE Γ C H n (l.map some++aC k none) (ah3 N vs):=by
 have hl:=r.length
 refine⟨?_,λ i d e=>?_⟩
 .unfold ah3;simp[hl,hN]
 .by_cases hi:i<l.length
  .rw[aQ (by simpa using hi),ay]at e
   have e':l[i]?=some d:=by
    rw[ag hi]at e ⊢
    exact aA e
   obtain⟨v,e1,e2⟩:=r.get e'
   refine⟨af7 b e',v,?_,e2⟩
   unfold ah3
   rw[aQ (by rw[ax,hl];exact hi),ay,e1];rfl
  .rw[aP (by simpa using kr hi)]at e
   rw[bj]at e
   split at e<;>cases e
theorem bw4 (Cc:PrOk Γ y P mg w) n :∀ c kvs,(mr P n).cdc c=some kvs->∃ a,mg (c)=some (.ref a)/\∀ h:Heap,Γ.K.In h->StrTab prog w h a (strD kvs):=by
 have:(mr P n).cdc=P.cdc:=by cases n<;>rfl
 rw[this]
 intro c kvs e
 obtain⟨a,G,z⟩:=Cc.cdc c kvs e
 exact⟨a,G,z prog⟩
theorem bT7 (hP:PrOk Γ Z P mg w)(hb:∀ y∈Z,bO base y.1 y.2/\BM mg base) n (h:ap7 Γ prog w mg base (mr P n) (n+31))
  {f:String} {st:Stmt} (hS:FnScope N ps (defScope st)) (hL:bM7 Γ Z (f:Str) (defScope st) N fd lk) G (a1:∀ id Cc E,lk id Cc E=true->fd.code=G) A Y sh H E (hr:Room (n+31) (A.deeper (gj (f:Str) (defScope st) sh.heap.objs.size a G))) :
  CG Γ (mr P n) (n+31) (bk8 CX0 prog w Γ.K mg base N (f:Str) (defScope st) a G A Y sh H E).nox ⟨N,defScope st,lk⟩:=by
 refine⟨rfl,rfl,hS.nd,rfl,rfl,?_,hr,λ x k e=>.inl e,λ _ _=>rfl,hP.bi,h.1,?_,λ id Cc E' hlk=>?_,h.2.1,hP.fa,DV.qO P n,bw4 hP n,h.2.2⟩
 .show mB+1<=n+31
  unfold mB;lia
 .have:(mr P n).con=P.con:=by cases n<;>rfl
  rw[this];exact hP.con
 .obtain⟨c,Pa,params,body,scope,pos,J,eE,L⟩:=hL id Cc E' hlk
  obtain⟨a5,a3⟩:=hb _ L.cd
  obtain⟨L',_,lg⟩:=hP.lg id J L.lg
  refine⟨c,Pa,params,body,scope,pos,J,eE,⟨?_,a5,a3,L.ck,L.df _,L.lg,L.q,L.p,L.b,L.s,L.len,L.at_,L.fr,λ x hx=>?_,L.tab,hP.nd,λ _=>rfl,λ x c hx=>?_,lg.sc,lg.pa,λ a0 pm c' a4 us a2=>(lg.bind a0 .none pm c' a4 us a2).1⟩⟩
  .show G=.ref c
   rw[<-a1 id Cc E' hlk];exact L.code
  .exact zS (L.fre x hx)
  .rcases zw (aF hx)with z|z
   .exact .inl (L.cel (x,.cell) z rfl)
   .exact absurd z (by simp)
theorem ca9 {a0:yF}{P:mD}{prog:aI}{w:World}{mg:yC}{base:Heap}(hP:PrOk Γ a0 P mg w)(hb:∀ y∈a0,bO base y.1 y.2/\BM mg base)(n:Nat)(a1:ap7 Γ prog w mg base (mr P n) (n+31))
  {f:String} {x:Str} {d:nI} {st:Stmt} {N ps:yH} {a:Addr} {fd:bQ} {lk:String->List Nat->Expr->Bool} (hD:Fun Γ.K x (f:Str) st a fd) (hS:FnScope N ps (defScope st)) (h1:ps.length=d.ps) (h2:N.length=d.ps+d.vs) (hm:mSs ⟨N,defScope st,lk⟩ d.body (zD st)=true) (hL:bM7 Γ a0 (f:Str) (defScope st) N fd lk) :
  FnOk prog w Γ.K mg base CX0 (n+1+31) a fd ps (spV Γ (nJ (mr P n) d)):=by
 have Z:∀ vs H Q E,spV Γ (nJ (mr P n) d) vs H Q E->vs.length=ps.length:=λ vs H Q E q=>by
  obtain⟨C,s,l,d',s',R,r,b,hc,k⟩:=q
  unfold nJ at hc
  split at hc
  .rw[r.length,h1];assumption
  .exact fb hc
 have body:∀(Y:Value),(∀ id z E,lk id z E=true->fd.code=Y)->∀(A:aX) (Cc:List Env) (sh:ai) (H:Hp) (vs:List V) (Q:VK) (E:XK),Room (n+31) (A.deeper (gj (f:Str) (defScope st) sh.heap.objs.size a Y))->spV Γ (nJ (mr P n) d) vs H Q E ->
   ∃ t,PSs (bk8 CX0 prog w Γ.K mg base N (f:Str) (defScope st) a Y A Cc sh H E).nox (zD st) t/\t { nx:=λ _ H'=>Q .non H',rt:=Q } (ah3 N vs) H:=by
  intro Y a3 A Cc sh H vs Q E hr q
  have G:=bT7 hP hb n a1 hS hL (a:=a) Y a3 A Cc sh H E hr
  refine⟨_,sSs d.body (zD st) _ ⟨N,defScope st,lk⟩ G hm,?_⟩
  obtain⟨C,s,l,d',s',R,r,b,hc,k⟩:=q
  unfold nJ at hc
  split at hc
  case isFalse=>exact fb hc
  rename_i Z
  obtain⟨c,s1,e1,hc⟩:=aa0 hc
  refine⟨C,l.map some++aC d.vs none,s,c,s1,bl3 r b (by rw[h2,Z]),R,e1,λ C1 H1 g1 l1 R1=>?_⟩
  cases c with
  | ret v0 =>
   intro v hb rv
   obtain⟨C',g',l',b',r',R'⟩:=au1 R g1 R1 hb rv hc
   exact k v C' H1 g' l' b' r' R'
  | next U =>
   intro W' _
   obtain⟨C',g',l',b',r',R'⟩:=au1 (v0:=.non) R g1 R1 rfl RV.nonI hc
   exact k .non C' H1 g' l' b' r' R'
  | cont U=>exact fb hc
  | brk U=>exact fb hc
 by_cases hl:∃ id z E,lk id z E=true
 .obtain⟨id,z,E,hlk⟩:=hl
  obtain⟨c,Pa,params,a2,scope,pos,J,eE,L⟩:=hL id z E hlk
  exact hD.okC L.code hS Z (body _ λ _ _ _ _=>L.code)
 .exact hD.ok hS Z (λ Y=>body Y λ id z E h=>absurd ⟨id,z,E,h⟩ hl)
theorem bZ8 (hP:PrOk Γ h P mg w)(hb:∀ y∈h,bO base y.1 y.2/\BM mg base) n (Cc:ap7 Γ prog w mg base (mr P n) (n+31))
  (e:P.df f=some d) {st} (hD:DefAt Γ.K mg (f:Str) st ps a G) (hS:FnScope N ps (defScope st)) (Y:ps.length=d.ps) (J:N.length=d.ps+d.vs) (Z:mSs ⟨N,defScope st,lk⟩ d.body (zD st)=true) (hL:bM7 Γ h (f:Str) (defScope st) N G lk) :
  FnOk prog w Γ.K mg base CX0 (n+1+31) a G ps (spV Γ ((mr P (n+1)).call f)):=by
 have z:(mr P (n+1)).call f=nJ (mr P n) d:=by funext l s;simp only[mr,e];rfl
 rw[z]
 exact ca9 hP hb n Cc hD.fn hS Y J Z hL
theorem ck1 (Cc:PrOk Γ h P mg w)(hb:∀ y∈h,bO base y.1 y.2/\BM mg base) n (z:ap7 Γ prog w mg base (mr P n) (n+31)):ObOk Γ prog w Γ.K mg base (mr P (n+1)) (n+1+31):=by
 exact trivial
theorem by9 (hP:PrOk Γ b6 P mg w) n (Z:ap7 Γ prog w mg base (mr P n) (n+31))
   id J f cap Cc (b3:Γ.lg id J) (a2:cap.length=J.fr.length) :
  ClOk prog w Γ.K mg base (n+1+31) (λ H=>CloAt H f J cap Cc) f (spL Γ ((mr P (n+1)).lam id) cap):=by
 obtain⟨L,eL,LG⟩:=hP.lg id J b3
 have a1:∀ vs H Q E,spL Γ ((mr P (n+1)).lam id) cap vs H Q E->vs.length=J.ps.length:=λ vs H Q E q=>by
  obtain⟨C,s,cs,l,d,s',R,r,rc,b,bc,hc,k⟩:=q
  simp only[mr,eL]at hc
  split at hc
  .rename_i hh;rw[r.length,LG.ps];exact hh.1
  .exact fb hc
 have main:∀ A Y sh H cd vs Q ,Room (n+31) (A.deeper (dF J.qual J.scope sh.heap.objs.size f cd (aR (sh.heap.objs.size+1) J.scope.names Cc)))->Cells Cc H->(∀ b o,Γ.K.lookup b=some o->H b=none)->spL Γ ((mr P (n+1)).lam id) cap vs H Q E0 ->
   ∃ t,PE (aF1 prog w Γ.K mg base (J.ps++J.fr) J.qual J.scope f cd Cc A Y sh H) J.body t/\t (vs.map some++cap.map some) (ab6 Cc H) λ v H'=>(∀ b,isC Cc b=true->H' b=none)->Q v (Put Cc H H'):=by
  intro A Y sh H cd vs Q hr z hK q
  have G:CG Γ (mr P n) (n+31) (aF1 prog w Γ.K mg base (J.ps++J.fr) J.qual J.scope f cd Cc A Y sh H) (ck0 (J.ps++J.fr) J.scope):=by
   refine⟨rfl,rfl,LG.sc.nd,rfl,rfl,?_,hr,λ x k e=>.inl e,λ x e=>?_,hP.bi,Z.1,?_,λ _ _ _ h=>(by cases h),Z.2.1,hP.fa,DV.qO P n,bw4 hP n,Z.2.2⟩
   .skip
    unfold mB;lia
   .show(J.scope.names.lookup x==some .cell)=true
    rw[e];rfl
   .have:(mr P n).con=P.con:=by cases n<;>rfl
    rw[this];exact hP.con
  refine⟨_,(sE L.body J.body _ (ck0 (J.ps++J.fr) J.scope) G LG.m).1,?_⟩
  obtain⟨C,s,cs,l,d,s',R,r,rc,b,bc,hc,k⟩:=q
  simp only[mr,eL]at hc
  split at hc
  case isFalse=>exact fb hc
  rename_i hh
  obtain⟨h1,h2,h3⟩:=hh
  rw[ak,ak]at h3
  obtain⟨⟨b5,b4⟩,b2⟩:=h3
  obtain⟨v0,s1,e1,hc⟩:=aa0 hc
  have RD:=R.dropC z b2
  have a5:=(RVL.dropC z l vs b5 r).append (RVL.dropC z cs cap b4 rc)
  refine⟨C,l.map some++cs.map some,s,v0,s1,⟨by simp[r.length,rc.length],λ i x ei=>?_⟩,RD,e1,λ v C1 H1 g1 l1 b1 r1 R1 a3=>?_⟩
  .rw[<-cM,ay]at ei
   have a6:(l++cs)[i]?=some x:=by
    cases q:(l++cs)[i]? with
    | none=>rw[q]at ei;cases ei
    | some y=>rw[q]at ei;cases ei;rfl
   obtain⟨u,e3,e4⟩:=a5.get a6
   refine⟨af7 (zI b bc) a6,u,?_,e4⟩
   rw[<-cM,ay,e3];rfl
  .obtain⟨C',g',l',b',r',R'⟩:=au1 RD g1 R1 b1 r1 hc
   have gp:=Gr.put z a3 hK R' g'
   obtain⟨gs,Rs⟩:=R'.same (aZ5 a3)
   exact k v C' _ gp l' b' (RV.mono gs d v b' r') Rs
 unfold CloAt
 cases q:J.nm with
 | none=>exact bA9 LG.sc a1 a2 (λ pm c' a0 us a4=>(LG.bind Cc .none pm c' a0 us a4).1) (λ A Y sh H cd vs Q hr hat hK q=>by
   obtain⟨pm,c',a0,_,_,z,_⟩:=hat
   exact main A Y sh H cd vs Q hr z hK q)
 | some p=>exact bI3 LG.sc a1 a2 (λ b0 pm c' a0 us a4=>(LG.bind Cc b0 pm c' a0 us a4).2 _ _) (λ A Y sh H cd vs Q hr hat hK q=>by
   obtain⟨b0,pm,c',a0,_,_,z,_⟩:=hat
   obtain⟨t,h1,h2⟩:=main A Y sh H cd vs Q hr z hK q
   exact⟨_,aj1 (bc6 h1) aF2,h2⟩)
theorem aN8 (z:PrOk Γ Cc P mg w)(hb:∀ y∈Cc,bO base y.1 y.2/\BM mg base)(ht:∀ f,P.tf f=none):∀ n:Nat,ap7 Γ prog w mg base (mr P n) (n+31)
 | 0=>⟨λ f=>.inl λ l s=>rfl,λ id J f cap h _ _=>⟨λ A G s H us vs Q _ _ _ _ q=>by
   obtain⟨C,s,cs,l,d,s',R,r,rc,b,bc,hc,k⟩:=q
   cases hc⟩,trivial⟩
 | n+1=>by
  have ih:=aN8 (prog:=prog) z hb ht n
  refine⟨λ f=>?_,λ id J f cap h Z Y=>by9 z n ih id J f cap h Z Y,ck1 z hb n ih⟩
  cases e:P.df f with
  | none=>exact .inl λ l s=>by simp only[mr,e,ht f]
  | some d =>
   obtain⟨st,N,ps,a,fd,lk,hD,hS,Z,Y,hm,hL⟩:=z.df f d e
   exact .inr ⟨a,fd,ps,bZ8 z hb n ih e hD hS Z Y hm hL,hD.mg,hD.fn.kp,hD.bi⟩
def spT (Γ:Gm):Sp:=λ vs H Q _=>∃(a:Addr) (ns:List Int),vs=[.ref a]/\SqF Γ.K H a (ns.map V.int)/\ns.length<=63/\TabsH Γ.T H/\∀ H',Q (.bl true) H'
theorem aK4 :∀ ns:List Int,RVL Γ C H (ns.map DV.D.int) (ns.map V.int)
 | []=>.nil
 | n::ns=>.cons RV.intI (aK4 ns)
theorem az6 :∀ ns:List Int,lZ m (ns.map DV.D.int)=true
 | []=>rfl
 | n::ns=>by rw[aS];unfold lZ;rw[az6 ns];rfl
theorem bX0 (h:∀ ns:List Int,ns.length<=63->∃ s',(mr P k).call "law" [.ref 0] [.ro (ns.map DV.D.int)]=.ok (.bl true) s') vs  H  Q  E (q:spT Γ vs H Q E):spV Γ ((mr P k).call "law") vs H Q E:=by
 obtain⟨a,ns,rfl,z,hl,hT,y⟩:=q
 obtain⟨s',hs⟩:=h ns hl
 refine⟨λ _=>a,[.ro (ns.map DV.D.int)],[.ref 0],.bl true,s',⟨λ i j o Cc e e' m m' _=>?_,λ i o e=>?_,λ i o e=>?_,hT⟩,.cons RV.refI .nil,?_,hs,λ v C' H' g l b r R=>?_⟩
 .cases i with
  | zero=>cases e;cases m
  | succ i=>cases e
 .cases i with
  | zero=>cases e;exact⟨_,z,aK4 ns⟩
  | succ i=>cases e
 .cases i with
  | zero=>cases e;unfold mn;exact az6 ns
  | succ i=>cases e
 .unfold lZ l9 lZ;rfl
 .rw[r.blE];exact y H'
theorem aL0 :∀ {tbl:List (String×nI)},(∀ p∈tbl,Good Γ y mg p.1 p.2)->∀ f d,tbl.lookup f=some d->Good Γ y mg f d
 | [],_,f,d,h=>by cases h
 | (g,e)::tbl,H,f,d,h=>by
  rw[be]at h
  cases q:f==g with
  | true =>
   rw[q]at h
   cases h
   rw[eq_of_beq q]
   exact H (g,_) (az ..)
  | false =>
   rw[q]at h
   exact aL0 (λ p hp=>H p (ar _ hp)) f d h
def GoodC (Γ:Gm)(mg:yC)(x:String)(d:lY):Prop:=∃ v u,mg (x)=some u/\RelV v u/\(∀ m,d.bnd m=true)/\∀ C H,RV Γ C H d v
theorem aT5 :∀ {tbl:List (String×lY)},(∀ p∈tbl,GoodC Γ mg p.1 p.2)->∀ f d,tbl.lookup f=some d->GoodC Γ mg f d
 | [],_,f,d,h=>by cases h
 | (g,e)::tbl,H,f,d,h=>by
  rw[be]at h
  cases q:f==g with
  | true =>
   rw[q]at h
   cases h
   rw[eq_of_beq q]
   exact H (g,_) (az ..)
  | false =>
   rw[q]at h
   exact aT5 (λ p hp=>H p (ar _ hp)) f d h
end
theorem aQ7 {K:ah}{mg mb:yC}{vs:yG}{tabs:yF}
  (KX:K.In Cc.heap) (a5:Cc.heap.Ns bE mg) (hb:Cc.heap.Ns g9 mb) (d3:∀ x:Str,x ≠ "__name__"->mb x=bC x) (c0:Cc.heap.NoLimit) (hg:Cc.gens=#[]) (e4:BM mg Cc.heap) (hT:lf tabs Cc.heap) (d1:lh K=true)
  (ha:Cc.heap.get? a=some { cls:=.type "list",data:=.seq vs.toArray }) (hi:i7 vs ns) (hl:ns.length<=aO) (hr:Room k i8)
  (F:∀ base:Heap,K.In base->base.Ns bE mg->BM mg base->(∀ q∈tabs,bO base q.1 q.2)->FnOk P w K mg base CX0 k fa fd [x] sp) (a3:∀(s:ai) (u:Value),kO s fd ⟨[u],[]⟩ [(x,u)])
  (c2:∀ H:Hp,(∀ q∈tabs,H q.2=some (.tbl #[]))->SqL K H a (ns.map V.int)->(∀ u,H a=some u->(∃ o xs,u=.frz o (.lst xs))\/∃ ps,u=.tbl ps)->sp [.ref a] H (λ v _=>v=.bl true) E0) :
  fx (model P w) i8 (.call (.ref fa) ⟨[.ref a],[]⟩) (λ r s'=>r=.ok (.ret (.bool true))/\OldK Cc.heap s'.heap/\s'.os=Cc.os/\gD s'.gens) Cc:=by
 have rv:=an0 hi
 have a6:=hi.length
 have G:∀ b,b∈tabs.map (·.2)->Cc.heap.get? b=some (eX #[]):=λ b h=>by
  obtain⟨q,hq,rfl⟩:=aK.mp h
  exact(hT q hq).2
 have a0:∀ H:Hp,(∀ b u,H b=some u->(b=a/\∃ o xs,u=.frz o (.lst xs))\/(b∈tabs.map (·.2)/\u=.tbl #[]))->(∀ q∈tabs,H q.2=some (.tbl #[]))->SqL K H a (ns.map V.int)->HOk P w H Cc.heap->(H a≠none->K.lookup a=none) ->
   fx (model P w) i8 (.call (.ref fa) ⟨[.ref a],[]⟩) (λ r s'=>r=.ok (.ret (.bool true))/\OldK Cc.heap s'.heap/\s'.os=Cc.os/\gD s'.gens) Cc:=by
  intro H hO d2 hS hok hK
  have un:∀ b o,Cc.heap.get? b=some o->o.cls≠.type "list"->(∀ vs,o.data≠.fields vs)->H b=none:=λ b o e n1 n2=>by
   cases q:H b with
   | none=>rfl
   | some u =>
    rcases hO b u q with⟨z,_⟩|⟨z,_⟩
    .rw[z,ha]at e;cases e;exact absurd rfl n1
    .rw[G b z]at e;cases e;exact absurd rfl (n2 #[])
  have Y:∀ {b:Addr} {m:yC},Cc.heap.Ns b m->(bg0 Cc.heap H).Ns b m:=λ {b m} ⟨o,es,ep,e,d,r⟩=>by
   refine⟨o,es,ep,aj3 e ?_,d,r⟩
   cases q:H b with
   | none=>rfl
   | some u =>
    rcases hO b u q with⟨z,_⟩|⟨z,_⟩
    .rw[z,ha]at e;cases e;cases d
    .rw[G b z]at e;cases e;cases d
  have c1:K.In (bg0 Cc.heap H):=λ b o e=>aj3 (KX b o e) (by
   cases q:H b with
   | none=>rfl
   | some u =>
    rcases hO b u q with⟨z,_⟩|⟨z,_⟩
    .subst z
     rw[hK (by rw[q];simp)]at e;cases e
    .have e2:=KX b o e
     rw[G b z]at e2
     have h2:=aZ.mp d1 (b,o) (PySem.W.mem_of_lookupK e)
     have e3:o=eX #[]:=(aA e2).symm
     subst e3
     exact absurd (show false=true from h2) aW)
  have hM:Mod K mg (bg0 Cc.heap H):=⟨c1,Y a5,⟨mb,Y hb,d3⟩,let⟨mc,h1,h2⟩:=c0;⟨mc,Y h1,h2⟩⟩
  have d0:BM mg (bg0 Cc.heap H):=by
   obtain⟨bm,ob,b1,b2,b3,b4,b5,b6⟩:=e4
   exact⟨bm,ob,b1,b2,aj3 b3 (un bm ob b3 (by rw[b4];nofun) (by rw[b6];nofun)),b4,b5,b6⟩
  have c4:∀ q∈tabs,bO (bg0 Cc.heap H) q.1 q.2:=λ q hq=>by
   obtain⟨o,e5,b0,tf,a2,tg,c3,text,tt,e1,r1,r2⟩:=(hT q hq).1
   refine⟨o,e5,b0,tf,a2,tg,c3,text,tt,aj3 e1 ?_,r1,r2⟩
   cases q2:H q.1 with
   | none=>rfl
   | some u =>
    rcases hO _ u q2 with⟨z,_⟩|⟨z,_⟩
    .rw[z,ha]at e1;cases e1;exact absurd r1 (by simp)
    .rw[G _ z]at e1;cases e1;exact absurd r1 (by simp)
  have e0:Env0 P w K mg (bg0 Cc.heap H) i8 [] Cc H:=⟨rfl,hM,λ b o e=>bz7 e,lF (aU7 _ _),trivial,λ b hb=>absurd (show b∈([]:List Addr)from hb) (by simp),hok,.of_eq hg⟩
  refine eR ((F _ c1 (Y a5) d0 c4).run i8 [] Cc H ⟨[.ref a],[]⟩ [.ref a] [.ref a] _ _ hr e0 (a3 Cc (.ref a)) (.cons rfl .nil) (c2 H d2 hS (λ u e=>(hO a u e).elim (λ z=>.inl z.2) (λ z=>.inr ⟨_,z.2⟩)))) λ r s' h=>?_
  cases r with
  | error e=>exact bM h
  | ok fl =>
   cases fl with
   | next=>exact bM h
   | brk=>exact bM h
   | cont=>exact bM h
   | ret u =>
    obtain⟨v,H',os,bare,a4,a1,r',q⟩:=h
    have q':v=.bl true:=q
    subst q'
    obtain rfl:u=Value.bool true:=r'
    have key:∀ b o,Cc.heap.get? b=some o->asItWas Cc.heap s'.heap b o/\∃ o',s'.heap.get? b=some o':=λ b o e=>by
     cases q:H b with
     | none =>
      have z:=a4.keep b o e q (by intro z;exact absurd (show b∈([]:List Addr)from z) (by simp)) (by simp)
      exact⟨.inl z,o,z⟩
     | some u =>
      rcases hO b u q with⟨_,ob,xs,z⟩|⟨z,z2⟩
      .subst z
       have z2:=a4.frzs b ob _ q
       obtain⟨e1,_⟩:=hok b _ q
       obtain⟨e2,_⟩:=a1 b _ z2
       rw[e]at e1;cases e1
       exact⟨.inl e2,_,e2⟩
      .subst z2
       obtain⟨Z,z3⟩:=a4.tbls b _ q
       have g:s'.heap.get? b=some { cls:=.none,data:=.fields (#[]++Z) }:=a1 b _ z3
       have e1:=G b z
       rw[e]at e1;cases e1
       obtain⟨p,hp,ep⟩:=aK.mp z
       refine⟨.inr (.inl ⟨?_,rfl,#[],Z,rfl,g⟩),_,g⟩
       have t:=((hT p hp).1.tab (hT p hp).2).isCodeTable
       rw[ep]at t
       exact t
    exact⟨rfl,⟨λ b o e=>(key b o e).1,λ b o e=>(key b o e).2⟩,os,bare⟩
 have tbl:∀ b,b∈tabs.map (·.2)->b≠a:=λ b h z=>by
  have e:=G b h
  rw[z,ha]at e;cases e
 cases hk:K.lookup a with
 | some o =>
  have e:=KX a o hk
  rw[ha]at e
  cases e
  refine a0 (λ b=>if b∈tabs.map (·.2)then some (.tbl #[])else none) (λ b u z=>?_) (λ q hq=>if_pos (bw hq)) (.inr ⟨_,vs.toArray,_,hk,rfl,rfl,rfl,by rw[aq,a6];exact hl,by simpa using rv⟩) (λ b u z=>?_) λ z=>?_
  .by_cases hb:b∈tabs.map (·.2)
   .have J:=(if_pos hb).symm.trans z
    cases J
    exact .inr ⟨hb,rfl⟩
   .have J:=(if_neg hb).symm.trans z
    cases J
  .by_cases hb:b∈tabs.map (·.2)
   .have J:=(if_pos hb).symm.trans z
    cases J
    exact G b hb
   .have J:=(if_neg hb).symm.trans z
    cases J
  .exact absurd (if_neg λ y=>tbl a y rfl) z
 | none =>
  refine a0 (λ b=>if b=a then some (.frz { cls:=.type "list",data:=.seq vs.toArray } (.lst (ns.map V.int)))else if b∈tabs.map (·.2)then some (.tbl #[])else none) (λ b u z=>?_) (λ q hq=>?_) (.inl (.inr ⟨{ cls:=.type "list",data:=.seq vs.toArray },if_pos rfl⟩)) (λ b u z=>?_) λ _=>hk
  .by_cases hb:b=a
   .have J:=(if_pos hb).symm.trans z
    cases J
    exact .inl ⟨hb,_,_,rfl⟩
   .have J:=(if_neg hb).symm.trans z
    by_cases hc:b∈tabs.map (·.2)
    .rw[if_pos hc]at J;cases J;exact .inr ⟨hc,rfl⟩
    .rw[if_neg hc]at J;cases J
  .have hm:q.2∈tabs.map (·.2):=bw hq
   show(if _ then _ else if _ then _ else _)=_
   rw[if_neg (tbl _ hm),if_pos hm]
  .by_cases hb:b=a
   .have J:=(if_pos hb).symm.trans z
    cases J
    subst hb
    exact⟨ha,by rw[ax];exact hl,vs,_,rv,ha⟩
   .have J:=(if_neg hb).symm.trans z
    by_cases hc:b∈tabs.map (·.2)
    .rw[if_pos hc]at J;cases J;exact G b hc
    .rw[if_neg hc]at J;cases J
theorem bc0 {l:dH}{loose:yH}{K:Params->ah}{sp:ah->Sp} names 
  (hn:l.most=some n) (a6:n<=aO) (a2:d.params.defaults=[]) (hr:Room k i8)
  (hY:∀(w:World) (h:Heap),YP w h->(K w.params).In h/\∀ P∈ts,h.get? P=some (eX #[])) (Z:∀ w:World,bX8 (K w.params) names ts=true) (a1:∀ w:World,lh (K w.params)=true)
  (F:∀(w:World) (mg:yC) (fa:Addr) (h:Heap),(K w.params).In h->h.Ns bE mg->mg d.name=some (.ref fa) ->
   ∃ fd:bQ,(∀(s:ai) (u:Value),kO s fd ⟨[u],[]⟩ [(x,u)]) /\
    ∀ base:Heap,(K w.params).In base->base.Ns bE mg->BM mg base->bG1 (K w.params) names base->FnOk l.prog w (K w.params) mg base CX0 k fa fd [x] (sp (K w.params)))
  (a3:∀(K:ah) (H:Hp) (a:Addr) (ns:List Int),ns.length<=n->bG2 K names H->SqL K H a (ns.map V.int)->(∀ u,H a=some u->(∃ o xs,u=.frz o (.lst xs))\/∃ ps,u=.tbl ps)->sp K [.ref a] H (λ v _=>v=.bl true) E0) :
  ln q loose XP YP l.row.toRowW d [] (λ f vs=>kQ f vs):=by
 refine Att.attach_call hn a2 λ w s₀ s₁ mg mb fa o pm cd b1 a vs ns G Y ho hd b0 a5 a0 J Cc hg=>?_
 obtain⟨KX,a4⟩:=hY w _ Y
 obtain⟨fd,hb,hF⟩:=F w mg fa _ KX G.T.g a5
 have hT:lf ((ax6 (K w.params) names).map (·.2)) s₁.heap:=λ p hp=>by
  obtain⟨y,hy,rfl⟩:=aK.mp hp
  obtain⟨h1,h2⟩:=ar2.mp hy
  have z:=aZ.mp (Z w) y.1 h1
  rw[h2]at z
  have z':(kz (K w.params) y.2.1 y.2.2&&ts.contains y.2.2)=true:=z
  rw[ak]at z'
  exact⟨PySem.W.codeHd_of_K KX z'.1,a4 _ (by simpa using z'.2)⟩
 have hm:∀ x∈names,∀ c P,bq (K w.params) x=some (c,P)->(c,P)∈(ax6 (K w.params) names).map (·.2):=λ x hx c P e=>aK.mpr ⟨(x,c,P),ar2.mpr ⟨hx,e⟩,rfl⟩
 refine aQ7 (tabs:=(ax6 (K w.params) names).map (·.2)) KX G.T.g G.T.b G.T.builtins G.T.nolimit hg ?_ hT (a1 w) a0 J (am Cc a6) hr (λ base k1 k2 k3 k4=>hF base k1 k2 k3 λ x hx c P e=>k4 _ (hm x hx c P e)) hb λ H hO hS hF=>a3 (K w.params) H a ns Cc (λ x hx c P e=>hO _ (hm x hx c P e)) hS hF
 obtain⟨bm,ob,h1,h2,h3,h4,h5,h6⟩:=G.T.bmain
 exact⟨bm,ob,h1,h2,h3,h4,h5,h6⟩
def spB (names:yH)(K:ah):Sp:=λ vs H Q _=>∃(a:Addr) (ns:List Int),vs=[.ref a]/\SqF K H a (ns.map V.int)/\ns.length<=63/\bG2 K names H/\∀ H',Q (.bl true) H'
theorem bX3 {K}{ns:List Int}(hl:ns.length<=63)(G:bG2 K names H)(y:SqL K H a (ns.map V.int))(J:∀ u,H a=some u->(∃ o Cc,u=.frz o (.lst Cc))\/∃ ps,u=.tbl ps):spB names K [.ref a] H (λ v _=>v=.bl true) E0:=by
 refine⟨a,ns,rfl,⟨y,λ H' k=>?_⟩,hl,G,λ _=>rfl⟩
 rcases y with(h|⟨o,h⟩)|h
 .rcases J _ h with⟨_,_,z⟩|⟨_,z⟩<;>cases z
 .exact .inl (.inr ⟨o,k _ _ h rfl⟩)
 .exact .inr h
def cp9 (P:mD):String->LamI->Prop:=λ id J=>∃ L,P.lm id=some L/\LamGood J L
noncomputable def sfx (x:Str):Str:=if x = "letter_table" then "least_fee" else "<lambda>"
noncomputable def bG7 (names:yH)(K:ah):List (Addr×Str):=names.map λ x=>(((bq K x).getD (0,0)).2,x ++ ".<locals>."++sfx x)
noncomputable def bx3 (names:yH)(K:ah):List (Addr×Addr):=names.map λ x=>(bq K x).getD (0,0)
noncomputable def ch4 (K:ah)(f:String):Option Addr:=match fZ K bE (f)with
 | some (some (.ref a))=>(match K.lookup a with
  | some ⟨_,_,.func _,_⟩=>some a
  | _=>none)
 | _=>none
theorem aN3 {K}(h:ch4 K f=some a):fZ K bE (f)=some (some (.ref a))/\∃ oc od y sl,K.lookup a=some ⟨oc,od,.func y,sl⟩:=by
 unfold ch4 at h
 split at h
 .rename_i z e
  split at h
  .rename_i oc od y sl e2
   cases h
   exact⟨e,_,_,_,_,e2⟩
  .cases h
 .cases h
noncomputable def cf4 (P:mD)(K:ah)(c:String):Option Addr:=match P.mt c "__init__" with
 | some _=>(match fZ K bE (c)with|some (some (.ref Cc))=>some Cc|_=>none)
 | none=>none
noncomputable abbrev bg2 (names:yH)(P:mD)(K:ah):Gm:=⟨K,ch4 K,cp9 P,bG7 names K,cf4 P K⟩
theorem cf9 {K}{mg:yC}(X:K.In h)(G:h.Ns bE mg):∀ f a ,(bg2 names P K).fa f=some a->mg (f)=some (.ref a)/\∃ oc od y sl,(bg2 names P K).K.lookup a=some ⟨oc,od,.func y,sl⟩:=λ f a e=>⟨fA X G (aN3 e).1,(aN3 e).2⟩
theorem bi0 {K}(y:∀ x∈names,(bq K x).isSome=true)(q:spB names K vs H Q E):spT (bg2 names P K) vs H Q E:=by
 obtain⟨a,ns,e,h,hl,z,Cc⟩:=q
 refine⟨a,ns,e,h,hl,TabsH.init λ p hp=>?_,Cc⟩
 simp only[bG7,cR]at hp
 obtain⟨x,hx,rfl⟩:=aK.mp hp
 exact z x hx _ _ (at8 (y x hx))
theorem bw3 {K}(h:∀ x∈names,(bq K x).isSome=true)(bm:BM mg base)(hc:bG1 K names base):∀ y∈bx3 names K,bO base y.1 y.2/\BM mg base:=λ y hy=>by
 obtain⟨x,hx,rfl⟩:=aK.mp hy
 exact⟨hc x hx _ _ (at8 (h x hx)),bm⟩
theorem je {ps:yH}(h:qL p=some ps):∃ args,p=⟨[],args,none,[],[],none,[]⟩/\args.map (·.arg)=ps:=by
 unfold qL at h
 split at h
 .exact⟨_,rfl,aA h⟩
 .cases h
def aQ5 (ps:yH):Prop:=∀ params,qL params=some ps->∀ qual   body   scope  (clos:yB)  doc pm   c'   ctv  (us:yG),us.length=ps.length->d4 (bv "<lambda>" qual params body scope clos pm (.ref c') ctv) ⟨us,[]⟩=pure (ps.zip us) /\
 ∀ nm rp ,d4 (cT nm qual params [.Return (some body) rp] scope clos .none .none doc pm none (.ref c') ctv) ⟨us,[]⟩=pure (ps.zip us)
noncomputable def be3 (ps fr:yH)(sc:Scope):Bool:=decide (sc.kind=.function)&&!sc.isCoroutine&&!sc.isGenerator&&decide ((ps++fr).Nodup)&&(ps.all λ x=>decide (sc.names.lookup x=some .local)||decide (sc.names.lookup x=some .cell))&&(fr.all λ x=>decide (sc.names.lookup x=some .free))&&(sc.names.all λ y=>!decide (y.2=.cell)||decide (sc.names.lookup y.1=some .cell))
theorem aX6 (h:be3 ps fr sc=true):LamScope (ps++fr) ps fr sc:=by
 unfold be3 at h
 simp only[ak,decide_eq_true_eq,gL,aZ,b8]at h
 obtain⟨⟨⟨⟨⟨⟨Z,Cc⟩,Y⟩,h4⟩,J⟩,G⟩,h7⟩:=h
 exact⟨Z,Cc,Y,h4,rfl,J,G,λ y hy e=>by
  rcases h7 y hy with z|z
  .rw[e]at z;simp at z
  .exact z⟩
noncomputable def bZ2 (scope sc:Scope):Bool:=scope.names.all λ y=>!decide (scope.names.lookup y.1=some .free)||decide (sc.names.lookup y.1=some .cell)
theorem bp4 (h:bZ2 scope sc=true):∀ x,scope.names.lookup x=some .free->sc.names.lookup x=some .cell:=λ x hx=>by
 have:=aZ.mp h (x,.free) (aF hx)
 simp only[b8,gL,decide_eq_false_iff_not,decide_eq_true_eq]at this
 rcases this with z|z
 .exact absurd hx z
 .exact z
noncomputable def lkB (sc:Scope)(N:yH)(caps:List Nat)(params:bh)(body:Expr)(scope:Scope)(t:nO×List Str×List Str):Bool :=
 decide (qL params=some t.2.1)&&decide (caps.map (λ j=>N[j]?)=t.2.2.map some)&&lamCheck scope sc&&bZ2 scope sc&&be3 t.2.1 t.2.2 scope&&decide (t.2.1.length=t.1.ps)&&decide (t.2.2.length=t.1.cs)&&mE (ck0 (t.2.1++t.2.2) scope) t.1.body body
noncomputable def lkG (f:Str)(sc:Scope)(N:yH)(tab:List (String×nO×List Str×List Str))(id:String)(caps:List Nat)(E:Expr):Bool:=match tab.lookup id,E with
 | some t,.Lambda params body scope _=>decide (sfx f = "<lambda>")&&lkB sc N caps params body scope t
 | some t,.NamedExpr (.Name nm _) (.Lambda params body scope p1) p2=>decide (sfx f=nm)&&decide (p1=p2)&&lkB sc N caps params body scope t
 | _,_=>false
theorem bx5 {K}(hf:f∈names)(G:fd.code=.ref ((bq K f).getD (0,0)).1)(a0:∀ y∈sc.names,y.2=.cell->sc.names.lookup y.1=some .cell)
  (J:∀ id t,tab.lookup id=some t->P.lm id=some t.1/\aQ5 t.2.1):bM7 (bg2 names P K) (bx3 names K) f sc N fd (lkG f sc N tab):=by
 intro id z E h
 have Cc:∀ t   params   body   scope   Z ,tab.lookup id=some t->lkB sc N z params body scope t=true->(match Z with|none => "<lambda>" | some p=>p.1)=sfx f ->
   LkAt (bg2 names P K) (bx3 names K) f sc N fd id z params body scope ((bq K f).getD (0,0)).1 ((bq K f).getD (0,0)).2 ⟨f ++ ".<locals>."++sfx f,params,body,scope,t.2.1,t.2.2,Z⟩:=λ t params body scope Z e h hs=>by
  obtain⟨L,ps,fr⟩:=t
  unfold lkB at h
  simp only[ak,decide_eq_true_eq]at h
  obtain⟨⟨⟨⟨⟨⟨⟨h1,h2⟩,h3⟩,h4⟩,h5⟩,h6⟩,h7⟩,h8⟩:=h
  obtain⟨hL,hB⟩:=J id _ e
  obtain⟨args,rfl,a1⟩:=je h1
  have Y:=by have:=congrArg kE h2;simpa using this.symm
  have S:=aX6 h5
  refine⟨G,aK.mpr ⟨f,hf,rfl⟩,h3,bp4 h4,a0,λ env=>rfl,⟨L,hL,⟨S,h6,h7,h8,h1,λ a3 a4 pm c' a5 us a2=>hB _ h1 _ _ _ _ _ _ _ _ _ a2⟩⟩,?_,rfl,rfl,rfl,Y,λ i j x e1 e2=>?_,S.frs,aK.mpr ⟨f,hf,rfl⟩⟩
  .skip
   unfold LamI.own
   rw[<-hs]<;>rfl
  .have e3:(z.map (λ j=>N[j]?))[i]?=some (N[j]?):=by rw[ay,e1];rfl
   rw[h2,ay,e2]at e3
   exact(aA e3).symm
 unfold lkG at h
 split at h
 case h_3=>cases h
 .rename_i t params body scope pos e
  rw[ak]at h
  exact⟨_,_,params,body,scope,pos,_,rfl,Cc t params body scope none e h.2 (of_decide_eq_true h.1).symm⟩
 .rename_i t Z rp params body scope p1 p2 e
  rw[ak,ak]at h
  have ep:=of_decide_eq_true h.1.2
  subst ep
  exact⟨_,_,params,body,scope,p1,_,rfl,Cc t params body scope (some (Z,rp)) e h.2 (of_decide_eq_true h.1.1).symm⟩
theorem bd7 {K}:bM7 (bg2 names P K) (bx3 names K) f sc N y (λ _ _ _=>false):=λ _ _ _ h=>by cases h
theorem cg5 {K}:∀ id J,(bg2 names P K).lg id J->∃ L,P.lm id=some L/\LamGood J L:=λ _ _ h=>h
theorem ci1 {P:mD}{tab:List (String×nO×List Str×List Str)}(h:∀ p∈tab,P.lm p.1=some p.2.1/\aQ5 p.2.2.1):∀ id t,tab.lookup id=some t->P.lm id=some t.1/\aQ5 t.2.1:=by
 induction tab with
 | nil=>intro id t e;cases e
 | cons y l ih =>
  intro id t e
  rw[be]at e
  cases q:id==y.1 with
  | true =>
   rw[q]at e
   cases e
   rw[eq_of_beq q]
   exact h y (az ..)
  | false =>
   rw[q]at e
   exact ih (λ p hp=>h p (ar _ hp)) id t e
def cj5 (K:ah)(n:Str)(st:Stmt):Prop:=∃(f:Addr) (od an:yI) (sl:yE) (oc kV dc pm cd ct:Value),fZ K bE n=some (some (.ref f)) /\
 K.lookup f=some ⟨oc,od,.func (dD n n (defArgs st) (zD st) (defScope st) .none kV dc pm an cd ct),sl⟩/\gk K cd n=true/\cH K (.ref f)=true
def cn7 (n:Str)(st:Stmt)(ps:yH):Prop:=∀ kV doc pm (an:yI) cdv ct (us:yG),us.length=ps.length->d4 (dD n n (defArgs st) (zD st) (defScope st) .none kV doc pm an cdv ct) ⟨us,[]⟩=pure (ps.zip us)
theorem bd0 {Q:List Value->Prop}(h:Q [])(us:yG)(hl:us.length=0):Q us:=by
 cases us with
 | nil=>exact h
 | cons _ _=>cases hl
theorem bdS {Q:List Value->Prop}(h:∀ a us,us.length=k->Q (a::us))(us:yG)(hl:us.length=k+1):Q us:=by
 cases us with
 | nil=>cases hl
 | cons a us=>exact h a us (lH hl)
theorem bd1 {Q:List Value->Prop}(h:∀ a,Q [a]):∀ us:List Value,us.length=1->Q us:=bdS λ a=>bd0 (h a)
theorem bd2 {Q:List Value->Prop}(h:∀ a b,Q [a,b]):∀ us:List Value,us.length=2->Q us:=bdS λ a=>bd1 (h a)
theorem bd3 {Q:List Value->Prop}(h:∀ a b c,Q [a,b,c]):∀ us:List Value,us.length=3->Q us:=bdS λ a=>bd2 (h a)
def DTB (names:yH)(P:mD)(n:String)(pc vc:Nat)(m:Ck->List Stmt->Bool)(st:Stmt):Prop:=∃ N ps,FnScope N ps (defScope st)/\ps.length=pc/\N.length=pc+vc/\cn7 n st ps/\(m ⟨N,defScope st,λ _ _ _=>false⟩ (zD st)=true \/
 ((n:Str)∈names/\∃ tab,m ⟨N,defScope st,lkG n (defScope st) N tab⟩ (zD st)=true/\(∀ y∈(defScope st).names,y.2=.cell->(defScope st).names.lookup y.1=some .cell)/\∀ p∈tab,P.lm p.1=some p.2.1/\aQ5 p.2.2.1))
def DT (names:yH)(P:mD)(n:String)(d:nI)(st:Stmt):Prop:=DTB names P n d.ps d.vs (λ ck S=>mSs ck d.body S) st
theorem bh1 {names:yH}{P:mD}{K:ah}{h:Heap}{mg:yC}{n:String}{Y z:Nat}{m:Ck->List Stmt->Bool}{st:Stmt}(X:K.In h)(G:h.Ns bE mg)(hT:∀ x∈names,(bq K x).isSome=true)(hD:cj5 K n st)(hd:DTB names P n Y z m st):GoodB (bg2 names P K) (bx3 names K) mg n Y z m:=by
 obtain⟨f,od,an,sl,oc,kV,dc,pm,cd,ct,a,l,c,k⟩:=hD
 obtain⟨N,ps,Z,J,Cc,h4,y⟩:=hd
 have F:=bt6 (st:=st) l c k
 have D:DefAt K mg n st ps f _:=⟨F,fA X G a,F.binds h4⟩
 rcases y with y|⟨hn,tab,y,h6,h7⟩
 .exact⟨_,_,_,_,_,_,D,Z,J,Cc,y,bd7⟩
 .exact⟨_,_,_,_,_,_,D,Z,J,Cc,y,bx5 hn (PySem.W.law_code X G (at8 (hT _ hn)) (fA X G a) (X _ _ l) rfl) h6 (ci1 h7)⟩
theorem good_of {K}{mg}{n:String}{st}(X:K.In h)(G:h.Ns bE mg)(hT:∀ x∈names,(bq K x).isSome=true)(hD:cj5 K n st)(hd:DT names P n d st):Good (bg2 names P K) (bx3 names K) mg n d:=bh1 X G hT hD hd
end L2
end
noncomputable section
namespace DV
noncomputable def aw3:Df:=⟨"_law_bag",2,3,(.cons (.asg (.one 2) (.cst (.int 0))) (.cons (.ite (.cmp .lt (.var 1) (.bi .len (.cons (.var 0) .nil))) (.cons (.asg (.one 2) (.bi .abs (.cons (.ix (.var 0) (.var 1)) .nil))) .nil) .nil) (.cons (.asg (.one 3) (.bin .add (.bin .mul (.cst (.int 7919)) (.var 1)) (.cst (.int 17)))) (.cons (.for_ (.one 4) (.rng1 (.bi .min2 (.cons (.bi .len (.cons (.var 0) .nil)) (.cons (.cst (.int 60)) .nil)))) (.cons (.asg (.one 3) (.bin .mod (.bin .add (.bin .add (.bin .mul (.var 3) (.cst (.int 48271))) (.bin .mod (.ix (.var 0) (.var 4)) (.cst (.int 2147483647)))) (.var 4)) (.cst (.int 2147483629)))) .nil)) (.cons (.ite (.cmp .lt (.var 2) (.bin .pow (.cst (.int 10)) (.cst (.int 18)))) (.cons (.asg (.one 2) (.cst (.int 0))) .nil) .nil) (.cons (.ret (.lst (.cons (.var 2) (.cons (.var 3) .nil)))) .nil))))))⟩
noncomputable def ac8:Df:=⟨"_law_take",2,3,(.cons (.ite (.cmp .gt (.ix (.var 0) (.cst (.int 0))) (.cst (.int 0))) (.cons (.asg (.one 2) (.bin .mod (.ix (.var 0) (.cst (.int 0))) (.var 1))) (.cons (.setIx (.var 0) (.cst (.int 0)) (.bin .fdiv (.ix (.var 0) (.cst (.int 0))) (.var 1))) (.cons (.ret (.var 2)) .nil))) .nil) (.cons (.asg (.one 3) (.cst (.int 0))) (.cons (.asg (.one 4) (.cst (.int 1))) (.cons (.whl (.cmp .lt (.var 4) (.var 1)) (.cons (.setIx (.var 0) (.cst (.int 1)) (.bin .mod (.bin .add (.bin .mul (.ix (.var 0) (.cst (.int 1))) (.cst (.int 48271))) (.cst (.int 7919))) (.cst (.int 2147483647)))) (.cons (.asg (.one 3) (.bin .add (.bin .mul (.var 3) (.cst (.int 1073741789))) (.bin .mod (.bin .mul (.bin .fdiv (.ix (.var 0) (.cst (.int 1))) (.cst (.int 8))) (.cst (.int 69621))) (.cst (.int 1073741789))))) (.cons (.asg (.one 4) (.bin .mul (.var 4) (.cst (.int 1073741789)))) .nil)))) (.cons (.ret (.bin .mod (.var 3) (.var 1))) .nil)))))⟩
noncomputable def ad5:Df:=⟨"_law_rooms",2,1,(.cons (.asg (.one 2) (.call "_law_take" (.ex (.var 0) (.ex (.bin .shl (.cst (.int 1)) (.var 1)) .nil)))) (.cons (.ret (.mk .tuple (.compIf (.one 0) (.rng1 (.var 1)) (.cmp .eq (.bin .mod (.bin .fdiv (.var 1) (.bin .shl (.cst (.int 1)) (.var 0))) (.cst (.int 2))) (.cst (.int 1))) (.var 0) [none,some 2]))) .nil))⟩
noncomputable def ac5:Df:=⟨"_law_machine",1,5,(.cons (.asg (.one 1) (.bin .add (.cst (.int 1)) (.call "_law_take" (.ex (.var 0) (.ex (.cst (.int 3)) .nil))))) (.cons (.asg (.one 2) (.bin .add (.cst (.int 1)) (.call "_law_take" (.ex (.var 0) (.ex (.cst (.int 5)) .nil))))) (.cons (.asg (.one 3) (.call "_law_take" (.ex (.var 0) (.ex (.cst (.int 13)) .nil)))) (.cons (.ite (.cmp .eq (.call "_law_take" (.ex (.var 0) (.ex (.cst (.int 8)) .nil))) (.cst (.int 7))) (.cons (.asg (.one 3) (.call "_law_take" (.ex (.var 0) (.ex (.cst (.int 76)) .nil)))) .nil) .nil) (.cons (.asg (.one 4) (.lst .nil)) (.cons (.for_ (.one 5) (.rng1 (.var 3)) (.cons (.ex (.meth .append (.var 4) (.cons (.tup (.cons (.call "_law_take" (.ex (.var 0) (.ex (.var 2) .nil))) (.cons (.ix (.cst (.str [97,98,99])) (.call "_law_take" (.ex (.var 0) (.ex (.var 1) .nil)))) (.cons (.call "_law_take" (.ex (.var 0) (.ex (.var 2) .nil))) (.cons (.call "_law_take" (.ex (.var 0) (.ex (.cst (.int 4)) .nil))) .nil))))) .nil))) .nil)) (.cons (.ret (.tup (.cons (.var 1) (.cons (.var 2) (.cons (.call "_law_rooms" (.ex (.var 0) (.ex (.var 2) .nil))) (.cons (.call "_law_rooms" (.ex (.var 0) (.ex (.var 2) .nil))) (.cons (.mk .tuple (.seq (.var 4))) .nil))))))) .nil)))))))⟩
noncomputable def ai3:Df:=⟨"_law_word",3,2,(.cons (.asg (.one 3) (.cst (.str []))) (.cons (.for_ (.one 4) (.rng1 (.call "_law_take" (.ex (.var 0) (.ex (.bin .add (.var 2) (.cst (.int 1))) .nil)))) (.cons (.asg (.one 3) (.bin .add (.var 3) (.ix (.cst (.str [97,98,99])) (.call "_law_take" (.ex (.var 0) (.ex (.var 1) .nil)))))) .nil)) (.cons (.ret (.var 3)) .nil)))⟩
noncomputable def ab5:Df:=⟨"rooms_of",1,0,(.cons (.ret (.ix (.var 0) (.cst (.int 1)))) .nil)⟩
noncomputable def ab3:Df:=⟨"begins_of",1,0,(.cons (.ret (.ix (.var 0) (.cst (.int 2)))) .nil)⟩
noncomputable def ac0:Df:=⟨"ends_of",1,0,(.cons (.ret (.ix (.var 0) (.cst (.int 3)))) .nil)⟩
noncomputable def aa8:Df:=⟨"doors_of",1,0,(.cons (.ret (.ix (.var 0) (.cst (.int 4)))) .nil)⟩
noncomputable def af1:Df:=⟨"tolls",2,4,(.cons (.asg (.one 2) (.dic .nil .nil)) (.cons (.for_ (.one 3) (.seq (.call "begins_of" (.ex (.var 0) .nil))) (.cons (.setIx (.var 2) (.var 3) (.dic (.cons (.cst (.int 0)) .nil) (.cons (.cst (.bl true)) .nil))) .nil)) (.cons (.for_ (.one 4) (.seq (.var 1)) (.cons (.asg (.one 2) (.call "paid_led_on" (.ex (.var 0) (.ex (.var 2) (.ex (.var 4) .nil))))) .nil)) (.cons (.asg (.one 5) (.dic .nil .nil)) (.cons (.for_ (.one 3) (.seq (.call "ends_of" (.ex (.var 0) .nil))) (.cons (.ex (.upd (.var 5) (.gtd (.var 2) (.var 3) (.dic .nil .nil)))) .nil)) (.cons (.ret (.srtD (.var 5))) .nil))))))⟩
noncomputable def ab2:Df:=⟨"paid_led_on",3,7,(.cons (.asg (.one 3) (.dic .nil .nil)) (.cons (.for_ (.tup [4,5,6,7]) (.seq (.call "doors_of" (.ex (.var 0) .nil))) (.cons (.ite (.and (.cmp .eq (.var 5) (.var 2)) (.cmp .isin (.var 4) (.var 1))) (.cons (.asg (.one 8) (.sdf (.var 3) (.var 6) (.dic .nil .nil))) (.cons (.forK (.one 9) (.ix (.var 1) (.var 4)) (.cons (.setIx (.var 8) (.bin .add (.var 9) (.var 7)) (.cst (.bl true))) .nil)) .nil)) .nil) .nil)) (.cons (.ret (.var 3)) .nil)))⟩
noncomputable def ak7:Df:=⟨"road",2,4,(.cons (.asg (.one 2) (.dic .nil .nil)) (.cons (.for_ (.one 3) (.seq (.call "begins_of" (.ex (.var 0) .nil))) (.cons (.setIx (.var 2) (.var 3) (.tup (.cons (.cst (.int 0)) (.cons (.lst .nil) .nil)))) .nil)) (.cons (.for_ (.one 4) (.seq (.var 1)) (.cons (.asg (.one 2) (.call "best_led_on" (.ex (.var 0) (.ex (.var 2) (.ex (.var 4) .nil))))) .nil)) (.cons (.asg (.one 5) (.mk .list (.compIf (.one 0) (.seq (.call "ends_of" (.ex (.var 0) .nil))) (.cmp .isin (.var 0) (.var 1)) (.ix (.var 1) (.var 0)) [none,some 2]))) (.cons (.ite (.cmp .eq (.var 5) (.lst .nil)) (.cons (.ret (.cst .non)) .nil) .nil) (.cons (.ret (.ix (.minK "road.0" (.var 5) 0) (.cst (.int 1)))) .nil))))))⟩
noncomputable def an9:Lm:=⟨"road.0",1,0,(.ix (.var 0) (.cst (.int 0)))⟩
noncomputable def ab1:Df:=⟨"best_led_on",3,6,(.cons (.asg (.one 3) (.dic .nil .nil)) (.cons (.for_ (.tup [4,5]) (.enum (.seq (.call "doors_of" (.ex (.var 0) .nil)))) (.cons (.asg (.one 6) (.ix (.var 5) (.cst (.int 0)))) (.cons (.asg (.one 7) (.ix (.var 5) (.cst (.int 2)))) (.cons (.ite (.or (.cmp .ne (.ix (.var 5) (.cst (.int 1))) (.var 2)) (.cmp .notin (.var 6) (.var 1))) (.cons .cont .nil) .nil) (.cons (.asg (.one 8) (.bin .add (.ix (.ix (.var 1) (.var 6)) (.cst (.int 0))) (.ix (.var 5) (.cst (.int 3))))) (.cons (.ite (.or (.cmp .notin (.var 7) (.var 3)) (.cmp .lt (.var 8) (.ix (.ix (.var 3) (.var 7)) (.cst (.int 0))))) (.cons (.setIx (.var 3) (.var 7) (.tup (.cons (.var 8) (.cons (.bin .add (.ix (.ix (.var 1) (.var 6)) (.cst (.int 1))) (.lst (.cons (.var 4) .nil))) .nil)))) .nil) .nil) .nil)))))) (.cons (.ret (.var 3)) .nil)))⟩
noncomputable def ai1:Df:=⟨"_law_cost",3,4,(.cons (.ite (.or (.not (.bi .isList (.cons (.var 2) .nil))) (.cmp .ne (.bi .len (.cons (.var 2) .nil)) (.bi .len (.cons (.var 1) .nil)))) (.cons (.ret (.cst .non)) .nil) .nil) (.cons (.asg (.one 3) (.mk .list (.comp (.one 0) (.seq (.ix (.var 0) (.cst (.int 2)))) (.var 0) [none]))) (.cons (.asg (.one 4) (.cst (.int 0))) (.cons (.for_ (.one 5) (.rng1 (.bi .len (.cons (.var 1) .nil))) (.cons (.ite (.or (.not (.bi .isInt (.cons (.ix (.var 2) (.var 5)) .nil))) (.or (.bi .isBool (.cons (.ix (.var 2) (.var 5)) .nil)) (.not (.chain .le .lt (.cst (.int 0)) (.ix (.var 2) (.var 5)) (.bi .len (.cons (.ix (.var 0) (.cst (.int 4))) .nil)))))) (.cons (.ret (.cst .non)) .nil) .nil) (.cons (.asg (.one 6) (.ix (.ix (.var 0) (.cst (.int 4))) (.ix (.var 2) (.var 5)))) (.cons (.ite (.or (.cmp .notin (.ix (.var 6) (.cst (.int 0))) (.var 3)) (.cmp .ne (.ix (.var 6) (.cst (.int 1))) (.ix (.var 1) (.var 5)))) (.cons (.ret (.cst .non)) .nil) .nil) (.cons (.asg (.one 3) (.lst (.cons (.ix (.var 6) (.cst (.int 2))) .nil))) (.cons (.asg (.one 4) (.bin .add (.var 4) (.ix (.var 6) (.cst (.int 3))))) .nil)))))) (.cons (.ite (.cmp .eq (.bi .len (.cons (.mk .list (.compIf (.one 0) (.seq (.var 3)) (.cmp .isin (.var 0) (.ix (.var 1) (.cst (.int 3)))) (.var 0) [none,some 0])) .nil)) (.cst (.int 0))) (.cons (.ret (.cst .non)) .nil) .nil) (.cons (.ret (.var 4)) .nil))))))⟩
noncomputable def ad3:Df:=⟨"grid",2,2,(.cons (.asg (.one 2) (.lst .nil)) (.cons (.for_ (.one 3) (.rng1 (.var 0)) (.cons (.ex (.meth .append (.var 2) (.cons (.mk .tuple (.comp (.one 0) (.rng1 (.var 0)) (.callV 1 (.cons (.var 2) (.cons (.var 0) .nil))) [none,some 1,some 3])) .nil))) .nil)) (.cons (.ret (.mk .tuple (.seq (.var 2)))) .nil)))⟩
noncomputable def ac3:Df:=⟨"least",1,0,(.cons (.ret (.mkD .min (.compIf (.one 0) (.seq (.var 0)) (.notN (.var 0)) (.var 0) [none]) (.cst .non))) .nil)⟩
noncomputable def ac6:Df:=⟨"added",2,0,(.cons (.ite (.or (.isN (.var 0)) (.isN (.var 1))) (.cons (.ret (.cst .non)) .nil) .nil) (.cons (.ret (.bin .add (.var 0) (.var 1))) .nil))⟩
noncomputable def ad0:Df:=⟨"plain",1,0,(.cons (.ret (.callC "grid" (.ex (.var 0) (.lam "plain.0" [] .nil)))) .nil)⟩
noncomputable def ab4:Lm:=⟨"plain.0",2,0,(.ite (.cmp .eq (.var 0) (.var 1)) (.cst (.int 0)) (.cst .non))⟩
noncomputable def ab8:Df:=⟨"product",2,1,(.cons (.asg (.one 2) (.bi .len (.cons (.var 0) .nil))) (.cons (.ret (.callC "grid" (.ex (.var 2) (.lam "product.0" [2,0,1] .nil)))) .nil))⟩
noncomputable def aa9:Lm:=⟨"product.0",2,3,(.call "least" (.ex (.mk .list (.comp (.one 0) (.rng1 (.var 2)) (.call "added" (.ex (.ix (.ix (.var 1) (.var 2)) (.var 0)) (.ex (.ix (.ix (.var 3) (.var 0)) (.var 4)) .nil))) [none,some 3,some 0,some 4,some 1])) .nil))⟩
noncomputable def ac4:Df:=⟨"_law_product",2,6,(.cons (.asg (.one 2) (.lst .nil)) (.cons (.for_ (.one 3) (.rng1 (.bi .len (.cons (.var 0) .nil))) (.cons (.asg (.one 4) (.tup .nil)) (.cons (.for_ (.one 5) (.rng1 (.bi .len (.cons (.var 0) .nil))) (.cons (.asg (.one 6) (.cst .non)) (.cons (.for_ (.one 7) (.rng1 (.bi .len (.cons (.var 0) .nil))) (.cons (.ite (.and (.notN (.ix (.ix (.var 0) (.var 3)) (.var 7))) (.notN (.ix (.ix (.var 1) (.var 7)) (.var 5)))) (.cons (.ite (.or (.isN (.var 6)) (.cmp .lt (.bin .add (.ix (.ix (.var 0) (.var 3)) (.var 7)) (.ix (.ix (.var 1) (.var 7)) (.var 5))) (.var 6))) (.cons (.asg (.one 6) (.bin .add (.ix (.ix (.var 0) (.var 3)) (.var 7)) (.ix (.ix (.var 1) (.var 7)) (.var 5)))) .nil) .nil) .nil) .nil) .nil)) (.cons (.asg (.one 4) (.bin .add (.var 4) (.tup (.cons (.var 6) .nil)))) .nil)))) (.cons (.ex (.meth .append (.var 2) (.cons (.var 4) .nil))) .nil)))) (.cons (.ret (.mk .tuple (.seq (.var 2)))) .nil)))⟩
noncomputable def ac9:Df:=⟨"_law_same",2,2,(.cons (.ite (.or (.not (.bi .isTup (.cons (.var 0) .nil))) (.cmp .ne (.bi .len (.cons (.var 0) .nil)) (.bi .len (.cons (.var 1) .nil)))) (.cons (.ret (.cst (.bl false))) .nil) .nil) (.cons (.for_ (.one 2) (.rng1 (.bi .len (.cons (.var 1) .nil))) (.cons (.ite (.or (.not (.bi .isTup (.cons (.ix (.var 0) (.var 2)) .nil))) (.cmp .ne (.bi .len (.cons (.ix (.var 0) (.var 2)) .nil)) (.bi .len (.cons (.var 1) .nil)))) (.cons (.ret (.cst (.bl false))) .nil) .nil) (.cons (.for_ (.one 3) (.seq (.ix (.var 0) (.var 2))) (.cons (.ite (.and (.notN (.var 3)) (.or (.not (.bi .isInt (.cons (.var 3) .nil))) (.bi .isBool (.cons (.var 3) .nil)))) (.cons (.ret (.cst (.bl false))) .nil) .nil) .nil)) .nil))) (.cons (.ret (.cmp .eq (.var 0) (.var 1))) .nil)))⟩
noncomputable def aa6:Df:=⟨"letter_table",2,1,(.cons (.und 2) (.cons (.ret (.callC "grid" (.ex (.call "rooms_of" (.ex (.var 0) .nil)) (.lam "letter_table.least_fee" [0,1] .nil)))) .nil))⟩
noncomputable def aa2:Lm:=⟨"letter_table.least_fee",2,2,(.call "least" (.ex (.mk .list (.compIf (.tup [0,1,2,3]) (.seq (.call "doors_of" (.ex (.var 2) .nil))) (.cmp .eq (.tup (.cons (.var 0) (.cons (.var 1) (.cons (.var 2) .nil)))) (.tup (.cons (.var 4) (.cons (.var 5) (.cons (.var 6) .nil))))) (.var 3) [none,none,none,none,some 0,some 3,some 1])) .nil))⟩
noncomputable def ab0:Df:=⟨"word_table",2,3,(.cons (.asg (.one 2) (.dic .nil .nil)) (.cons (.asg (.one 3) (.call "plain" (.ex (.call "rooms_of" (.ex (.var 0) .nil)) .nil))) (.cons (.for_ (.one 4) (.seq (.var 1)) (.cons (.ite (.cmp .notin (.var 4) (.var 2)) (.cons (.setIx (.var 2) (.var 4) (.call "letter_table" (.ex (.var 0) (.ex (.var 4) .nil)))) .nil) .nil) (.cons (.asg (.one 3) (.call "product" (.ex (.var 3) (.ex (.ix (.var 2) (.var 4)) .nil)))) .nil))) (.cons (.ret (.var 3)) .nil))))⟩
noncomputable def aD8:Df:=⟨"_law_from_room",3,7,(.cons (.asg (.one 3) (.mk .list (.comp (.one 0) (.rng1 (.ix (.var 0) (.cst (.int 1)))) (.cst .non) [none]))) (.cons (.setIx (.var 3) (.var 2) (.cst (.int 0))) (.cons (.for_ (.one 4) (.seq (.var 1)) (.cons (.asg (.one 5) (.mk .list (.comp (.one 0) (.seq (.var 3)) (.cst .non) [none]))) (.cons (.for_ (.tup [6,7,8,9]) (.seq (.ix (.var 0) (.cst (.int 4)))) (.cons (.ite (.and (.cmp .eq (.var 7) (.var 4)) (.notN (.ix (.var 3) (.var 6)))) (.cons (.ite (.or (.isN (.ix (.var 5) (.var 8))) (.cmp .lt (.bin .add (.ix (.var 3) (.var 6)) (.var 9)) (.ix (.var 5) (.var 8)))) (.cons (.setIx (.var 5) (.var 8) (.bin .add (.ix (.var 3) (.var 6)) (.var 9))) .nil) .nil) .nil) .nil) .nil)) (.cons (.asg (.one 3) (.var 5)) .nil)))) (.cons (.ret (.mk .tuple (.seq (.var 3)))) .nil))))⟩
noncomputable def aY1:Df:=⟨"law",1,7,.nil⟩
noncomputable def aa3:Df:=⟨"at_begins_and_ends",2,2,(.cons (.asg (.one 2) (.lst .nil)) (.cons (.for_ (.one 3) (.seq (.call "begins_of" (.ex (.var 0) .nil))) (.cons (.ex (.ext (.var 2) (.comp (.one 0) (.seq (.call "ends_of" (.ex (.var 0) .nil))) (.ix (.ix (.var 1) (.var 2)) (.var 0)) [none,some 1,some 3]))) .nil)) (.cons (.ret (.var 2)) .nil)))⟩
noncomputable def ae4:Df:=⟨"price",2,0,(.cons (.ret (.call "least" (.ex (.call "at_begins_and_ends" (.ex (.var 0) (.ex (.call "word_table" (.ex (.var 0) (.ex (.var 1) .nil))) .nil))) .nil))) .nil)⟩
noncomputable def ac1:Df:=⟨"law",1,11,(.cons (.for_ (.one 1) (.rng1 (.bin .add (.bi .min2 (.cons (.bi .len (.cons (.var 0) .nil)) (.cons (.cst (.int 3)) .nil))) (.cst (.int 1)))) (.cons (.asg (.one 2) (.call "_law_bag" (.ex (.var 0) (.ex (.var 1) .nil)))) (.cons (.asg (.one 3) (.call "_law_machine" (.ex (.var 2) .nil))) (.cons (.asg (.one 4) (.call "_law_word" (.ex (.var 2) (.ex (.ix (.var 3) (.cst (.int 0))) (.ex (.cst (.int 10)) .nil))))) (.cons (.asg (.one 5) (.call "_law_word" (.ex (.var 2) (.ex (.ix (.var 3) (.cst (.int 0))) (.ex (.cst (.int 10)) .nil))))) (.cons (.asg (.one 6) (.call "word_table" (.ex (.var 3) (.ex (.bin .add (.var 4) (.var 5)) .nil)))) (.cons (.ite (.not (.call "_law_same" (.ex (.var 6) (.ex (.call "_law_product" (.ex (.call "word_table" (.ex (.var 3) (.ex (.var 4) .nil))) (.ex (.call "word_table" (.ex (.var 3) (.ex (.var 5) .nil))) .nil))) .nil)))) (.cons (.ret (.cst (.bl false))) .nil) .nil) (.cons (.asg (.one 7) (.lst .nil)) (.cons (.for_ (.one 8) (.seq (.ix (.var 3) (.cst (.int 2)))) (.cons (.asg (.one 7) (.bin .add (.var 7) (.mk .list (.compIf (.one 0) (.seq (.ix (.var 3) (.cst (.int 3)))) (.notN (.ix (.ix (.var 1) (.var 2)) (.var 0))) (.ix (.ix (.var 1) (.var 2)) (.var 0)) [none,some 6,some 8])))) .nil)) (.cons (.asg (.one 9) (.mkDs .min (.var 7) (.cst .non))) (.cons (.asg (.one 10) (.call "tolls" (.ex (.var 3) (.ex (.bin .add (.var 4) (.var 5)) .nil)))) (.cons (.asg (.one 11) (.call "road" (.ex (.var 3) (.ex (.bin .add (.var 4) (.var 5)) .nil)))) (.cons (.ite (.or (.cmp .ne (.call "price" (.ex (.var 3) (.ex (.bin .add (.var 4) (.var 5)) .nil))) (.var 9)) (.not (.bi .isList (.cons (.var 10) .nil)))) (.cons (.ret (.cst (.bl false))) .nil) .nil) (.cons (.ite (.isN (.var 9)) (.cons (.ite (.or (.cmp .ne (.var 10) (.lst .nil)) (.notN (.var 11))) (.cons (.ret (.cst (.bl false))) .nil) .nil) .nil) (.cons (.ite (.or (.cmp .ne (.slU (.var 10) (.cst (.int 1))) (.lst (.cons (.var 9) .nil))) (.cmp .ne (.call "_law_cost" (.ex (.var 3) (.ex (.bin .add (.var 4) (.var 5)) (.ex (.var 11) .nil)))) (.var 9))) (.cons (.ret (.cst (.bl false))) .nil) .nil) .nil)) .nil)))))))))))))) (.cons (.ret (.cst (.bl true))) .nil))⟩
noncomputable def ap2:Df:=⟨"sign_product",2,1,(.cons (.asg (.one 2) (.bi .len (.cons (.var 0) .nil))) (.cons (.ret (.callC "grid" (.ex (.var 2) (.lam "sign_product.0" [2,0,1] .nil)))) .nil))⟩
noncomputable def ah1:Lm:=⟨"sign_product.0",2,3,(.mk .min (.comp (.one 0) (.rng1 (.var 2)) (.bi .max2 (.cons (.ix (.ix (.var 1) (.var 2)) (.var 0)) (.cons (.ix (.ix (.var 3) (.var 0)) (.var 4)) .nil))) [none,some 3,some 0,some 4,some 1]))⟩
class Has (P:Pr)(d:Df):Prop where
 eq:P.df d.name=some d
class HasL (P:Pr)(d:Lm):Prop where
 eq:P.lm d.id=some d
noncomputable def fin (s:Sto)(c:Ct)(s':Sto):R D:=match c with
 | .ret v=>zr s v s'
 | .next _=>zr s .non s'
 | _=>.bad
@[simp] theorem fin_ret s v s' :fin s (.ret v) s'=zr s v s':=rfl
@[simp] theorem fin_next s U s' :fin s (.next U) s'=zr s .non s':=rfl
theorem zh d [h:Has P d](hl:l.length=d.ps) :
  (aa1 P (n+1)).call d.name l s=(exs (aa1 P n) d.body (l.map some++aC d.vs none) s).bind (fin s):=by
 simp only[aa1,h.eq,hl]
 rfl
theorem aD9 d [h:HasL P d](hl:l.length=d.ps)(hc:cs.length=d.cs)(hn:(D.nclL l&&D.nclL cs&&s.all O.ncl)=true) :
  (aa1 P (n+1)).lam d.id cs l s=(ev (aa1 P n) d.body (l.map some++cs.map some) s).bind (zr s):=by
 simp only[aa1,h.eq,hl,hc,hn,and_self,if_true]
theorem zU s t :as5 s (s++t)=true:=by
 unfold as5
 rw[aZ]
 intro i h
 rw[cb]at h
 rw[aQ h]
 simp
theorem bc3 s t r o (h:o.bnd s.length=true):as5 s (s.set r o++t)=true:=by
 unfold as5
 rw[aZ]
 intro i y
 rw[cb]at y
 rw[aQ (by rw[aU];exact y)]
 by_cases e:r=i
 .subst e;rw[aJ y];simp[h]
 .rw[aB e];simp
theorem zM (h:∀ n,d.bnd n=true)(y:∀ r,d≠.ref r):zr s d (s++t)=.ok d s:=by
 unfold zr
 rw[zU,if_pos rfl]
 cases d with
 | ref r=>exact absurd rfl (y r)
 | _=>simp[h]
theorem zA (h:∀ n,d.bnd n=true)(y:∀ r,d≠.ref r):zr s d s=.ok d s:=by
 have:=zM (s:=s) (t:=[]) h y
 rwa [bp]at this
theorem ay0 (h:∀ n,d.bnd n=true)(y:∀ r,d≠.ref r)(ho:o.bnd s.length=true):zr s d (s.set r o++t)=.ok d (s.set r o):=by
 unfold zr
 rw[bc3 s t r o ho,if_pos rfl]
 have e:(s.set r o++t).take s.length=s.set r o:=by rw[List.take_append_of_le_length (by simp),io (by simp)]
 cases d with
 | ref r=>exact absurd rfl (y r)
 | _=>simp only[h,if_true,e]
theorem qR (h:∀ n,d.bnd n=true)(y:∀ r,d≠.ref r)(ho:o.bnd s.length=true):zr s d (s.set r o)=.ok d (s.set r o):=by
 have:=ay0 (t:=[]) (r:=r) h y ho
 rwa [bp]at this
theorem ay3 { u:Sto}(ho:o.bnd s.length=true):zr s (.ref (s.length+t.length)) (s++(t++o::u))=.ok (.ref s.length) (s++[o]):=by
 unfold zr
 rw[zU,if_pos rfl]
 simp[ho]
@[simp] theorem az8 :zr s (.int i) s=.ok (.int i) s:=zA (λ _=>rfl) (by nofun)
@[simp] theorem bn9 :zr s (.bl i) s=.ok (.bl i) s:=zA (λ _=>rfl) (by nofun)
@[simp] theorem ao2 :zr s .non s=.ok .non s:=zA (λ _=>rfl) (by nofun)
@[simp] theorem bT3 :zr s (.str x) s=.ok (.str x) s:=zA (λ _=>rfl) (by nofun)
theorem qK :∀ {n} {U} {s},jk c g n U s≠.bad->jk c g (n+1) U s=jk c g n U s
 | 0,_,_,h=>absurd rfl h
 | n+1,U,s,h=>by
  rw[show jk c g (n+1+1) U s=tru (c U s) (λ b s=>if b then(g U s).bind λ y s=>match y with
   | .next U=>jk c g (n+1) U s|.cont U=>jk c g (n+1) U s|.brk U=>.ok (.next U) s|.ret d=>.ok (.ret d) s else .ok (.next U) s)from rfl]
  have e:jk c g (n+1) U s=tru (c U s) (λ b s=>if b then(g U s).bind λ y s=>match y with
   | .next U=>jk c g n U s|.cont U=>jk c g n U s|.brk U=>.ok (.next U) s|.ret d=>.ok (.ret d) s else .ok (.next U) s):=rfl
  rw[e]at h ⊢
  unfold tru at h ⊢
  cases hc:c U s with
  | exc _ _=>rfl
  | bad=>rfl
  | ok d s1 =>
   rw[hc]at h
   cases d with
   | bl b =>
    cases b with
    | false=>rfl
    | true =>
     simp only[R.bind_ok]at h ⊢
     cases hg:g U s1 with
     | exc _ _=>rfl
     | bad=>rfl
     | ok y s2 =>
      rw[hg]at h
      simp only[R.bind_ok]at h ⊢
      cases y with
      | next U'=>exact qK h
      | cont U'=>exact qK h
      | _=>rfl
   | _=>rfl
theorem qk (h:jk c g n U s≠.bad):∀ k,jk c g (n+k) U s=jk c g n U s
 | 0=>rfl
 | k+1=>by
  have e:=qk h k
  rw[<-Nat.add_assoc,qK (by rw[e];exact h),e]
theorem bY4 (h:jk c g n U s=.ok r t):whl c g U s=.ok r t:=by
 have hb:jk c g n U s≠.bad:=by rw[h];nofun
 have hx:∃ n,jk c g n U s≠.bad:=⟨n,hb⟩
 unfold whl
 rw[dif_pos hx]
 have z:=qk hx.choose_spec n
 have y:=qk hb hx.choose
 rw[<-z,ie,y,h]
theorem bm4 (hc:c U s=.ok (.bl true) s1)(hg:g U s1=.ok (.next U') s'):whl c g U s=whl c g U' s':=by
 have key:∀ n,jk c g (n+1) U s=jk c g n U' s':=λ n=>by
  show tru (c U s) _=_
  rw[hc,tru_bl,if_pos rfl,hg];rfl
 unfold whl
 by_cases hx:∃ n,jk c g n U' s'≠.bad
 .have hy:∃ n,jk c g n U s≠.bad:=⟨hx.choose+1,by rw[key];exact hx.choose_spec⟩
  rw[dif_pos hx,dif_pos hy]
  have y:=qk hy.choose_spec (hx.choose+1)
  have h:=qk (by rw[key];exact hx.choose_spec) hy.choose
  rw[<-y,ie,h,key]
 .have hy:¬ ∃ n,jk c g n U s≠.bad:=λ⟨n,hn⟩=>by
   cases n with
   | zero=>exact hn rfl
   | succ n=>exact hx ⟨n,by rw[<-key];exact hn⟩
  rw[dif_neg hx,dif_neg hy]
theorem bB2 (hc:c U s=.ok (.bl false) s1):whl c g U s=.ok (.next U) s1 :=
 bY4 (n:=1) (by show tru (c U s) _=_;rw[hc,tru_bl];rfl)
theorem qy (P:Nat->Env->Sto->Prop):∀ l k U s ,
  P k U s->(∀ j U s ,j<=l.length->P (k+j) U s->ok s=true)->(∀ j d U s ,l[j]?=some d->P (k+j) U s->∃ U' s',(g d U s=.ok (.next U') s'\/g d U s=.ok (.cont U') s')/\P (k+j+1) U' s') ->
  ∃ U' s',aC7 ok g l U s=.ok (.next U') s'/\P (k+l.length) U' s'
 | [],k,U,s,h,o,_=>⟨U,s,by show(if ok s then _ else _)=_;rw[if_pos (o 0 U s (aj _) h)],h⟩
 | d::l,k,U,s,h,o,t=>by
  have ho:=o 0 U s (dZ _) h
  obtain⟨U1,s1,hg,y⟩:=t 0 d U s rfl h
  obtain⟨U2,s2,e,z⟩:=qy P l (k+1) U1 s1 y (λ j U' s' hj hp=>o (j+1) U' s' (by simpa using hj) (by rwa [show k+(j+1)=k+1+j by lia])) λ j d' U' s' hj hp=>by
   have:=t (j+1) d' U' s' (by simpa using hj) (by rwa [show k+(j+1)=k+1+j by lia])
   rwa [show k+(j+1)+1=k+1+j+1 by lia]at this
  refine⟨U2,s2,?_,by rwa [aL,show k+(l.length+1)=k+1+l.length by lia]⟩
  show(if ok s then _ else _)=_
  rw[if_pos ho]
  rcases hg with hg|hg<;>(rw[hg];exact e)
noncomputable def Nx (Q:Env->Sto->Prop):R Ct->Prop
 | .ok (.next U) s=>Q U s
 | .ok (.cont U) s=>Q U s
 | _=>False
@[simp] theorem ck8 Q U s :Nx Q (.ok (.next U) s)=Q U s:=rfl
@[simp] theorem ch9 Q U s :Nx Q (.ok (.cont U) s)=Q U s:=rfl
theorem qE (e:r=.ok (.next U) s)(h:Q U s):Nx Q r:=by rw[e];exact h
theorem bt0 (e:r=.ok (.cont U) s)(h:Q U s):Nx Q r:=by rw[e];exact h
theorem Nx.out :∀ {r},Nx Q r->∃ U s,(r=.ok (.next U) s\/r=.ok (.cont U) s)/\Q U s
 | .ok (.next U) s,h=>⟨U,s,.inl rfl,h⟩
 | .ok (.cont U) s,h=>⟨U,s,.inr rfl,h⟩
 | .ok (.ret _) _,h=>h.elim
 | .ok (.brk _) _,h=>h.elim
 | .exc _ _,h=>h.elim
 | .bad,h=>h.elim
noncomputable def Tst (A B:Sto->Prop):R D->Prop
 | .ok (.bl false) s=>A s
 | .ok (.bl true) s=>B s
 | _=>False
@[simp] theorem bv4 A B b s :Tst A B (.ok (.bl b) s)=if b then B s else A s:=by cases b<;>rfl
theorem Tst.out :∀ {r},Tst A B r->(∃ s,r=.ok (.bl false) s/\A s)\/∃ s,r=.ok (.bl true) s/\B s
 | .ok (.bl false) s,h=>.inl ⟨s,rfl,h⟩
 | .ok (.bl true) s,h=>.inr ⟨s,rfl,h⟩
 | .ok .non _,h=>h.elim
 | .ok (.int _) _,h=>h.elim
 | .ok (.str _) _,h=>h.elim
 | .ok (.tup _) _,h=>h.elim
 | .ok (.ref _) _,h=>h.elim
 | .ok (.fn _) _,h=>h.elim
 | .ok (.clo _ _) _,h=>h.elim
 | .exc _ _,h=>h.elim
 | .bad,h=>h.elim
theorem bn7 (hc:c U s=.ok (.bl true) s1)(hg:g U s1=.ok (.cont U') s'):whl c g U s=whl c g U' s':=by
 have key:∀ n,jk c g (n+1) U s=jk c g n U' s':=λ n=>by
  show tru (c U s) _=_
  rw[hc,tru_bl,if_pos rfl,hg];rfl
 unfold whl
 by_cases hx:∃ n,jk c g n U' s'≠.bad
 .have hy:∃ n,jk c g n U s≠.bad:=⟨hx.choose+1,by rw[key];exact hx.choose_spec⟩
  rw[dif_pos hx,dif_pos hy]
  have y:=qk hy.choose_spec (hx.choose+1)
  have h:=qk (by rw[key];exact hx.choose_spec) hy.choose
  rw[<-y,ie,h,key]
 .have hy:¬ ∃ n,jk c g n U s≠.bad:=λ⟨n,hn⟩=>by
   cases n with
   | zero=>exact hn rfl
   | succ n=>exact hx ⟨n,by rw[<-key];exact hn⟩
  rw[dif_neg hx,dif_neg hy]
theorem ca5 (P:Nat->Env->Sto->Prop)(Q:Env->Sto->Prop)
  (step:∀ k U s,P k U s->Tst (λ s1=>Q U s1) (λ s1=>Nx (λ U' s'=>∃ y,y<k/\P y U' s') (g U s1)) (c U s)) :
  ∀ k U s ,P k U s->∃ U' s',whl c g U s=.ok (.next U') s'/\Q U' s':=by
 intro k
 induction k using Nat.strongRecOn with
 | _ k ih =>
  intro U s h
  rcases(step k U s h).out with⟨s1,hc,hq⟩|⟨s1,hc,hn⟩
  .exact⟨U,s1,bB2 hc,hq⟩
  .obtain⟨U',s',hg,y,hk,hp⟩:=hn.out
   rcases hg with hg|hg
   .rw[bm4 hc hg];exact ih y hk U' s' hp
   .rw[bn7 hc hg];exact ih y hk U' s' hp
theorem bh5 {Ww:R α->Prop}(P:Nat->Env->Sto->Prop)(Q:Env->Sto->Prop) k (h:P k U s)
  (step:∀ k U s,P k U s->Tst (λ s1=>Q U s1) (λ s1=>Nx (λ U' s'=>∃ y,y<k/\P y U' s') (g U s1)) (c U s))
  (z:∀ U' s',Q U' s'->Ww (f (.next U') s')):Ww ((whl c g U s).bind f):=by
 obtain⟨U',s',e,q⟩:=ca5 P Q step k U s h
 rw[e]
 exact z U' s' q
theorem bp3 {x:R α}(P:Nat->Env->Sto->Prop)(Q:Env->Sto->Prop) k (h:P k U s)
  (step:∀ k U s,P k U s->Tst (λ s1=>Q U s1) (λ s1=>Nx (λ U' s'=>∃ y,y<k/\P y U' s') (g U s1)) (c U s))
  (z:∀ U' s',Q U' s'->f (.next U') s'=x):(whl c g U s).bind f=x:=bh5 (Ww:=(·=x)) P Q k h step z
theorem zK {Ww:R α->Prop}(P:Nat->Env->Sto->Prop)(h:P 0 U s)
  (o:∀(j:Nat) (U:Env) (s:Sto),j<=l.length->P j U s->ok s=true) (step:∀(j:Nat) (d:D) (U:Env) (s:Sto),l[j]?=some d->P j U s->Nx (P (j+1)) (g d U s))
  (y:∀ U' s',P l.length U' s'->Ww (f (.next U') s')):Ww ((aC7 ok g l U s).bind f):=by
 obtain⟨U',s',e,q⟩:=qy P l 0 U s h (λ j U s hj hp=>o j U s hj (by rwa [bz]at hp)) (λ j d U s hj hp=>by
  rw[bz]at hp ⊢
  exact(step j d U s hj hp).out)
 rw[e]
 rw[bz]at q
 exact y U' s' q
theorem aj9 {x:R α}(P:Nat->Env->Sto->Prop)(h:P 0 U s)
  (o:∀(j:Nat) (U:Env) (s:Sto),j<=l.length->P j U s->ok s=true) (step:∀(j:Nat) (d:D) (U:Env) (s:Sto),l[j]?=some d->P j U s->Nx (P (j+1)) (g d U s))
  (y:∀ U' s',P l.length U' s'->f (.next U') s'=x):(aC7 ok g l U s).bind f=x:=zK (Ww:=(·=x)) P h o step y
section
variable {F:Fns} {U:Env} {s:Sto}
@[simp] theorem jc i :ev F (.var i) U s=bg1 U i s:=rfl
@[simp] theorem ev_cst c :ev F (.cst c) U s=.ok c.d s:=rfl
@[simp] theorem ev_bin op a b :ev F (.bin op a b) U s=(ev F a U s).bind λ x s=>(ev F b U s).bind λ y s=>qF op x y s:=rfl
@[simp] theorem ev_not a :ev F (.not a) U s=tru (ev F a U s) λ b s=>.ok (.bl (!b)) s:=rfl
@[simp] theorem ev_cmp op a b :ev F (.cmp op a b) U s=(ev F a U s).bind λ x s=>(ev F b U s).bind λ y s=>z0 op x y s:=rfl
@[simp] theorem bg3 o p a b c :ev F (.chain o p a b c) U s=(ev F a U s).bind λ x s=>(ev F b U s).bind λ y s=>tru (z0 o x y s) λ k s=>if k then(ev F c U s).bind λ z s=>z0 p y z s else .ok (.bl false) s:=rfl
@[simp] theorem ev_isN a :ev F (.isN a) U s=(ev F a U s).bind λ x s=>.ok (.bl (decide (x=.non))) s:=rfl
@[simp] theorem ev_notN a :ev F (.notN a) U s=(ev F a U s).bind λ x s=>.ok (.bl (!decide (x=.non))) s:=rfl
@[simp] theorem ev_and a b :ev F (.and a b) U s=tru (ev F a U s) λ c s=>if c then tru (ev F b U s) λ c s=>.ok (.bl c) s else .ok (.bl false) s:=rfl
@[simp] theorem ev_or a b :ev F (.or a b) U s=tru (ev F a U s) λ c s=>if c then .ok (.bl true) s else tru (ev F b U s) λ c s=>.ok (.bl c) s:=rfl
@[simp] theorem ev_ite c a b :ev F (.ite c a b) U s=tru (ev F c U s) λ k s=>if k then ev F a U s else ev F b U s:=rfl
@[simp] theorem ev_tup es :ev F (.tup es) U s=(evs F es U s).bind λ l s=>.ok (.tup l) s:=rfl
@[simp] theorem ev_lst es :ev F (.lst es) U s=(evs F es U s).bind λ l s=>ad1 (.lst l) s:=rfl
@[simp] theorem ev_ix a b :ev F (.ix a b) U s=(ev F a U s).bind λ x s=>(ev F b U s).bind λ y s=>ixM x y s:=rfl
@[simp] theorem ev_call f as :ev F (.call f as) U s=(ai7 F as U s).bind λ l s=>F.call f l s:=rfl
@[simp] theorem au4 f as :ev F (.callC f as) U s=(ai7 F as U s).bind λ l s=>(F.call f l s).bind λ d s'=>if(d.ncl&&s'.all O.ncl)=true then .ok d s' else .bad:=rfl
@[simp] theorem ev_bi b es :ev F (.bi b es) U s=(evs F es U s).bind λ l s=>bi b l s:=rfl
@[simp] theorem ev_mk k it :ev F (.mk k it) U s=(evL F it U s).bind λ q s=>mk k q s:=rfl
@[simp] theorem ev_mkD k it d :ev F (.mkD k it d) U s=(evL F it U s).bind λ q s=>(ev F d U s).bind λ d s=>mkD k q d s:=rfl
@[simp] theorem bI7 id e j :ev F (.minK id e j) U s=(ev F e U s).bind λ x s=>(aJ7 x s).bind λ q s=>aG4 j q s:=rfl
@[simp] theorem ev_mkDs k e d :ev F (.mkDs k e d) U s=(ev F e U s).bind λ x s=>(ev F d U s).bind λ z s=>(aJ7 x s).bind λ q s=>mkD k q z s:=rfl
@[simp] theorem ev_meth m o es :ev F (.meth m o es) U s=(ev F o U s).bind λ x s=>(evs F es U s).bind λ l s=>meth m x l s:=rfl
@[simp] theorem bO3 o it :ev F (.ext o it) U s=(ev F o U s).bind λ x s=>(evL F it U s).bind λ q s=>bw0 x q s:=rfl
@[simp] theorem evs_nil:evs F .nil U s=.ok [] s:=rfl
@[simp] theorem evs_cons e es :evs F (.cons e es) U s=(ev F e U s).bind λ d s=>(evs F es U s).bind λ l s=>.ok (d::l) s:=rfl
@[simp] theorem evas_nil:ai7 F .nil U s=.ok [] s:=rfl
@[simp] theorem evas_ex e as :ai7 F (.ex e as) U s=(ev F e U s).bind λ d s=>(ai7 F as U s).bind λ l s=>.ok (d::l) s:=rfl
@[simp] theorem ce3 f as :ai7 F (.fn f as) U s=(ai7 F as U s).bind λ l s=>.ok (.fn f::l) s:=rfl
@[simp] theorem evI_seq e :evI F (.seq e) U s=(ev F e U s).bind λ d s=>ak4 d s:=rfl
@[simp] theorem cd5 es :evL F (.disp es) U s=evs F es U s:=rfl
@[simp] theorem evL_seq e :evL F (.seq e) U s=(ev F e U s).bind λ d s=>bs7 d s:=rfl
noncomputable def bH3 (x:D):M Sq:=λ s=>match x with|.int i=>if -Ww62<=i/\i<Ww62 then .ok ⟨qY 0 i,[]⟩ s else .bad|_=>.bad
@[simp] theorem evI_rng1 a :evI F (.rng1 a) U s=(ev F a U s).bind λ x s=>bH3 x s:=rfl
theorem zQ (h0:-Ww62<=i)(h:i<Ww62):bH3 (.int i) s=.ok ⟨qY 0 i,[]⟩ s:=by unfold bH3;simp only[h0,h,and_self,if_true]
noncomputable def nxt (F:Fns)(ss:Ss)(c:Ct)(s:Sto):R Ct:=match c with|.next U=>exs F ss U s|c=>.ok c s
@[simp] theorem nxt_next h U s :nxt F h (.next U) s=exs F h U s:=rfl
@[simp] theorem nxt_ret h d s :nxt F h (.ret d) s=.ok (.ret d) s:=rfl
@[simp] theorem nxt_cont h U s :nxt F h (.cont U) s=.ok (.cont U) s:=rfl
@[simp] theorem exs_nil:exs F .nil U s=.ok (.next U) s:=rfl
@[simp] theorem qS st h :exs F (.cons st h) U s=(ex F st U s).bind (nxt F h):=rfl
noncomputable def ci2 (U:Option Env)(s:Sto):R Ct:=match U with|some U=>.ok (.next U) s|none=>.bad
@[simp] theorem setC_some U s :ci2 (some U) s=.ok (.next U) s:=rfl
@[simp] theorem ex_asg tg e :ex F (.asg tg e) U s=(ev F e U s).bind λ d s=>ci2 (jd U tg d) s:=rfl
@[simp] theorem ex_setIx o i e :ex F (.setIx o i e) U s=(ev F e U s).bind λ d s=>(ev F o U s).bind λ x s=>(ev F i U s).bind λ y s=>(setIx x y d s).bind λ _ s=>.ok (.next U) s:=rfl
@[simp] theorem ex_ex e :ex F (.ex e) U s=(ev F e U s).bind λ _ s=>.ok (.next U) s:=rfl
@[simp] theorem ex_ret e :ex F (.ret e) U s=(ev F e U s).bind λ d s=>.ok (.ret d) s:=rfl
@[simp] theorem ex_ite c a b :ex F (.ite c a b) U s=tru (ev F c U s) λ k s=>if k then exs F a U s else exs F b U s:=rfl
@[simp] theorem ex_whl c b :ex F (.whl c b) U s=whl (ev F c) (exs F b) U s:=rfl
noncomputable def turn (F:Fns)(tg:Tg)(b:Ss)(d:D)(U:Env)(s:Sto):R Ct:=match jd U tg d with
 | some U=>exs F b U s
 | none=>.bad
@[simp] theorem ex_for tg it b :ex F (.for_ tg it b) U s=(evI F it U s).bind λ q s0=>aC7 (λ s=>chk s0 s q.src) (turn F tg b) q.its U s0:=rfl
@[simp] theorem ex_cont:ex F .cont U s=.ok (.cont U) s:=rfl
@[simp] theorem ex_und i :ex F (.und i) U s=ci2 (ae9 U i) s:=rfl
@[simp] theorem qz i d :jd U (.one i) d=aJ8 U i d:=rfl
@[simp] theorem bindT_tup is l :jd U (.tup is) (.tup l)=an6 U is l:=rfl
@[simp] theorem setVs_nil:an6 U [] []=some U:=rfl
@[simp] theorem setVs_cons i is d l :an6 U (i::is) (d::l)=(aJ8 U i d).bind λ U=>an6 U is l:=rfl
@[simp] theorem ja d (U:Env):bg1 (some d::U) 0 s=.ok d s:=rfl
@[simp] theorem qZ x (U:Env) i :bg1 (x::U) (i+1) s=bg1 U i s:=by unfold bg1;rw[dz]
@[simp] theorem setV_0 d x (U:Env):aJ8 (x::U) 0 d=some (some d::U):=rfl
@[simp] theorem setV_s d x (U:Env) i :aJ8 (x::U) (i+1) d=(aJ8 U i d).map (x::·):=by
 unfold aJ8
 by_cases h:i < U.length
 .rw[if_pos (by simpa using h),if_pos h];rfl
 .rw[if_neg (by simpa using h),if_neg h];rfl
@[simp] theorem unsetV_0 x (U:Env):ae9 (x::U) 0=some (none::U):=rfl
@[simp] theorem unsetV_s x (U:Env) i :ae9 (x::U) (i+1)=(ae9 U i).map (x::·):=by
 unfold ae9
 by_cases h:i < U.length
 .rw[if_pos (by simpa using h),if_pos h];rfl
 .rw[if_neg (by simpa using h),if_neg h];rfl
@[simp] theorem Cn_int i :(Cn.int i).d=.int i:=rfl
@[simp] theorem Cn_bl i :(Cn.bl i).d=.bl i:=rfl
@[simp] theorem Cn_str i :(Cn.str i).d=.str i:=rfl
@[simp] theorem Cn_non:Cn.non.d=.non:=rfl
@[simp] theorem add_int a b :qF .add (.int a) (.int b) s=.ok (.int (a+b)) s:=rfl
@[simp] theorem sub_int a b :qF .sub (.int a) (.int b) s=.bad:=rfl
theorem ah0 (h:mulOk a b=true):qF .mul (.int a) (.int b) s=.ok (.int (a*b)) s:=by show(if mulOk a b then _ else _:M D) s=_;rw[if_pos h];rfl
theorem bL5 (h:a.natAbs<2^64):mulOk a b=true:=by unfold mulOk;simp[h]
theorem at5 (h:b.natAbs<2^64):mulOk a b=true:=by unfold mulOk;simp[h]
theorem al3 (h:0<b):qF .mod (.int a) (.int b) s=.ok (.int (a % b)) s:=by show(if 0<b then _ else _:M D) s=_;rw[if_pos h];rfl
theorem bL7:(10)^200<=(DIVL:Int):=by unfold DIVL;decide +kernel
theorem at6 (h:0<b)(y:b<10^200):qF .fdiv (.int a) (.int b) s=.ok (.int (a / b)) s:=by show(if 0<b/\b<(DIVL)then _ else _:M D) s=_;rw[if_pos ⟨h,Int.lt_of_lt_of_le y bL7⟩];rfl
theorem aU2 (h:0<=b/\b<=1000000/\a.natAbs<2^64):qF .pow (.int a) (.int b) s=.ok (.int (a^b.toNat)) s:=by show(if _ then _ else _:M D) s=_;rw[if_pos h];rfl
@[simp] theorem lt_int a b :z0 .lt (.int a) (.int b) s=.ok (.bl (decide (a<b))) s:=rfl
@[simp] theorem le_int a b :z0 .le (.int a) (.int b) s=.ok (.bl (decide (a<=b))) s:=rfl
@[simp] theorem gt_int a b :z0 .gt (.int a) (.int b) s=.ok (.bl (decide (b<a))) s:=rfl
@[simp] theorem ge_int a b :z0 .ge (.int a) (.int b) s=.bad:=rfl
@[simp] theorem eq_int a b :z0 .eq (.int a) (.int b) s=.ok (.bl (decide (a=b))) s:=rfl
@[simp] theorem ne_int a b :z0 .ne (.int a) (.int b) s=.ok (.bl (!decide (a=b))) s:=rfl
@[simp] theorem alloc_eq o :ad1 o s=.ok (.ref s.length) (s++[o]):=rfl
@[simp] theorem aG1 l :bi .len [.tup l] s=.ok (.int l.length) s:=rfl
@[simp] theorem bf3 l :bi .len [.str l] s=.ok (.int l.length) s:=rfl
theorem aX7 (h:s[r]?=some (.lst l)):bi .len [.ref r] s=.ok (.int l.length) s:=by
 show bB8 (.ref r) s=_
 unfold bB8
 simp only[h]
theorem bt3 (h:s[r]?=some (.ro l)):bi .len [.ref r] s=.ok (.int l.length) s:=by
 show bB8 (.ref r) s=_
 unfold bB8
 simp only[h]
@[simp] theorem ci9 i :bi .abs [.int i] s=.ok (.int (if i<0 then -i else i)) s:=rfl
@[simp] theorem bm6 a b :bi .min2 [.int a,.int b] s=.ok (.int (if b<a then b else a)) s:=rfl
@[simp] theorem ce0 a b :bi .max2 [.int a,.int b] s=.ok (.int (if b > a then b else a)) s:=rfl
@[simp] theorem aB5 a :bi .isInt [.int a] s=.ok (.bl true) s:=rfl
@[simp] theorem aq4 a :bi .isBool [.int a] s=.ok (.bl false) s:=rfl
@[simp] theorem bY5 l :bi .isTup [.tup l] s=.ok (.bl true) s:=rfl
theorem bN7 {j:Nat}(h:s[r]?=some (.ro l))(hj:l[j]?=some d):ixM (.ref r) (.int (j)) s=.ok d s:=by
 have hl:=(ac.mp hj).1
 have e:=(ac.mp hj).2
 simp[ixM,h,ixn,hl,e]
theorem cb7 {j:Nat}(h:s[r]?=some (.lst l))(hj:l[j]?=some d):ixM (.ref r) (.int (j)) s=.ok d s:=by
 have hl:=(ac.mp hj).1
 have e:=(ac.mp hj).2
 simp[ixM,h,ixn,hl,e]
theorem ix_tup {j:Nat}(hj:l[j]?=some d):ixM (.tup l) (.int (j)) s=.ok d s:=by
 have hl:=(ac.mp hj).1
 have e:=(ac.mp hj).2
 simp[ixM,ixn,hl,e]
theorem ar6 (h:s[r]?=some (.lst l))(hl:l.length<LIM):meth .append (.ref r) [v] s=.ok .non (s.set r (.lst (l++[v]))):=by
 show(match s[r]? with|some (.lst l)=>(if l.length<LIM then R.ok D.non (s.set r (.lst (l++[v])))else .bad)|_=>.bad)=_
 rw[h]
 exact if_pos hl
end
theorem aE5 s t b :∃ s',zr s (.bl b) t=.ok (.bl b) s':=by
 unfold zr
 by_cases h:as5 s t=true
 .rw[if_pos h];exact⟨_,rfl⟩
 .rw[if_neg h];exact⟨_,rfl⟩
def Yes (r:R D):Prop:=∃ s',r=.ok (.bl true) s'
theorem aZ0 s t :Yes (zr s (.bl true) t):=aE5 s t true
theorem qT {j:Nat}(h:(qY a b)[j]?=some d):(j)<b - a/\d=.int (a+j):=by
 have hj:=(ac.mp h).1
 simp only[qY,ax,List.length_range]at hj
 unfold qY at h
 rw[ay,cN hj]at h
 exact⟨by omega,(aA h).symm⟩
def ck3 (P:Pr)(k:Nat):Prop:=∀ ns:List Int,ns.length<=63->Yes ((aa1 P k).call "law" [.ref 0] [.ro (ns.map D.int)])
noncomputable def zJ:Option Int->D
 | none=>.non
 | some i=>.int i
@[simp] theorem zx:zJ none=.non:=rfl
@[simp] theorem zF i :zJ (some i)=.int i:=rfl
@[simp] theorem zZ p n :(zJ p).bnd n=true:=by cases p<;>rfl
theorem ak0 p r :zJ p≠.ref r:=by cases p<;>nofun
@[simp] theorem aR4 :zr s (zJ p) s=.ok (zJ p) s:=zA (zZ p) (ak0 p)
noncomputable def zP (b:Nat×Nat):O:=.lst [.int b.1,.int b.2]
@[simp] theorem cc9 b n :(zP b).bnd n=true:=rfl
noncomputable def tkW (many:Nat):Nat->Nat->Nat->Nat->Nat×Nat
 | 0,mix,num,_=>(num,mix)
 | n+1,mix,num,room=>if room<many then tkW many n ((mix*48271+7919) % 2147483647) (num*1073741789+(mix*48271+7919) % 2147483647 / 8*69621 % 1073741789) (room*1073741789)else(num,mix)
noncomputable def tk (b:Nat×Nat)(many:Nat):Nat×(Nat×Nat) :=
 if 0<b.1 then(b.1 % many,(b.1 / many,b.2))else let r:=tkW many 12 b.2 0 1;(r.1 % many,(b.1,r.2))
theorem cf7 b (h:0<many):(tk b many).1<many:=by
 unfold tk
 split
 .exact Nat.mod_lt _ h
 .exact Nat.mod_lt _ h
theorem aU0 (h:many<=room):tkW many k z y room=(y,z):=by
 cases k with
 | zero=>rfl
 | succ k=>unfold tkW;rw[if_neg (by lia)]
theorem bg8 (h:room<many):tkW many (k+1) y z room=tkW many k ((y*48271+7919) % 2147483647) (z*1073741789+(y*48271+7919) % 2147483647 / 8*69621 % 1073741789) (room*1073741789):=by
 conv=>lhs;unfold tkW
 rw[if_pos h]
theorem bK3 [Has P ac8] n b (many:Nat)(h0:0<many)(h:many<=10^90) s r (hs:s[r]?=some (zP b)) :
  (aa1 P (n+1)).call "_law_take" [.ref r,.int many] s=.ok (.int (tk b many).1) (s.set r (zP (tk b many).2)):=by
 refine(zh ac8 rfl).trans ?_
 obtain⟨c,m⟩:=b
 have hr:=(ac.mp hs).1
 have Cc:(0:Int)<(many:Int):=by lia
 have Z:(many:Int)<10^200:=by
  have:(10:Int)^90<10^200:=by decide +kernel
  have:=by exact_mod_cast h
  lia
 by_cases hc:0<c
 .have G:s[r]?=some (.lst [.int c,.int m]):=hs
  simp[ac8,ixM,G,ixn,hc,al3 Cc,at6 Cc Z,setIx,tk]
  exact qR (λ _=>rfl) (by nofun) rfl
 .have Y:c=0:=by lia
  subst Y
  have G:s[r]?=some (.lst [.int 0,.int m]):=hs
  simp[ac8,ixM,G,ixn]
  refine bp3 (λ k U t=>∃ y z room:Nat,U=[some (.ref r),some (.int many),none,some (.int z),some (.int room)]/\t=s.set r (zP (0,y))/\many<=room*1073741789^k/\tkW many k y z room=tkW many 12 m 0 1)
   (λ U t=>∃ room:Nat,U=[some (.ref r),some (.int many),none,some (.int (tkW many 12 m 0 1).1),some (.int room)]/\t=s.set r (zP (0,(tkW many 12 m 0 1).2))) 12 ⟨m,0,1,by simp,?_,?_,rfl⟩ ?_ ?_
  .have e:s[r]=zP (0,m):=(ac.mp hs).2
   rw[<-e,fe]
  .refine am h ?_
   decide +kernel
  .rintro k U t ⟨y,z,room,rfl,rfl,J,he⟩
   by_cases hlt:room<many
   .simp only[ev_cmp,jc,ja,qZ,R.bind_ok,lt_int,bv4,j7,hlt,decide_true,if_true]
    cases k with
    | zero=>simp at J;omega
    | succ k =>
     have h1:(s.set r (zP (0,y)))[r]?=some (.lst [.int 0,.int y]):=by rw[aJ hr];rfl
     have m1:∀ a:Int,mulOk a 48271=true:=λ a=>at5 (by decide)
     have m2:∀ a:Int,mulOk a 1073741789=true:=λ a=>at5 (by decide)
     have m3:∀ a:Int,mulOk a 69621=true:=λ a=>at5 (by decide)
     refine qE ?_ ⟨k,du k,(y*48271+7919) % 2147483647,z*1073741789+(y*48271+7919) % 2147483647 / 8*69621 % 1073741789,room*1073741789,rfl,rfl,?_,?_⟩
     .simp[ixM,h1,ixn,ah0 (m1 _),al3,setIx,hr,ah0 (m2 _),ah0 (m3 _),at6,zP]
     .rw[Nat.pow_succ]at J
      rw[Nat.mul_assoc,lG 1073741789];exact J
     .rw[<-he,bg8 hlt]
   .simp only[ev_cmp,jc,ja,qZ,R.bind_ok,lt_int,bv4,j7,hlt,decide_false,if_false,cn]
    refine⟨room,?_,?_⟩
    .rw[<-he,aU0 (by lia)]
    .rw[<-he,aU0 (by omega)]
  .rintro U t ⟨room,rfl,rfl⟩
   simp[al3 Cc,tk]
   exact qR (λ _=>rfl) (by nofun) rfl
noncomputable def bu3 (at_:Int)(ns:List Int):Nat->Int
 | 0=>7919*at_+17
 | k+1=>(bu3 at_ ns k*48271+(ns.getD k 0) % 2147483647+k) % 2147483629
theorem bK4 at_ (h:0<=at_) ns :∀ k,0<=bu3 at_ ns k
 | 0=>by unfold bu3;lia
 | k+1=>by unfold bu3;exact Int.emod_nonneg _ (by decide)
noncomputable def cellF (ns:List Int)(at_:Nat):Nat:=if 10^18<=(ns.getD at_ 0).natAbs then(ns.getD at_ 0).natAbs else 0
noncomputable def bM4 (ns:List Int)(at_:Nat):Nat×Nat:=(cellF ns at_,(bu3 at_ ns (min ns.length 60)).toNat)
theorem ca7 [Has P aw3] n ns (at_:Nat) s r (hs:s[r]?=some (.ro (ns.map D.int)))(hl:ns.length<=63) :
  (aa1 P (n+1)).call "_law_bag" [.ref r,.int at_] s=.ok (.ref s.length) (s++[zP (bM4 ns at_)]):=by
 refine(zh aw3 rfl).trans ?_
 have m1:∀ a:Int,mulOk 7919 a=true:=λ a=>bL5 (by decide)
 have m2:∀ a:Int,mulOk a 48271=true:=λ a=>at5 (by decide)
 have y:bi .len [.ref r] s=.ok (.int ns.length) s:=by rw[bt3 hs,ax]
 have z:∀(c:Int),(c<10^18->cellF ns at_=0)->(10^18<=c->(cellF ns at_:Int)=c) ->
   (exs (aa1 P n) (.cons (.asg (.one 3) (.bin .add (.bin .mul (.cst (.int 7919)) (.var 1)) (.cst (.int 17)))) (.cons (.for_ (.one 4) (.rng1 (.bi .min2 (.cons (.bi .len (.cons (.var 0) .nil)) (.cons (.cst (.int 60)) .nil)))) (.cons (.asg (.one 3) (.bin .mod (.bin .add (.bin .add (.bin .mul (.var 3) (.cst (.int 48271))) (.bin .mod (.ix (.var 0) (.var 4)) (.cst (.int 2147483647)))) (.var 4)) (.cst (.int 2147483629)))) .nil)) (.cons (.ite (.cmp .lt (.var 2) (.bin .pow (.cst (.int 10)) (.cst (.int 18)))) (.cons (.asg (.one 2) (.cst (.int 0))) .nil) .nil) (.cons (.ret (.lst (.cons (.var 2) (.cons (.var 3) .nil)))) .nil)))) [some (.ref r),some (.int at_),some (.int c),none,none] s).bind (fin s)=.ok (.ref s.length) (s++[zP (bM4 ns at_)]):=by
  intro c h1 h2
  simp[ah0 (m1 _),y]
  have hk:(if(60:Int)<(ns.length:Int)then 60 else(ns.length:Int))=((min ns.length 60:Nat):Int):=by lia
  rw[hk,zQ (by unfold Ww62;lia) (by unfold Ww62;omega)]
  simp only[R.bind_ok]
  refine aj9 (λ j U t=>t=s/\∃ x,U=[some (.ref r),some (.int at_),some (.int c),some (.int (bu3 at_ ns j)),x]) ⟨rfl,none,rfl⟩ (λ _ _ _ _ _=>rfl) ?_ ?_
  .rintro j d U t hj ⟨rfl,x,rfl⟩
   have Z:=by have:=(ac.mp hj).1;simpa [qY]using this
   have hd:=by simpa [qY,Z]using hj.symm
   subst hd
   refine qE ?_ ⟨rfl,some (.int (j)),rfl⟩
   have hx:ixM (.ref r) (.int (j:Int)) t=.ok (.int (ns.getD j 0)) t:=bN7 hs (by simp[show j<ns.length by lia])
   simp[turn,ah0 (m2 _),hx,al3,bu3]
  .rintro U t ⟨rfl,x,rfl⟩
   have G:(qY 0 ((min ns.length 60:Nat):Int)).length=min ns.length 60:=by simp[qY]
   rw[G]
   have J:=bK4 at_ (by lia) ns (min ns.length 60)
   have Cc:∀ Y,(Y:Int)=cellF ns at_->zr t (.ref t.length) (t++[.lst [.int Y,.int (bu3 at_ ns (min ns.length 60))]])=.ok (.ref t.length) (t++[zP (bM4 ns at_)]):=by
    intro Y a0
    have:=ay3 (s:=t) (t:=[]) (u:=[]) (o:=zP (bM4 ns at_)) rfl
    simp only[fO,lN,fL]at this
    rw[<-this]
    simp[zP,bM4,a0,fX J]
   by_cases h:c<10^18
   .have h':c<1000000000000000000:=h
    simp[aU2,h']
    exact Cc 0 (by rw[h1 h];rfl)
   .have h':¬ c<1000000000000000000:=h
    simp[aU2,h']
    exact Cc c (h2 (by omega)).symm
 by_cases hat:at_<ns.length
 .have hx:ixM (.ref r) (.int at_) s=.ok (.int (ns.getD at_ 0)) s:=bN7 hs (by simp[hat])
  have e:=z (if ns.getD at_ 0<0 then -ns.getD at_ 0 else ns.getD at_ 0) (by unfold cellF;intro h;rw[if_neg (by omega)]) (by unfold cellF;intro h;rw[if_pos (by omega)];omega)
  rw[<-e]
  simp[aw3,y,hat,hx]
 .have e:=z 0 (by unfold cellF;intro h;rw[if_neg];rw[a7,cZ (by lia)];decide) (by intro h;exact absurd h (by decide))
  rw[<-e]
  simp[aw3,y,hat]
theorem aE9 { t:Sto}(h:r<s.length):(s++t).set r o=s.set r o++t:=by rw[iz,if_pos h]
theorem ze { t:Sto}{r:Nat}(h:s[r]?=some o):(s++t)[r]?=some o:=by
 rw[aQ (ac.mp h).1];exact h
theorem ql {s:Sto}(h:r<s.length):(s.set r o)[r]?=some o:=aJ h
theorem bk2 [Has P ac8] n b many (h0:0<many)(h:many<=10^90) s r (hs:s[r]?=some (zP b)) :
  (aa1 P (n+1)).call "_law_take" [.ref r,.int many] s=.ok (.int (tk b many.toNat).1) (s.set r (zP (tk b many.toNat).2)):=by
 have:=bK3 n b many.toNat (P:=P) (by lia) (by have:=(by simpa using h);lia) s r hs
 rwa [show((many.toNat))=many by lia]at this
noncomputable def bd (b:Nat×Nat):Nat×(Nat×Nat) :=
 let x0:=tk b 3
 let x1:=tk x0.2 13
 let x2:=tk x1.2 1000000000
 let x3:=tk x2.2 1000000000000000000000000000000
 let i:=tk x3.2 4
 ([x0.1,x1.1,x2.1,x3.1].getD i.1 0,i.2)
section
variable {F:Fns} {U:Env} {s:Sto}
noncomputable def ao5 (F:Fns)(tg:Tg)(e:E)(d:D)(U:Env)(s:Sto):R (Option D×Env):=match jd U tg d with
 | some U=>(ev F e U s).bind λ v s=>.ok (some v,U) s
 | none=>.bad
noncomputable def ah6 (F:Fns)(tg:Tg)(c e:E)(d:D)(U:Env)(s:Sto):R (Option D×Env):=match jd U tg d with
 | some U=>tru (ev F c U s) λ k s=>if k then(ev F e U s).bind λ v s=>.ok (some v,U) s else .ok (none,U) s
 | none=>.bad
@[simp] theorem aj8 tg it e h :evL F (.comp tg it e h) U s=(evI F it U s).bind λ q s0=>if q.its.length<=LIM then ad9 (λ s=>chk s0 s q.src) (ao5 F tg e) q.its (qe U h) s0 else .bad:=rfl
@[simp] theorem zR tg it c e h :evL F (.compIf tg it c e h) U s=(evI F it U s).bind λ q s0=>if q.its.length<=LIM then ad9 (λ s=>chk s0 s q.src) (ah6 F tg c e) q.its (qe U h) s0 else .bad:=rfl
@[simp] theorem bZ5 a h :ev F (.slU a h) U s=(ev F a U s).bind λ x s=>(ev F h U s).bind λ y s=>match y with|.int i=>slM x none (some i) s|_=>.bad:=rfl
end
theorem zY (P:Env->Sto->Prop) f :∀ l U s ,P U s ->
  (∀ U s,P U s->ok s=true)->(∀ d∈l,∀ U s,P U s->∃ U' s',g d U s=.ok (f d,U') s'/\P U' s')->∃ U' s',ad9 ok g l U s=.ok (l.filterMap f) s'/\P U' s'
 | [],U,s,h,o,_=>⟨U,s,by unfold ad9;rw[if_pos (o U s h)];rfl,h⟩
 | d::l,U,s,h,o,st=>by
  obtain⟨U1,s1,e1,z⟩:=st d (az ..) U s h
  obtain⟨U2,s2,e2,y⟩:=zY P f l U1 s1 z o λ x hx=>st x (ar _ hx)
  refine⟨U2,s2,?_,y⟩
  unfold ad9
  rw[if_pos (o U s h),e1]
  simp only[R.bind_ok]
  rw[e2,a9]
  cases f d<;>rfl
theorem qD [Has P ac8] n {s}{r}(hs:∃ b,s[r]?=some (zP b)) many (h0:0<many)(h:many<=10^90) :
  ∃(k:Nat) (b:Nat×Nat),(k:Int)<many/\(aa1 P (n+1)).call "_law_take" [.ref r,.int many] s=.ok (.int k) (s.set r (zP b)):=by
 obtain⟨b,hb⟩:=hs
 have:=cf7 b (many:=many.toNat) (by omega)
 exact⟨(tk b many.toNat).1,(tk b many.toNat).2,by lia,bk2 n b many h0 h s r hb⟩
theorem ah2 {k:Int}(h:k<=1000):k<=10^90:=kg h (by decide)
theorem ag7 {s:Sto}(h:r<s.length):∃ y,(s.set r (zP b))[r]?=some (zP y):=⟨b,ql h⟩
theorem aM3 {s:Sto}(h:∃ b,s[r]?=some (zP b)):r<s.length:=by obtain⟨b,hb⟩:=h;exact(ac.mp hb).1
theorem bd6 (h:0<=k/\k<=1000000):qF .shl (.int 1) (.int k) s=.ok (.int (1*2^k.toNat)) s:=by
 show(if 0<=k/\k<=1000000/\(1:Int).natAbs<2^128 then _ else _:M D) s=_
 rw[if_pos ⟨h.1,h.2,by decide⟩];rfl
theorem zO (h:∀ d∈l,∀ n,d.bnd n=true) n :D.bndL n l=true:=by
 induction l with
 | nil=>rfl
 | cons d l ih=>unfold D.bndL;rw[h d (az ..),ih λ x hx=>h x (ar _ hx)];rfl
noncomputable def aB6 (bits:Nat):D->Option D
 | .int i=>if(bits:Int) / (1*2^i.toNat) % 2=1 then some (.int i)else none
 | _=>none
theorem aX9 {l:List D}:∀ d∈l.filterMap (aB6 h),∀ n,d.bnd n=true:=λ d hd n=>by
 obtain⟨x,hx,e⟩:=br.mp hd
 cases x with
 | int i =>
  simp only[aB6]at e
  split at e
  .cases e;rfl
  .cases e
 | _=>cases e
theorem aQ8 [Has P ac8][Has P ad5] n {s}{r}(hs:∃ b,s[r]?=some (zP b)) k (h0:0<=k)(h:k<=5) :
  ∃ y   b ,(aa1 P (n+2)).call "_law_rooms" [.ref r,.int k] s=.ok (.tup ((qY 0 k).filterMap (aB6 y))) (s.set r (zP b)):=by
 have e0:(aa1 P (n+2)).call "_law_rooms" [.ref r,.int k] s=_:=zh ad5 rfl
 have hr:=aM3 hs
 have hp:(1:Int)*2^k.toNat<=32:=by
  have:k.toNat<=5:=by lia
  have Cc:(2:Nat)^k.toNat<=2^5:=i6 (by decide) this
  have J:((2^k.toNat:Nat):Int)<=32:=by exact_mod_cast Cc
  rw[gM];simpa using J
 have Y:(0:Int)<1*2^k.toNat:=by rw[gM];exact Int.pow_pos (by decide)
 obtain⟨y,b,hb,eb⟩:=qD (P:=P) n hs (1*2^k.toNat) Y (ah2 (by lia))
 rw[e0]
 simp only[ad5,qS,ex_asg,ev_call,evas_ex,evas_nil,jc,ev_bin,ev_cst,Cn_int,aS,dE,fq,fL,ja,qZ,R.bind_ok,bd6 ⟨h0,by lia⟩,eb,qz]
 simp only[aC,setV_s,setV_0,fS,setC_some,R.bind_ok,nxt_next,qS,ex_ret,ev_mk,zR,evI_rng1,jc,ja,qZ]
 rw[zQ (by unfold Ww62;lia) (by unfold Ww62;lia)]
 simp only[R.bind_ok]
 rw[if_pos (by simp[qY];unfold LIM;lia)]
 have key:∃(U':Env) (s':Sto),ad9 (λ G=>chk (s.set r (zP b)) G []) (ah6 (aa1 P (n+1)) (.one 0) (.cmp .eq (.bin .mod (.bin .fdiv (.var 1) (.bin .shl (.cst (.int 1)) (.var 0))) (.cst (.int 2))) (.cst (.int 1))) (.var 0)) (qY 0 k) (qe [some (.ref r),some (.int k),some (.int y)] [none,some 2]) (s.set r (zP b))=.ok ((qY 0 k).filterMap (aB6 y)) s'/\(s'=s.set r (zP b)/\∃ x,U'=[x,some (D.int y)]):=by
  refine zY (λ U u=>u=s.set r (zP b)/\∃ x,U=[x,some (.int y)]) (aB6 y) (qY 0 k) _ _ ⟨rfl,none,rfl⟩ (λ _ _ _=>rfl) ?_
  rintro d hd U u ⟨rfl,x,rfl⟩
  obtain⟨j,hj⟩:=fF hd
  obtain⟨Cc,rfl⟩:=qT hj
  refine⟨[some (.int (0+j)),some (.int y)],_,?_,rfl,_,rfl⟩
  have a0:j<5:=by lia
  have Z:(1:Int)*2^((0:Int)+j).toNat<=32:=by
   have:((0:Int)+j).toNat<=5:=by lia
   have Cc:(2:Nat)^((0:Int)+j).toNat<=2^5:=i6 (by decide) this
   have J:((2^((0:Int)+j).toNat:Nat):Int)<=32:=by exact_mod_cast Cc
   rw[gM];simpa using J
  have z:(0:Int)<1*2^((0:Int)+j).toNat:=by rw[gM];exact Int.pow_pos (by decide)
  unfold ah6
  simp only[qz,setV_0,ev_cmp,ev_bin,jc,ev_cst,Cn_int,ja,qZ,R.bind_ok]
  rw[bd6 ⟨by lia,by lia⟩]
  simp only[R.bind_ok]
  rw[at6 z (by lia)]
  simp only[R.bind_ok]
  rw[al3 (by decide)]
  simp only[R.bind_ok,eq_int,tru_bl]
  simp[aB6]
  split<;>rfl
 obtain⟨U',s',e,h1⟩:=key
 rw[e]
 obtain⟨rfl,_⟩:=h1
 refine⟨y,b,?_⟩
 simp only[R.bind_ok,mk,nxt_ret,fin_ret]
 exact qR (λ m=>by unfold D.bnd;exact zO aX9 m) (by nofun) rfl
theorem br9 {k:Nat}(h:k<3) s :ixM (.str [97,98,99]) (.int (k)) s=.ok (.str [97+k]) s:=by
 match k,h with
 | 0,_=>rfl
 | 1,_=>rfl
 | 2,_=>rfl
theorem ar9 [Has P ac8] n {s t:Sto}{r}(z:r<s.length) b many (h0:0<many)(h:many<=10^90) :
  ∃(k:Nat) (y:Nat×Nat),(k:Int)<many/\(aa1 P (n+1)).call "_law_take" [.ref r,.int many] (s.set r (zP b)++t)=.ok (.int k) (s.set r (zP y)++t):=by
 obtain⟨k,y,G,Cc⟩:=qD (P:=P) n ⟨b,ze (ql z)⟩ many h0 h
 refine⟨k,y,G,?_⟩
 rw[Cc,aE9 (by rw[aU];exact z),cE]
theorem bV3 {s t:Sto}(h:l.length<LIM):meth .append (.ref s.length) [v] (s.set r (zP b)++(.lst l::t))=.ok .non (s.set r (zP b)++(.lst (l++[v])::t)):=by
 rw[ar6 (by rw[aP (by simp)];simp) h]
 congr 1
 rw[iz,if_neg (by simp)]
 simp
theorem av7 (h:a.length+b.length<=LIM):qF .add (.str a) (.str b) s=.ok (.str (a++b)) s:=by
 show(if a.length+b.length<=LIM then _ else _:M D) s=_;rw[if_pos h];rfl
def Lts (L:Nat)(w:List Nat):Prop:=∀ c∈w,97<=c/\c<97+L
theorem rep_len l :∀ n,(rep n l).length=l.length*n
 | 0=>by simp[rep]
 | n+1=>by simp[rep,rep_len l n,kI];omega
noncomputable def bS9 (L:Nat)(d:D):Bool:=match d with
 | .str w=>decide (w.length<=200)&&w.all λ c=>decide (97<=c/\c<97+L)
 | _=>false
theorem bb0 :z0 .isin a b s=(inM a b s).bind λ r s=>.ok (.bl r) s:=rfl
theorem bn4 :z0 .notin a b s=(inM a b s).bind λ r s=>.ok (.bl (!r)) s:=rfl
structure Dr where
 a:Nat
 l:Nat
 b:Nat
 t:Nat
noncomputable def Dr.d (x:Dr):D:=.tup [.int x.a,.str [x.l],.int x.b,.int x.t]
structure Mc where
 L:Nat
 R:Nat
 bg:List Nat
 en:List Nat
 ds:List Dr
noncomputable def aa7 (l:List Nat):List D:=l.map λ(k:Nat)=>D.int (k)
noncomputable def bq2 (l:List Int):List D:=l.map D.int
noncomputable def sg (w:List Nat):List D:=w.map λ c=>.str [c]
noncomputable def Mc.ps (m:Mc):List D:=[.int m.L,.int m.R,.tup (aa7 m.bg),.tup (aa7 m.en),.tup (m.ds.map Dr.d)]
noncomputable def Mc.d (m:Mc):D:=.tup m.ps
structure Dr.Ok (m:Mc)(x:Dr):Prop where
 a:x.a<m.R
 l:97<=x.l/\x.l<97+m.L
 b:x.b<m.R
 t:x.t<4
structure Mc.Ok (m:Mc):Prop where
 L1:1<=m.L
 L3:m.L<=3
 R1:1<=m.R
 R5:m.R<=5
 bg:(∀ k∈m.bg,k<m.R)/\m.bg.Pairwise (· < ·)
 en:(∀ k∈m.en,k<m.R)/\m.en.Pairwise (· < ·)
 ds:(∀ x∈m.ds,x.Ok m)/\m.ds.length<=75
theorem af5 :∀ d∈aa7 l,∀ n,d.bnd n=true:=λ d hd n=>by
 obtain⟨c,_,rfl⟩:=aK.mp hd;rfl
theorem bi9 :∀ d∈bq2 l,∀ n,d.bnd n=true:=λ d hd n=>by
 obtain⟨c,_,rfl⟩:=aK.mp hd;rfl
theorem aT4 {l:List Dr}:∀ d∈l.map Dr.d,∀ n,d.bnd n=true:=λ d hd n=>by
 obtain⟨c,_,rfl⟩:=aK.mp hd;rfl
theorem bJ3 {m:Mc}:∀ d∈m.ps,∀ n,d.bnd n=true:=λ d hd n=>by
 simp only[Mc.ps,av,bn,or_false]at hd
 rcases hd with rfl|rfl|rfl|rfl|rfl
 .rfl
 .rfl
 .unfold D.bnd;exact zO af5 n
 .unfold D.bnd;exact zO af5 n
 .unfold D.bnd;exact zO aT4 n
theorem bN5 (m:Mc) n :m.d.bnd n=true:=by unfold Mc.d D.bnd;exact zO bJ3 n
noncomputable def aM0 (bits k:Nat):List Nat:=(aH k).filter λ i=>decide (bits / 2^i % 2=1)
theorem aT0 h k :(∀ i∈aM0 h k,i<k)/\(aM0 h k).Pairwise (· < ·) :=
 ⟨λ i y=>cb.mp (fJ.mp y).1,lT _ List.pairwise_lt_range⟩
theorem bl7 y (k:Nat):(qY 0 (k)).filterMap (aB6 y)=aa7 (aM0 y k):=by
 unfold qY aM0 aa7
 simp only[lK,cz]
 rw[cD]
 induction (aH k)with
 | nil=>rfl
 | cons i l ih =>
  rw[a9,List.filter_cons]
  have e:((y:Int) / (1*2^((0)+(i:Int)).toNat) % 2=1)↔(y / 2^i % 2=1):=by
   rw[gM,show((0)+(i:Int)).toNat=i by lia]
   have:((y) / 2^i % 2)=((y / 2^i % 2:Nat):Int):=by simp
   rw[this];omega
  simp only[lv,aB6]
  by_cases h:y / 2^i % 2=1
  .rw[if_pos (e.mpr h)]
   simp only[h,decide_true,if_true,aS]
   rw[<-ih,ir]
  .rw[if_neg λ z=>h (e.mp z)]
   simp only[h]
   exact ih
theorem aM4 [Has P ac8][Has P ad5] n {s}{r}(hs:∃ b,s[r]?=some (zP b)) k (h:k<=5) :
  ∃(l:List Nat) (b:Nat×Nat),((∀ i∈l,i<k)/\l.Pairwise (· < ·))/\(aa1 P (n+2)).call "_law_rooms" [.ref r,.int k] s=.ok (.tup (aa7 l)) (s.set r (zP b)):=by
 obtain⟨y,b,e⟩:=aQ8 (P:=P) n hs k (by lia) (by lia)
 rw[bl7]at e
 exact⟨_,b,aT0 y k,e⟩
def McR (s:Sto)(r:Nat)(x:R D):Prop:=∃(m:Mc) (b:Nat×Nat),m.Ok/\x=.ok m.d (s.set r (zP b))
theorem aQ4 [Has P ac8][Has P ad5][Has P ac5] n {s}{r}(hs:∃ b,s[r]?=some (zP b)):McR s r ((aa1 P (n+3)).call "_law_machine" [.ref r] s):=by
 have e0:(aa1 P (n+3)).call "_law_machine" [.ref r] s=_:=zh ac5 rfl
 have y:=aM3 hs
 obtain⟨a,b1,ha,e1⟩:=qD (P:=P) (n+1) hs 3 (by decide) (by decide)
 obtain⟨c,b2,hc,e2⟩:=qD (P:=P) (n+1) (ag7 (b:=b1) y) 5 (by decide) (by decide)
 rw[cE]at e2
 obtain⟨m1,b3,a1,e3⟩:=qD (P:=P) (n+1) (ag7 (b:=b2) y) 13 (by decide) (by decide)
 rw[cE]at e3
 obtain⟨m2,J,a3,e4⟩:=qD (P:=P) (n+1) (ag7 (b:=b3) y) 8 (by decide) (by decide)
 rw[cE]at e4
 obtain⟨m3,b5,a4,e5⟩:=qD (P:=P) (n+1) (ag7 y) 76 (by decide) (by decide)
 rw[cE]at e5
 rw[e0]
 simp -implicitDefEqProofs [ac5,e1,e2,e3,e4]
 obtain⟨many,bb,hmany,hif⟩:∃(many:Nat) (bb:Nat×Nat),many<=75/\(if(m2:Int)=7 then
   ((aa1 P (n+2)).call "_law_take" [D.ref r,D.int 76] (List.set s r (zP J))).bind λ d s =>
    R.ok
     (Ct.next [some (D.ref r),some (D.int (1+↑a)),some (D.int (1+↑c)),some d,none,none]) s
   else
    R.ok
     (Ct.next
      [some (D.ref r),some (D.int (1+↑a)),some (D.int (1+↑c)),some (D.int ↑m1),none,none])
     (List.set s r (zP J)))=.ok (.next [some (.ref r),some (.int (1+a)),some (.int (1+c)),some (.int many),none,none]) (s.set r (zP bb)):=by
  by_cases h7:(m2:Int)=7
  .exact⟨m3,b5,by lia,by rw[if_pos h7,e5];rfl⟩
  .exact⟨m1,J,by lia,by rw[if_neg h7]⟩
 rw[hif]
 simp -implicitDefEqProofs
 rw[zQ (by unfold Ww62;lia) (by unfold Ww62;lia)]
 simp only[R.bind_ok]
 refine zK (λ j U u=>∃(b:Nat×Nat) (l:List Dr) (x:Option D),(∀ d∈l,d.Ok ⟨a+1,c+1,[],[],[]⟩)/\l.length=j/\U=[some (.ref r),some (.int (1+a)),some (.int (1+c)),some (.int many),some (.ref s.length),x]/\u=s.set r (zP b)++[.lst (l.map Dr.d)]) ⟨bb,[],none,by simp,rfl,rfl,rfl⟩ (λ _ _ _ _ _=>rfl) ?_ ?_
 .rintro j d U u hj ⟨b,l,x,hl,z,rfl,rfl⟩
  obtain⟨b6,rfl⟩:=qT hj
  obtain⟨k1,Y,a2,G⟩:=ar9 (P:=P) (n+1) (t:=[.lst (l.map Dr.d)]) y b (1+c) (by lia) (ah2 (by lia))
  obtain⟨k2,c2,a6,Cc⟩:=ar9 (P:=P) (n+1) (t:=[.lst (l.map Dr.d)]) y Y (1+a) (by lia) (ah2 (by lia))
  obtain⟨k3,c3,b0,f3⟩:=ar9 (P:=P) (n+1) (t:=[.lst (l.map Dr.d)]) y c2 (1+c) (by lia) (ah2 (by lia))
  obtain⟨k4,c4,a5,f4⟩:=ar9 (P:=P) (n+1) (t:=[.lst (l.map Dr.d)]) y c3 4 (by decide) (by decide)
  refine qE (U:=[some (.ref r),some (.int (1+a)),some (.int (1+c)),some (.int many),some (.ref s.length),some (.int j)]) (s:=s.set r (zP c4)++[.lst ((l++[(⟨k1,97+k2,k3,k4⟩:Dr)]).map Dr.d)]) ?_ ⟨c4,l++[(⟨k1,97+k2,k3,k4⟩:Dr)],_,?_,?_,rfl,rfl⟩
  .simp -implicitDefEqProofs [turn,G,Cc,f3,f4,br9 (show k2<3 by lia)]
   rw[bV3 (by unfold LIM;simp;lia)]
   rfl
  .intro d hd
   rcases a8.mp hd with h|h
   .exact hl d h
   .rw[aV.mp h];constructor<;>simp only<;>lia
  .simp[z]
 .rintro U u ⟨b,l,x,hl,z,rfl,rfl⟩
  obtain⟨l1,Y,g1,G⟩:=aM4 (P:=P) n (s:=s.set r (zP b)++[.lst (l.map Dr.d)]) (r:=r) ⟨b,ze (ql y)⟩ (c+1) (by lia)
  rw[aE9 (by rw[aU];exact y),cE]at G
  obtain⟨l2,c2,g2,Cc⟩:=aM4 (P:=P) n (s:=s.set r (zP Y)++[.lst (l.map Dr.d)]) (r:=r) ⟨Y,ze (ql y)⟩ (c+1) (by omega)
  rw[aE9 (by rw[aU];exact y),cE]at Cc
  rw[show((c+1:Nat):Int)=1+(c:Int)by lia]at G Cc
  have a0:(s.set r (zP c2)++[O.lst (l.map Dr.d)])[s.length]?=some (.lst (l.map Dr.d)):=by rw[aP (by simp)];simp
  have Z:l.length<=75:=by
   rw[z];simp[qY];omega
  simp -implicitDefEqProofs [G,Cc,bs7,a0,mk]
  refine⟨⟨a+1,c+1,l1,l2,l⟩,c2,⟨by simp,by simp;lia,by simp,by simp;lia,g1,g2,λ x hx=>?_,Z⟩,?_⟩
  .have:=hl x hx
   exact⟨this.a,this.l,this.b,this.t⟩
  .rw[show((1:Int)+(a:Int))=((a+1:Nat):Int)by lia,show((1:Int)+(c:Int))=((c+1:Nat):Int)by lia]
   exact ay0 (bN5 ⟨a+1,c+1,l1,l2,l⟩) (by nofun) rfl
section
variable {P:Pr}
theorem am0 (j:Nat)(h:l[j]?=some d):ixM (.tup l) (.int (j)) s=.ok d s:=ix_tup h
theorem ixL (m:Mc) s :ixM m.d (.int 0) s=.ok (.int m.L) s:=am0 0 rfl
theorem ixR (m:Mc) s :ixM m.d (.int 1) s=.ok (.int m.R) s:=am0 1 rfl
theorem ixB (m:Mc) s :ixM m.d (.int 2) s=.ok (.tup (aa7 m.bg)) s:=am0 2 rfl
theorem ixE (m:Mc) s :ixM m.d (.int 3) s=.ok (.tup (aa7 m.en)) s:=am0 3 rfl
theorem ixD (m:Mc) s :ixM m.d (.int 4) s=.ok (.tup (m.ds.map Dr.d)) s:=am0 4 rfl
theorem am3 [Has P ab5] n (m:Mc) s :(aa1 P (n+1)).call "rooms_of" [m.d] s=.ok (.int m.R) s:=by
 refine(zh ab5 rfl).trans ?_
 simp [ab5,ixR]
theorem an2 (h:∀ d∈l,∀ n,d.bnd n=true):zr s (.tup l) s=.ok (.tup l) s:=zA (λ n=>by unfold D.bnd;exact zO h n) (by nofun)
theorem qJ [Has P ab3] n (m:Mc) s :(aa1 P (n+1)).call "begins_of" [m.d] s=.ok (.tup (aa7 m.bg)) s:=by
 refine(zh ab3 rfl).trans ?_
 simp -implicitDefEqProofs [ab3,ixB,an2 af5]
theorem ah5 [Has P ac0] n (m:Mc) s :(aa1 P (n+1)).call "ends_of" [m.d] s=.ok (.tup (aa7 m.en)) s:=by
 refine(zh ac0 rfl).trans ?_
 simp [ac0,ixE,an2 af5]
theorem ji [Has P aa8] n (m:Mc) s :(aa1 P (n+1)).call "doors_of" [m.d] s=.ok (.tup (m.ds.map Dr.d)) s:=by
 refine(zh aa8 rfl).trans ?_
 simp -implicitDefEqProofs [aa8,ixD,an2 aT4]
@[simp] theorem ag9 a b s :z0 .ne (.str [a]) (.str [b]) s=.ok (.bl (!decide (a=b))) s:=by
 show(match eqv s DEEP (.str [a]) (.str [b])with|some r=>R.ok (D.bl (!r)) s|none=>.bad)=_
 have:eqv s DEEP (.str [a]) (.str [b])=some ([a]==[b]):=rfl
 rw[this]
 have e:([a]==[b])=decide (a=b):=by rw[fT];simp
 rw[e]
@[simp] theorem aF4 a b s :z0 .eq (.str [a]) (.str [b]) s=.ok (.bl (decide (a=b))) s:=by
 show(match eqv s DEEP (.str [a]) (.str [b])with|some r=>R.ok (D.bl r) s|none=>.bad)=_
 have:eqv s DEEP (.str [a]) (.str [b])=some ([a]==[b]):=rfl
 rw[this]
 have e:([a]==[b])=decide (a=b):=by rw[fT];simp
 rw[e]
theorem bI5 {y:List Dr}(h0:0<=p)(h:y[p.toNat]?=some x):ixM (.tup (y.map Dr.d)) (.int p) s=.ok x.d s:=by
 have:=ix_tup (s:=s) (d:=x.d) (by rw[ay,h];rfl)
 rwa [show((p.toNat))=p by lia]at this
theorem aO4 (x:Dr) s :ixM x.d (.int 0) s=.ok (.int x.a) s:=am0 0 rfl
theorem aS6 (x:Dr) s :ixM x.d (.int 1) s=.ok (.str [x.l]) s:=am0 1 rfl
theorem aP9 (x:Dr) s :ixM x.d (.int 2) s=.ok (.int x.b) s:=am0 2 rfl
theorem bl1 (x:Dr) s :ixM x.d (.int 3) s=.ok (.int x.t) s:=am0 3 rfl
end
noncomputable def ab7 (S:Int->Prop):Option Int->Prop
 | none=>∀ c,¬ S c
 | some c=>S c/\∀ c',S c'->c<=c'
theorem ab7.eq {S }(h:ab7 S o)(h':ab7 S' y)(e:∀ c,S c↔S' c):o=y:=by
 cases o with
 | none =>
  cases y with
  | none=>rfl
  | some c=>exact absurd ((e c).mpr h'.1) (h c)
 | some c =>
  cases y with
  | none=>exact absurd ((e c).mp h.1) (h' c)
  | some c' =>
   have Cc:=h.2 c' ((e c').mpr h'.1)
   have z:=h'.2 c ((e c).mp h.1)
   rw[show c=c' by lia]
theorem ab7.congr {S }(h:ab7 S o)(e:∀ c,S c↔S' c):ab7 S' o:=by
 cases o with
 | none=>exact λ c hc=>h c ((e c).mpr hc)
 | some c=>exact⟨(e c).mp h.1,λ y hc=>h.2 y ((e y).mpr hc)⟩
noncomputable def minO:Option Int->Option Int->Option Int
 | none,x=>x
 | some a,none=>some a
 | some a,some b=>if b<a then some b else some a
theorem ab7.or {S }(h:ab7 S o)(h':ab7 S' y):ab7 (λ c=>S c\/S' c) (minO o y):=by
 cases o with
 | none =>
  cases y with
  | none=>exact λ c hc=>hc.elim (h c) (h' c)
  | some b=>exact⟨.inr h'.1,λ c hc=>hc.elim (λ z=>absurd z (h c)) (h'.2 c)⟩
 | some a =>
  cases y with
  | none=>exact⟨.inl h.1,λ c hc=>hc.elim (h.2 c) (λ z=>absurd z (h' c))⟩
  | some b =>
   show ab7 _ (if b<a then some b else some a)
   by_cases hlt:b<a
   .rw[if_pos hlt]
    exact⟨.inr h'.1,λ c hc=>hc.elim (λ z=>by have:=h.2 c z;lia) (h'.2 c)⟩
   .rw[if_neg hlt]
    exact⟨.inl h.1,λ c hc=>hc.elim (h.2 c) (λ z=>by have:=h'.2 c z;lia)⟩
theorem ab7.add {S}(h:ab7 S o) k :ab7 (λ c=>∃ y,S y/\c=y+k) (o.map (·+k)):=by
 cases o with
 | none=>rintro c ⟨y,h',_⟩;exact h y h'
 | some a=>exact⟨⟨a,h.1,rfl⟩,by rintro c ⟨y,h',rfl⟩;have:=h.2 y h';show a+k<=y+k;lia⟩
noncomputable def Wk (ds:List Dr):List Nat->Nat->Nat->Int->Prop
 | [],p,q,c=>p=q/\c=0
 | x::w,p,q,c=>∃ d∈ds,d.a=p/\d.l=x/\∃ c',Wk ds w d.b q c'/\c=(d.t)+c'
theorem au3 :∀ {w} {p q} {c},Wk G (w++[x]) p q c↔∃ d∈G,d.l=x/\d.b=q/\∃ z,Wk G w p d.a z/\c=z+(d.t)
 | [],p,q,c=>by
  constructor
  .rintro⟨d,hd,rfl,hx,z,⟨J,Cc⟩,rfl⟩
   exact⟨d,hd,hx,J,0,⟨rfl,rfl⟩,by lia⟩
  .rintro⟨d,hd,hx,hb,z,⟨J,Cc⟩,rfl⟩
   exact⟨d,hd,J.symm,hx,0,⟨hb,rfl⟩,by lia⟩
 | y::w,p,q,c=>by
  constructor
  .rintro⟨d,hd,ha,hy,z,h,rfl⟩
   obtain⟨e,he,hx,hb,c2,Cc,rfl⟩:=au3.mp h
   exact⟨e,he,hx,hb,d.t+c2,⟨d,hd,ha,hy,c2,Cc,rfl⟩,by lia⟩
  .rintro⟨e,he,hx,hb,z,⟨d,hd,ha,hy,c2,Cc,rfl⟩,rfl⟩
   exact⟨d,hd,ha,hy,c2+e.t,au3.mpr ⟨e,he,hx,hb,c2,Cc,rfl⟩,by lia⟩
noncomputable def Dr.turn (x:Dr):Dr:=⟨x.b,x.l,x.a,x.t⟩
def Mc.Wk (m:Mc)(w:List Nat)(c:Int):Prop:=∃ p∈m.bg,∃ q∈m.en,DV.Wk m.ds w p q c
noncomputable def Mc.turn (m:Mc):Mc:=⟨m.L,m.R,m.en,m.bg,m.ds.map Dr.turn⟩
noncomputable def ax0 (row:List (Option Int)):List D:=row.map zJ
theorem bj8 row :(ax0 row).length=row.length:=ax ..
theorem ax7 { T:Sto}(h:s.length<=k):(s++T).set k o=s++T.set (k - s.length) o:=by rw[iz,if_neg (by omega)]
def RowOk (S:Nat->Int->Prop)(row:List (Option Int)):Prop:=∀ k o,row[k]?=some o->ab7 (S k) o
theorem am6 {k:Nat}:∀ {l},inL s (.int k) (aa7 l)=some (decide (k∈l))
 | []=>rfl
 | a::l=>by
  have y:=am6 (s:=s) (k:=k) (l:=l)
  have e:eqv s DEEP (.int (a)) (.int (k))=some ((a)==(k:Int)):=rfl
  show(match eqv s DEEP (.int (a)) (.int (k)),inL s (.int k) (aa7 l)with|some a,some b=>some (a||b)|_,_=>none)=_
  rw[e,y]
  show some (((a)==(k:Int))||decide (k∈l))=some _
  congr 1
  rw[fT]
  simp
  constructor
  .rintro(h|h)
   .exact .inl (by lia)
   .exact .inr h
  .rintro(h|h)
   .exact .inl (by lia)
   .exact .inr h
theorem bo9 {k:Nat}:inM (.int k) (.tup (aa7 l)) s=.ok (decide (k∈l)) s:=by unfold inM;simp only[am6]
theorem ag6:∀ l:List Int,qi (l.map D.int)=some l
 | []=>rfl
 | a::l=>by rw[aS];unfold qi;rw[ag6 l];rfl
theorem aB7:∀(l:List Int) a ,(l.foldl min a=a\/l.foldl min a∈l)/\l.foldl min a<=a/\∀ y∈l,l.foldl min a<=y
 | [],a=>⟨.inl rfl,dB _,λ y hy=>by cases hy⟩
 | b::l,a=>by
  obtain⟨G,J,Cc⟩:=aB7 l (min a b)
  rw[dI]
  refine⟨?_,by omega,λ y hy=>?_⟩
  .rcases G with h|h
   .rw[h]
    rcases lM a b with z|z
    .left;omega
    .right;rw[show min a b=b by omega];exact az ..
   .exact .inr (ar _ h)
  .rcases av.mp hy with z|z
   .rw[z];omega
   .exact Cc y z
theorem ag8 l :ab7 (λ c=>c∈l) (minI l):=by
 cases l with
 | nil=>exact λ c hc=>by cases hc
 | cons a l =>
  obtain⟨J,Cc,G⟩:=aB7 l a
  refine⟨?_,λ y hy=>?_⟩
  .rcases J with h|h
   .rw[h];exact az ..
   .exact ar _ h
  .rcases av.mp hy with z|z
   .rw[z];exact Cc
   .exact G y z
theorem aX0 l s :mkD .min (l.map D.int) .non s=.ok (zJ (minI l)) s:=by
 unfold mkD
 simp only[ag6]
 cases minI l<;>rfl
def ae5 (S:Nat->Int->Prop)(x:Nat)(ds:List Dr)(k:Nat)(c:Int):Prop:=∃ d∈ds,d.l=x/\d.b=k/\∃ c',S d.a c'/\c=c'+(d.t)
theorem ay9 {S}(h:RowOk (ae5 S x Cc) G)(hn:∀ y,¬(d.l=x/\S d.a y)):RowOk (ae5 S x (Cc++[d])) G:=λ k o hk=>by
 refine(h k o hk).congr λ c=>?_
 constructor
 .rintro⟨e,he,r⟩;exact⟨e,a8.mpr (.inl he),r⟩
 .rintro⟨e,he,hl,hb,y,hs,r⟩
  rcases a8.mp he with z|z
  .exact⟨e,z,hl,hb,y,hs,r⟩
  .rw[aV.mp z]at hl hs;exact absurd ⟨hl,hs⟩ (hn y)
theorem aX1 {S}(h:RowOk (ae5 S x Cc) y)(hx:d.l=x)(G:ab7 (S d.a) (some i))(ho:y[d.b]?=some o) :
  RowOk (ae5 S x (Cc++[d])) (y.set d.b (minO o (some (i+d.t)))):=λ k J hk=>by
 have hlt:d.b<y.length:=(ac.mp ho).1
 by_cases e:d.b=k
 .subst e
  rw[aJ hlt]at hk
  cases hk
  refine((h _ o ho).or (G.add d.t)).congr λ c=>?_
  constructor
  .rintro(⟨e,he,r⟩|r)
   .exact⟨e,a8.mpr (.inl he),r⟩
   .exact⟨d,a8.mpr (.inr (aV.mpr rfl)),hx,rfl,r⟩
  .rintro⟨e,he,hl,hb,r⟩
   rcases a8.mp he with z|z
   .exact .inl ⟨e,z,hl,hb,r⟩
   .rw[aV.mp z]at r;exact .inr r
 .rw[aB e]at hk
  refine(h k J hk).congr λ c=>?_
  constructor
  .rintro⟨e,he,r⟩;exact⟨e,a8.mpr (.inl he),r⟩
  .rintro⟨e',he,hl,hb,r⟩
   rcases a8.mp he with z|z
   .exact⟨e',z,hl,hb,r⟩
   .rw[aV.mp z]at hb;exact absurd hb e
def qA (m:Mc)(w:List Nat)(k:Nat)(c:Int):Prop:=∃ p∈m.bg,Wk m.ds w p k c
theorem al5 :ae5 (qA m w) x m.ds k c↔qA m (w++[x]) k c:=by
 constructor
 .rintro⟨d,hd,hl,hb,y,⟨p,hp,h⟩,rfl⟩
  exact⟨p,hp,au3.mpr ⟨d,hd,hl,hb,y,h,rfl⟩⟩
 .rintro⟨p,hp,h⟩
  obtain⟨d,hd,hl,hb,y,z,rfl⟩:=au3.mp h
  exact⟨d,hd,hl,hb,y,⟨p,hp,z⟩,rfl⟩
theorem ax8 (Y:row.length=m.R)(Z:∀ k∈m.en,k<m.R)(h:RowOk (qA m w) row):ab7 (m.Wk w) (minI (m.en.filterMap λ q=>row.getD q none)):=by
 have at_:∀ q∈m.en,∃ o,row[q]?=some o/\row.getD q none=o/\ab7 (qA m w q) o:=λ q hq=>by
  have hlt:q<row.length:=by rw[Y];exact Z q hq
  exact⟨row[q],ag hlt,by simp[hlt],h q _ (ag hlt)⟩
 have Cc:∀ c,c∈(m.en.filterMap λ q=>row.getD q none)↔∃ q∈m.en,row.getD q none=some c:=λ c=>br
 have hl:=ag8 (m.en.filterMap λ q=>row.getD q none)
 cases e:minI (m.en.filterMap λ q=>row.getD q none)with
 | none =>
  rw[e]at hl
  rintro c ⟨p,hp,q,hq,hw⟩
  obtain⟨o,h1,J,G⟩:=at_ q hq
  cases o with
  | none=>exact G c ⟨p,hp,hw⟩
  | some y=>exact hl y ((Cc y).mpr ⟨q,hq,J⟩)
 | some z =>
  rw[e]at hl
  obtain⟨q,hq,hz⟩:=(Cc z).mp hl.1
  refine⟨?_,λ c hc=>?_⟩
  .obtain⟨o,h1,J,G⟩:=at_ q hq
   rw[J]at hz;subst hz
   obtain⟨p,hp,hw⟩:=G.1
   exact⟨p,hp,q,hq,hw⟩
  .obtain⟨p,hp,q,hq,hw⟩:=hc
   obtain⟨o,h1,J,G⟩:=at_ q hq
   cases o with
   | none=>exact absurd ⟨p,hp,hw⟩ (G c)
   | some y =>
    have h4:=G.2 c ⟨p,hp,hw⟩
    have h5:=hl.2 y ((Cc y).mpr ⟨q,hq,J⟩)
    lia
theorem qp {α β:Type}{f g:α->Option β}:∀ {l:List α},(∀ x∈l,f x=g x)->l.filterMap f=l.filterMap g
 | [],_=>rfl
 | a::l,h=>by rw[a9,a9,h a (az ..),qp λ x hx=>h x (ar _ hx)]
theorem bB9 (z:s[a]?=some (.lst l))(y:s[b]?=some (.lst m))(h:l.length+m.length<=LIM):qF .add (.ref a) (.ref b) s=.ok (.ref s.length) (s++[.lst (l++m)]):=by
 show(match s[a]?,s[b]? with
  | some (.lst l),some (.lst m)=>if l.length+m.length<=LIM then ad1 (.lst (l++m)) s else .bad
  | _,_=>.bad)=_
 rw[z,y]
 simp only
 rw[if_pos h];rfl
theorem good_of {L}(h:w.length<=200)(hw:Lts L w):bS9 L (.str w)=true:=by
 unfold bS9
 simp only[h,decide_true,dQ,aZ,decide_eq_true_eq]
 exact hw
theorem ix_str {j :Nat}(hj:l[j]?=some c):ixM (.str l) (.int (j)) s=.ok (.str [c]) s:=by
 have hl:=(ac.mp hj).1
 have e:=(ac.mp hj).2
 simp[ixM,ixn,hl,e]
theorem qI {s:Sto}:(s++[o])[s.length]?=some o:=by simp
theorem as9 :∀ {l},D.bndL n l=true->∀ x∈l,x.bnd n=true
 | [],_,x,hx=>by cases hx
 | d::l,h,x,hx=>by
  unfold D.bndL at h
  rw[ak]at h
  rcases av.mp hx with rfl|hx
  .exact h.1
  .exact as9 h.2 x hx
theorem bx7 (h:a.length+b.length<=LIM):qF .add (.tup a) (.tup b) s=.ok (.tup (a++b)) s:=by
 show(if a.length+b.length<=LIM then _ else _:M D) s=_;rw[if_pos h];rfl
theorem enumL_len:∀ l m ,(ad6 m l).length=l.length
 | [],_=>rfl
 | a::l,m=>by unfold ad6;rw[aL,aL,enumL_len l]
@[simp] theorem cc7 e :evI F (.enum (.seq e)) U s=(ev F e U s).bind λ d s=>(at2 d s).bind λ q s=>.ok ⟨ad6 0 q.its,q.src⟩ s:=rfl
noncomputable def row (m:Nat)(f:Nat->Int):List D:=(aH m).map λ j=>.int (f j)
@[simp] theorem cl1 :(row m f).length=m:=by unfold row;simp
theorem bL4 s :ak4 (.tup l) s=.ok ⟨l,[]⟩ s:=rfl
theorem aJ5 (P:Env->Sto->Prop) f l U s (h:P U s)
  (o:∀ U s,P U s->ok s=true) (st:∀ d∈l,∀ U s,P U s->∃ U' s',g d U s=.ok (some (f d),U') s'/\P U' s'):∃ U' s',ad9 ok g l U s=.ok (l.map f) s'/\P U' s':=by
 obtain⟨U',s',e,p⟩:=zY P (λ d=>some (f d)) l U s h o st
 refine⟨U',s',?_,p⟩
 rw[e];congr 1;induction l<;>simp_all
theorem aH8 (P:Env->Sto->Prop) f (n:Nat) U s (h:P U s)
  (o:∀ U s,P U s->ok s=true) (st:∀ j,j<n->∀ U s,P U s->∃ U' s',g (.int (j:Int)) U s=.ok (some (f j),U') s'/\P U' s'):∃ U' s',ad9 ok g (qY 0 (n)) U s=.ok ((aH n).map f) s'/\P U' s':=by
 obtain⟨U',s',e,p⟩:=aJ5 (g:=g) P (λ d=>match d with|.int i=>f i.toNat|d=>d) (qY 0 (n)) U s h o λ d hd U s hp=>by
  obtain⟨j,hj⟩:=fF hd
  obtain⟨y,rfl⟩:=qT hj
  obtain⟨U',s',e,p⟩:=st j (by lia) U s hp
  refine⟨U',s',?_,p⟩
  rw[ir,e];rfl
 refine⟨U',s',?_,p⟩
 rw[e]
 congr 1
 unfold qY
 rw[cR,show((n:Int) - 0).toNat=n by lia]
 exact ee λ j _=>by
  show f ((0)+(j:Int)).toNat=f j
  congr 1;omega
theorem qU (n:Nat):(qY 0 (n)).length=n:=by simp[qY]
theorem qN {n :Nat}(h:(qY 0 (n:Int))[j]?=some d):j<n/\d=.int (j):=by
 obtain⟨y,rfl⟩:=qT h
 exact⟨by omega,by rw[ir]⟩
theorem bF6 { t:Sto}(h:l.length<LIM):meth .append (.ref s.length) [v] (s++.lst l::t)=.ok .non (s++.lst (l++[v])::t):=by
 rw[ar6 (by rw[aP (aj _)];simp) h,fg _ _ (aj _)]
 simp
noncomputable def bY8 (m:Nat)(f:Nat->Nat->Int):Sto:=(aH m).map λ i=>.lst (row m (f i))
@[simp] theorem bP0 :(bY8 m f).length=m:=by unfold bY8;simp
noncomputable def shN (f:Nat->Nat->Int)(i j:Nat):Nat->Int
 | 0=>3
 | k+1=>let b:=max (max (f i k) (if f k k=1 then 2 else f k k)) (f k j);if b<shN f i j k then b else shN f i j k
noncomputable def sh (m:Nat)(f:Nat->Nat->Int)(i j:Nat):Int:=shN f i j m
theorem aH4 {s:Sto}(h:l.length<LIM):meth .append (.ref s.length) [v] (s++[.lst l])=.ok .non (s++[.lst (l++[v])]):=bF6 h
inductive Stp where
 | let_ (c:Nat)|pair (i j:Nat)|sharp (i:Nat)
noncomputable def Stp.d:Stp->D
 | .let_ c=>.tup [.str [108,101,116,116,101,114],.str [c]]
 | .pair i j=>.tup [.str [112,97,105,114],.int i,.int j]
 | .sharp i=>.tup [.str [115,104,97,114,112],.int i]
theorem qu (h:∀ d∈l,d.ncl=true):D.nclL l=true:=by
 induction l with
 | nil=>rfl
 | cons d l ih=>unfold D.nclL;rw[h d (az ..),ih λ x hx=>h x (ar _ hx)];rfl
theorem aN1 :D.nclL (aa7 l)=true:=qu λ d hd=>by obtain⟨x,_,rfl⟩:=aK.mp hd;rfl
theorem ag5 {l:List Int}:D.nclL (l.map D.int)=true:=qu λ d hd=>by obtain⟨x,_,rfl⟩:=aK.mp hd;rfl
theorem bF7 {s:Sto}(h:s.all O.ncl=true)(ho:o.ncl=true):(s.set r o).all O.ncl=true:=by
 rw[aZ]at h ⊢
 intro x hx
 rcases gB hx with h1|h1
 .exact h x h1
 .rw[h1];exact ho
section
variable {s:Sto} {r:Nat} {b:Int} {A B Cc:List D} {T:Sto}
end
section
variable {m:Nat} {f:Nat->Nat->Int} {x:Int}
end
noncomputable def ck4 (a c:Int)(vs:List Int):Stp->Int
 | .let_ _=>a
 | .pair i j=>vs.getD i 0+vs.getD j 0
 | .sharp i=>vs.getD i 0*c
noncomputable def vl (a c:Int)(l:List Stp):List Int:=l.foldl (λ vs x=>vs++[ck4 a c vs x]) []
theorem am1 {α:Type}{l:List α}{x}(h:l[k]?=some x):l.take (k+1)=l.take k++[x]:=by
 rw[List.take_succ,h];rfl
section
variable {F:Fns} {U:Env} {s:Sto}
noncomputable def apV (F:Fns)(d:D)(l:List D)(s:Sto):R D:=match d with
 | .fn f=>F.call f l s
 | .clo id cs=>F.lam id cs l s
 | _=>.bad
theorem bo5 es (h:U[i]?=some (some d)):ev F (.callV i es) U s=(evs F es U s).bind λ l s=>apV F d l s:=by
 show(evs F es U s).bind (λ l s=>match U[i]? with
  | some (some (.fn f))=>F.call f l s
  | some (some (.clo id cs))=>F.lam id cs l s
  | _=>.bad)=_
 rw[h]
 cases d<;>rfl
theorem au8 {id} as (h:ae7 U y=some cs):ai7 F (.lam id y as) U s=(ai7 F as U s).bind λ l s=>.ok (.clo id cs::l) s:=by
 show(match ae7 U y with
  | some cs=>(ai7 F as U s).bind λ l s=>R.ok (D.clo id cs::l) s
  | none=>.bad)=_
 rw[h]
end
theorem zL {s:Sto}(h:s.all O.ncl=true)(ho:o.ncl=true):(s++[o]).all O.ncl=true:=by rw[List.all_append,h];simp[ho]
noncomputable def Stp.t (c:Int):Stp->D
 | .sharp i=>.tup [.str [116,105,109,101,115],.int i,.int c]
 | x=>x.d
theorem aX2 (ho:o.bnd s.length=true):zr s (.ref s.length) (s++[o])=.ok (.ref s.length) (s++[o]):=by
 have:=ay3 (t:=[]) (u:=[]) ho
 simpa using this
noncomputable def gdD (m:Nat)(Ww:Nat->Nat->D):D:=.tup ((aH m).map λ i=>.tup ((aH m).map λ j=>Ww i j))
theorem aY9 (h:∀ i j n,(Ww i j).bnd n=true) n :(gdD m Ww).bnd n=true:=by
 unfold gdD D.bnd
 refine zO (λ d hd n=>?_) n
 obtain⟨i,_,rfl⟩:=aK.mp hd
 unfold D.bnd
 refine zO (λ d hd n=>?_) n
 obtain⟨j,_,rfl⟩:=aK.mp hd
 exact h i j n
theorem aD7 [Has P ad3] n {m:Nat}(Y:m<=1000){d}{s}{Ww}(J:∀ i j n,(Ww i j).bnd n=true)
  (h:∀ i j,i<m->j<m->apV (aa1 P n) d [.int i,.int j] (s++[.lst ((aH i).map λ i=>.tup ((aH m).map λ j=>Ww i j))])=.ok (Ww i j) (s++[.lst ((aH i).map λ i=>.tup ((aH m).map λ j=>Ww i j))])) :
  (aa1 P (n+1)).call "grid" [.int m,d] s=.ok (gdD m Ww) s:=by
 have Cc:(aa1 P (n+1)).call "grid" [.int m,d] s=_:=zh ad3 rfl
 rw[Cc,show(dN some [D.int m,d]++aC ad3.vs none)=[some (D.int m),some d,none,none]from rfl]
 simp -implicitDefEqProofs only[ad3]
 simp -implicitDefEqProofs only[qS,ex_asg,ev_lst,evs_nil,R.bind_ok,alloc_eq,qz,setV_s,setV_0,fS,setC_some,nxt_next,ex_for,evI_rng1,jc,ja,qZ]
 rw[zQ (by unfold Ww62;lia) (by unfold Ww62;lia)]
 simp only[R.bind_ok]
 rw[R.bind_assoc]
 refine aj9 (λ i U t=>∃(x:Option D),U=[some (D.int m),some d,some (.ref s.length),x]/\t=s++[.lst ((aH i).map λ i=>.tup ((aH m).map λ j=>Ww i j))]) ⟨none,rfl,rfl⟩ (λ _ _ _ _ _=>rfl) ?_ ?_
 .rintro i dd U t hi ⟨x,rfl,rfl⟩
  have y:=(qN hi).1
  rw[(qN hi).2]
  generalize z:s++[O.lst ((aH i).map λ i=>D.tup ((aH m).map λ j=>Ww i j))]=S
  have e1:ad9 (λ s1=>chk S s1 []) (ao5 (aa1 P n) (.one 0) (.callV 1 (.cons (.var 2) (.cons (.var 0) .nil)))) (qY 0 (m:Int)) (qe [some (D.int m),some d,some (.ref s.length),some (.int (i:Int))] [none,some 1,some 3]) S=.ok ((aH m).map λ j=>Ww i j) S:=by
   obtain⟨U1,s1,e1,G⟩:=aH8 (ok:=λ s1=>chk S s1 []) (g:=ao5 (aa1 P n) (.one 0) (.callV 1 (.cons (.var 2) (.cons (.var 0) .nil)))) (λ U u=>u=S/\∃ x,U=[x,some d,some (.int i)]) (λ j=>Ww i j) m (qe [some (D.int m),some d,some (.ref s.length),some (.int (i:Int))] [none,some 1,some 3]) S ⟨rfl,none,rfl⟩ (λ _ _ _=>rfl) (by
    rintro j hj U u ⟨rfl,x,rfl⟩
    refine⟨[some (.int j),some d,some (.int i)],u,?_,rfl,_,rfl⟩
    have hc:=h i j y hj
    rw[z]at hc
    unfold ao5
    simp -implicitDefEqProofs only[qz,setV_0]
    rw[bo5 (d:=d) _ rfl]
    simp -implicitDefEqProofs only[evs_cons,evs_nil,jc,ja,qZ,R.bind_ok,hc])
   obtain⟨rfl,_⟩:=G
   exact e1
  have e2:turn (aa1 P n) (.one 3) (.cons (.ex (.meth .append (.var 2) (.cons (.mk .tuple (.comp (.one 0) (.rng1 (.var 0)) (.callV 1 (.cons (.var 2) (.cons (.var 0) .nil))) [none,some 1,some 3])) .nil))) .nil) (.int i) [some (D.int m),some d,some (.ref s.length),x] S=.ok (.next [some (D.int m),some d,some (.ref s.length),some (.int i)]) (s++[.lst ((aH (i+1)).map λ i=>.tup ((aH m).map λ j=>Ww i j))]):=by
   unfold turn
   simp -implicitDefEqProofs only[qz,setV_s,setV_0,fS,qS,exs_nil,ex_ex,ev_meth,evs_cons,evs_nil,ev_mk,aj8,evI_rng1,jc,ja,qZ,R.bind_ok]
   rw[zQ (by unfold Ww62;lia) (by unfold Ww62;lia)]
   simp only[R.bind_ok]
   rw[if_pos (by rw[qU];unfold LIM;lia),e1,<-z]
   simp -implicitDefEqProofs only[R.bind_ok,mk]
   rw[aH4 (by unfold LIM;simp;lia),fR,cM]
   rfl
  rw[e2]
  show ∃ x,_
  exact⟨some (.int i),rfl,rfl⟩
 .rintro U t ⟨x,rfl,rfl⟩
  rw[qU]
  have h0:(s++[O.lst ((aH m).map λ i=>D.tup ((aH m).map λ j=>Ww i j))])[s.length]?=some (.lst ((aH m).map λ i=>D.tup ((aH m).map λ j=>Ww i j))):=by rw[aP (aj _)];simp
  simp -implicitDefEqProofs only[nxt_next,qS,exs_nil,ex_ret,ev_mk,evL_seq,jc,ja,qZ,R.bind_ok,bs7,h0,mk,nxt_ret,fin_ret]
  exact zM (d:=gdD m Ww) (aY9 J) (by nofun)
section
variable {P:Pr} [Has P ad3] [Has P ap2] [HasL P ah1]
end
end DV
end
noncomputable section
namespace DV
noncomputable def gdO (m:Nat)(f:Nat->Nat->Option Int):D:=gdD m λ i j=>zJ (f i j)
theorem aj0 o :(zJ o).ncl=true:=by cases o<;>rfl
theorem am4 n :(gdO m f).bnd n=true:=aY9 (λ i j n=>zZ _ n) n
theorem al1 :(gdO m f).ncl=true:=by
 unfold gdO gdD D.ncl
 refine qu λ d hd=>?_
 obtain⟨i,_,rfl⟩:=aK.mp hd
 unfold D.ncl
 refine qu λ d hd=>?_
 obtain⟨j,_,rfl⟩:=aK.mp hd
 exact aj0 _
noncomputable def rowO (m:Nat)(f:Nat->Option Int):List D:=(aH m).map λ j=>zJ (f j)
theorem aL3 :(rowO m f).length=m:=by unfold rowO;simp
theorem aH3 (h:j<m):(rowO m f)[j]?=some (zJ (f j)):=by unfold rowO;rw[ay,cN h];rfl
theorem qt (h:i<m) s :ixM (gdO m f) (.int (i)) s=.ok (.tup (rowO m (f i))) s:=ix_tup (by rw[ay,cN h];rfl)
theorem qg (h:j<m) s :ixM (.tup (rowO m f)) (.int (j)) s=.ok (zJ (f j)) s:=ix_tup (aH3 h)
theorem ah8 :bi .len [gdO m f] s=.ok (.int m) s:=by unfold gdO gdD;rw[aG1];simp
theorem bc4 (h:∀ i j,i<m->j<m->f i j=g i j):gdO m f=gdO m g:=by
 unfold gdO gdD
 congr 1
 refine ee λ i y=>?_
 congr 1
 exact ee λ j hj=>by show zJ (f i j)=zJ (g i j);rw[h i j (cb.mp y) (cb.mp hj)]
noncomputable def addO:Option Int->Option Int->Option Int
 | some a,some b=>some (a+b)
 | _,_=>none
theorem ao0:∀ l:List (Option Int),(ax0 l).filterMap (λ d=>if d=D.non then none else some d)=(l.filterMap id).map D.int
 | []=>rfl
 | o::l=>by
  have h:=ao0 l
  unfold ax0 at h ⊢
  cases o with
  | none=>rw[aS,a9,a9];simpa using h
  | some i=>rw[aS,a9,a9];simpa using h
theorem as7 [Has P ac3] n {s}{q}{l}(hq:s[q]?=some (.lst (ax0 l)))(hl:l.length<=1000):(aa1 P (n+1)).call "least" [.ref q] s=.ok (zJ (minI (l.filterMap id))) s:=by
 have z:(aa1 P (n+1)).call "least" [.ref q] s=_:=zh ac3 rfl
 rw[z,show(dN some [D.ref q]++aC ac3.vs none)=[some (D.ref q)]from rfl]
 have y:ak4 (.ref q) s=.ok ⟨ax0 l,[q]⟩ s:=by simp only[ak4,hq]
 obtain⟨U1,s1,e1,rfl,_⟩:=zY (ok:=λ s1=>chk s s1 [q]) (g:=ah6 (aa1 P n) (.one 0) (.notN (.var 0)) (.var 0)) (λ U u=>u=s/\∃ x,U=[x]) (λ d=>if d=D.non then none else some d) (ax0 l) [none] s ⟨rfl,none,rfl⟩ (λ _ u h=>by obtain⟨rfl,_⟩:=h;simp[chk]) (by
  rintro d hd U u ⟨rfl,x,rfl⟩
  refine⟨[some d],u,?_,rfl,_,rfl⟩
  unfold ah6
  by_cases hn:d=.non
  .simp only[jc,ev_notN,R.bind_ok,qz,setV_0,ja,tru_bl,if_true,if_false,Bool.false_eq_true,decide_true,Bool.not_true,hn]
  .simp only[jc,ev_notN,R.bind_ok,qz,setV_0,ja,tru_bl,if_true,if_false,decide_false,Bool.not_false,hn])
 rw[ao0]at e1
 simp only[ac3]
 simp only[qS,ex_ret,jc,ev_cst,ev_mkD,evI_seq,Cn_non,R.bind_ok,ja,nxt_ret,fin_ret,zR,y,if_pos (show(ax0 l).length<=LIM by rw[bj8];unfold LIM;lia),show qe [some (D.ref q)] [none]=[none]from rfl,e1,aX0]
 exact aR4
theorem bi8 [Has P ac6] n  a b  s :(aa1 P (n+1)).call "added" [zJ a,zJ b] s=.ok (zJ (addO a b)) s:=by
 have h:(aa1 P (n+1)).call "added" [zJ a,zJ b] s=_:=zh ac6 rfl
 rw[h,show(dN some [zJ a,zJ b]++aC ac6.vs none)=[some (zJ a),some (zJ b)]from rfl]
 simp only[ac6]
 cases a with
 | none=>simp only[qS,exs_nil,ex_ite,ex_ret,jc,ev_cst,ev_or,ev_isN,Cn_non,R.bind_ok,ja,qZ,nxt_ret,fin_ret,tru_bl,if_true,decide_true,zx,eq_self _];exact ao2
 | some a=>cases b with
  | none=>simp only[qS,exs_nil,ex_ite,ex_ret,jc,ev_cst,ev_or,ev_isN,Cn_non,R.bind_ok,ja,qZ,nxt_ret,fin_ret,tru_bl,if_true,if_false,Bool.false_eq_true,decide_true,decide_false,zx,zF,eq_self _,show(D.int a=D.non)=False from eq_false (by nofun)];exact ao2
  | some b=>simp only[qS,exs_nil,ex_ite,ex_ret,jc,ev_cst,ev_bin,ev_or,ev_isN,Cn_non,R.bind_ok,ja,qZ,nxt_next,nxt_ret,fin_ret,add_int,tru_bl,if_false,Bool.false_eq_true,decide_false,zF,show(D.int a=D.non)=False from eq_false (by nofun),show(D.int b=D.non)=False from eq_false (by nofun)];exact az8
noncomputable def prO (m:Nat)(f g:Nat->Nat->Option Int)(i j:Nat):Option Int:=minI (((aH m).map λ k=>addO (f i k) (g k j)).filterMap id)
theorem av9 {s:Sto}(hs:s.all O.ncl=true){Ww:Nat->Nat->D}(h:∀ i j,(Ww i j).ncl=true):(s++[O.lst ((aH i).map λ i=>D.tup ((aH m).map λ j=>Ww i j))]).all O.ncl=true:=by
 refine zL hs (qu λ d hd=>?_)
 obtain⟨x,_,rfl⟩:=aK.mp hd
 unfold D.ncl
 exact qu λ d hd=>by obtain⟨x,_,rfl⟩:=aK.mp hd;exact h _ _
section
variable {P:Pr} [Has P ad3]
theorem bh8 [Has P ad0][HasL P ab4] n {m:Nat}(J:m<=5){s}(hs:s.all O.ncl=true) :
  (aa1 P (n+3)).call "plain" [.int m] s=.ok (gdO m λ i j=>if i=j then some 0 else none) s:=by
 have z:(aa1 P (n+3)).call "plain" [.int m] s=_:=zh ad0 rfl
 have hg:=aD7 (P:=P) (n+1) (m:=m) (by lia) (d:=.clo "plain.0" []) (λ _ _ n=>zZ _ n) (λ i j G hj=>by
  generalize Cc:s++[O.lst ((aH i).map λ i=>D.tup ((aH m).map λ j=>zJ (if i=j then some 0 else none)))]=S
  have y:S.all O.ncl=true:=by rw[<-Cc];exact av9 hs (λ _ _=>aj0 _)
  refine(aD9 ab4 rfl rfl (by rw[y];rfl)).trans ?_
  show(ev (aa1 P n) ab4.body [some (.int i),some (.int j)] S).bind (zr S)=_
  simp only[ab4]
  by_cases h:i=j
  .simp only[jc,ev_cst,ev_cmp,ev_ite,Cn_int,Cn_non,R.bind_ok,ja,qZ,eq_int,tru_bl,if_true,decide_true,show((i)=(j:Int))=True from eq_true (by lia),if_pos h,zF];exact az8
  .simp only[jc,ev_cst,ev_cmp,ev_ite,Cn_int,Cn_non,R.bind_ok,ja,qZ,eq_int,tru_bl,if_false,Bool.false_eq_true,decide_false,show((i)=(j:Int))=False from eq_false (by lia),if_neg h,zx];exact ao2)
 rw[z,show(dN some [D.int m]++aC ad0.vs none)=[some (D.int m)]from rfl]
 simp only[ad0]
 simp only[qS,ex_ret,jc,evas_ex,R.bind_ok,ja,au4]
 rw[au8 _ rfl]
 have e:gdD m (λ i j=>zJ (if i=j then some 0 else none))=gdO m (λ i j=>if i=j then some 0 else none):=rfl
 simp only[evas_nil,R.bind_ok,nxt_ret,fin_ret,hg,e,if_pos (show((gdO m λ i j=>if i=j then some 0 else none).ncl&&s.all O.ncl)=true by rw[al1,hs];rfl)]
 exact zA am4 (by nofun)
theorem am9 [Has P ac3][Has P ac6][Has P ab8][HasL P aa9] n {m}(J:m<=5) f g {s}(hs:s.all O.ncl=true) :
  (aa1 P (n+4)).call "product" [gdO m f,gdO m g] s=.ok (gdO m (prO m f g)) s:=by
 have z:(aa1 P (n+4)).call "product" [gdO m f,gdO m g] s=_:=zh ab8 rfl
 have hg:=aD7 (P:=P) (n+2) (m:=m) (by omega) (d:=.clo "product.0" [.int m,gdO m f,gdO m g]) (λ _ _ n=>zZ _ n) (λ i j Cc hj=>by
  generalize G:s++[O.lst ((aH i).map λ i=>D.tup ((aH m).map λ j=>zJ (prO m f g i j)))]=S
  have y:S.all O.ncl=true:=by rw[<-G];exact av9 hs (λ _ _=>aj0 _)
  refine(aD9 aa9 rfl rfl (by rw[y];simp[D.nclL,D.ncl,al1])).trans ?_
  show(ev (aa1 P (n+1)) aa9.body [some (.int i),some (.int j),some (.int m),some (gdO m f),some (gdO m g)] S).bind (zr S)=_
  obtain⟨U1,s1,e1,rfl,_⟩:=aH8 (ok:=λ s1=>chk S s1 []) (g:=ao5 (aa1 P (n+1)) (.one 0) (.call "added" (.ex (.ix (.ix (.var 1) (.var 2)) (.var 0)) (.ex (.ix (.ix (.var 3) (.var 0)) (.var 4)) .nil)))) (λ U u=>u=S/\∃ x,U=[x,some (gdO m f),some (.int i),some (gdO m g),some (.int j)]) (λ k=>zJ (addO (f i k) (g k j))) m [none,some (gdO m f),some (.int i),some (gdO m g),some (.int j)] S ⟨rfl,none,rfl⟩ (λ _ _ _=>rfl) (by
   rintro k hk U u ⟨rfl,x,rfl⟩
   refine⟨[some (.int k),some (gdO m f),some (.int i),some (gdO m g),some (.int j)],u,?_,rfl,_,rfl⟩
   unfold ao5
   simp -implicitDefEqProofs only[jc,ev_ix,ev_call,evas_nil,evas_ex,R.bind_ok,qz,setV_0,ja,qZ,qt Cc,qt hk,qg hk,qg hj,bi8 n])
  have er:((aH m).map λ k=>zJ (addO (f i k) (g k j)))=ax0 ((aH m).map λ k=>addO (f i k) (g k j)):=by unfold ax0;rw[cR];rfl
  rw[er]at e1
  have h:∀ q (s:Sto),mk .list q s=.ok (.ref s.length) (s++[.lst q]):=λ _ _=>rfl
  have el:=as7 (P:=P) n (s:=s1++[O.lst (ax0 ((aH m).map λ k=>addO (f i k) (g k j)))]) (q:=s1.length) (l:=(aH m).map λ k=>addO (f i k) (g k j)) (by rw[aP (aj _)];simp) (by simp;lia)
  simp -implicitDefEqProofs only[aa9]
  simp -implicitDefEqProofs only[jc,ev_call,ev_mk,evas_nil,evas_ex,evI_rng1,R.bind_ok,ja,qZ,aj8,zQ (s:=s1) (i:=(m:Int)) (by unfold Ww62;lia) (by unfold Ww62;lia),if_pos (show(qY 0 (m:Int)).length<=LIM by rw[qU];unfold LIM;lia),show qe [some (D.int (i:Int)),some (D.int (j:Int)),some (D.int (m:Int)),some (gdO m f),some (gdO m g)] [none,some 3,some 0,some 4,some 1]=[none,some (gdO m f),some (.int i),some (gdO m g),some (.int j)]from rfl,e1,h,el]
  exact zM (zZ _) (ak0 _))
 rw[z,show(dN some [gdO m f,gdO m g]++aC ab8.vs none)=[some (gdO m f),some (gdO m g),none]from rfl]
 simp -implicitDefEqProofs only[ab8]
 simp -implicitDefEqProofs only[qS,ex_asg,ex_ret,jc,ev_bi,evs_nil,evs_cons,evas_ex,R.bind_ok,qz,setV_s,setV_0,ja,qZ,Option.map_some,setC_some,nxt_next,ah8,au4]
 rw[au8 (cs:=[.int m,gdO m f,gdO m g]) _ rfl]
 have e:gdD m (λ i j=>zJ (prO m f g i j))=gdO m (prO m f g):=rfl
 simp -implicitDefEqProofs only[evas_nil,R.bind_ok,nxt_ret,fin_ret,hg,e,if_pos (show((gdO m (prO m f g)).ncl&&s.all O.ncl)=true by rw[al1,hs];rfl)]
 exact zA am4 (by nofun)
end
theorem ab7.low {S}(Cc:∀ x∈l,S x)(z:∀ c,S c->∃ x∈l,x<=c):ab7 S (minI l):=by
 have h:=ag8 l
 cases e:minI l with
 | none =>
  rw[e]at h
  exact λ c hc=>by obtain⟨x,hx,_⟩:=z c hc;exact h x hx
 | some i =>
  rw[e]at h
  refine⟨Cc i h.1,λ c hc=>?_⟩
  obtain⟨x,hx,y⟩:=z c hc
  exact kg (h.2 x hx) y
theorem ay1 {A B:Nat->Nat->Int->Prop}(Cc:∀ i j,i<m->j<m->ab7 (A i j) (f i j))(hg:∀ i j,i<m->j<m->ab7 (B i j) (g i j))(z:i<m)(hj:j<m) :
  ab7 (λ c=>∃ k,k<m/\∃ a b,A i k a/\B k j b/\c=a+b) (prO m f g i j):=by
 unfold prO
 refine ab7.low (λ x hx=>?_) λ c hc=>?_
 .obtain⟨o,ho,e⟩:=br.mp hx
  obtain⟨k,hk,rfl⟩:=aK.mp ho
  have hk:=cb.mp hk
  have y:=Cc i k z hk
  have h:=hg k j hk hj
  cases e1:f i k with
  | none=>rw[e1]at e;cases e
  | some a =>
   cases e2:g k j with
   | none=>rw[e1,e2]at e;cases e
   | some b =>
    rw[e1]at y;rw[e2]at h
    rw[e1,e2]at e
    cases e
    exact⟨k,hk,a,b,y.1,h.1,rfl⟩
 .obtain⟨k,hk,a,b,ha,hb,rfl⟩:=hc
  have y:=Cc i k z hk
  have h:=hg k j hk hj
  cases e1:f i k with
  | none=>rw[e1]at y;exact absurd ha (y a)
  | some a' =>
   cases e2:g k j with
   | none=>rw[e2]at h;exact absurd hb (h b)
   | some b' =>
    rw[e1]at y;rw[e2]at h
    refine⟨a'+b',br.mpr ⟨some (a'+b'),aK.mpr ⟨k,cb.mpr hk,by rw[e1,e2];rfl⟩,rfl⟩,?_⟩
    have:=y.2 a ha
    have:=h.2 b hb
    lia
def aw9 (m:Mc)(w:List Nat)(f:Nat->Nat->Option Int):Prop:=∀ i j,i<m.R->j<m.R->ab7 (Wk m.ds w i j) (f i j)
theorem aw9.eq (h:aw9 m w f)(h':aw9 m w g):gdO m.R f=gdO m.R g:=bc4 λ i j y hj=>(h i j y hj).eq (h' i j y hj) λ _=>jm
theorem aY3 :∀ {v w} {p q} {c},Wk y (v++w) p q c↔∃ k a b,Wk y v p k a/\Wk y w k q b/\c=a+b
 | [],w,p,q,c=>by
  constructor
  .intro h;exact⟨p,0,c,⟨rfl,rfl⟩,h,by lia⟩
  .rintro⟨k,a,b,⟨rfl,rfl⟩,h,e⟩
   have:c=b:=by lia
   rw[this];exact h
 | x::v,w,p,q,c=>by
  constructor
  .rintro⟨d,hd,G,z,Z,Y,e⟩
   obtain⟨k,a,b,h4,Cc,e2⟩:=aY3.mp Y
   exact⟨k,a+d.t,b,⟨d,hd,G,z,a,h4,by lia⟩,Cc,by lia⟩
  .rintro⟨k,a,b,⟨d,hd,G,z,J,h4,e⟩,Cc,e2⟩
   exact⟨d,hd,G,z,J+b,aY3.mpr ⟨k,J,b,h4,Cc,rfl⟩,by lia⟩
theorem bS6 {m:Mc}(y:m.Ok):∀ {w} {p q} {c},p<m.R->Wk m.ds w p q c->q<m.R
 | [],p,q,c,hp,h=>by obtain⟨rfl,_⟩:=h;exact hp
 | x::w,p,q,c,hp,h=>by
  obtain⟨d,hd,_,_,Cc,z,_⟩:=h
  exact bS6 y (y.ds.1 d hd).b z
theorem aw9.nil :aw9 m [] λ i j=>if i=j then some 0 else none:=λ i j y hj=>by
 show ab7 (Wk m.ds [] i j) (if i=j then some 0 else none)
 by_cases h:i=j
 .rw[if_pos h];exact⟨⟨h,rfl⟩,λ c hc=>by have:=hc.2;lia⟩
 .rw[if_neg h];exact λ c hc=>h hc.1
theorem aw9.mul (G:m.Ok)(h:aw9 m v f)(h':aw9 m w g):aw9 m (v++w) (prO m.R f g):=λ i j Cc hj=>(ay1 h h' Cc hj).congr λ c=>by
 rw[aY3]
 constructor
 .rintro⟨k,_,a,b,y,z,e⟩;exact⟨k,a,b,y,z,e⟩
 .rintro⟨k,a,b,y,z,e⟩;exact⟨k,bS6 G Cc y,a,b,y,z,e⟩
noncomputable def ltF (ds:List Dr)(c i j:Nat):Option Int:=minI (ds.filterMap λ d=>if d.a=i/\d.l=c/\d.b=j then some (d.t)else none)
theorem bs8 :Wk Cc [x] p q c↔∃ d∈Cc,d.l=x/\d.a=p/\d.b=q/\c=d.t:=by
 constructor
 .rintro⟨d,hd,z,h,G,⟨y,h4⟩,e⟩;exact⟨d,hd,h,z,y,by lia⟩
 .rintro⟨d,hd,z,h,y,e⟩;exact⟨d,hd,h,z,0,⟨y,rfl⟩,by lia⟩
theorem aw9.letter c :aw9 m [c] (ltF m.ds c):=λ i j G hj=>by
 unfold ltF
 refine ab7.low (λ x hx=>?_) λ x hx=>?_
 .obtain⟨d,hd,e⟩:=br.mp hx
  split at e
  .rename_i h;cases e;exact bs8.mpr ⟨d,hd,h.2.1,h.1,h.2.2,rfl⟩
  .cases e
 .obtain⟨d,hd,Cc,y,z,e⟩:=bs8.mp hx
  exact⟨x,br.mpr ⟨d,hd,by rw[if_pos ⟨y,Cc,z⟩,e]⟩,dB _⟩
theorem aV8 {a b i j :Nat}:z0 .eq (.tup [.int (a),.str [l],.int (b)]) (.tup [.int (i),.str [c],.int (j)]) s=.ok (.bl (decide (a=i/\l=c/\b=j))) s:=by
 have:eqv s DEEP (.tup [.int (a),.str [l],.int (b)]) (.tup [.int (i),.str [c],.int (j)])=some (((a)==(i:Int))&&(([l]==[c])&&(((b)==(j:Int))&&true))):=rfl
 show(match eqv s DEEP (.tup [.int (a),.str [l],.int (b)]) (.tup [.int (i),.str [c],.int (j)])with|some r=>R.ok (D.bl r) s|none=>.bad)=_
 rw[this]
 show R.ok (D.bl _) s=_
 congr 2
 rw[fT]
 simp
 lia
section
variable {P:Pr} [Has P ad3] [Has P ac3] [Has P ab5] [Has P aa8] [Has P aa6] [HasL P aa2]
theorem bV7 {m:Mc}:m.d.ncl=true:=by
 unfold Mc.d Mc.ps D.ncl
 simp only[D.nclL,D.ncl,aN1,eD]
 exact qu λ d hd=>by obtain⟨x,_,rfl⟩:=aK.mp hd;rfl
theorem al4 n {m:Mc}(z:m.Ok) c (hs:s.all O.ncl=true) :
  (aa1 P (n+4)).call "letter_table" [m.d,.str [c]] s=.ok (gdO m.R (ltF m.ds c)) s:=by
 have Z:(aa1 P (n+4)).call "letter_table" [m.d,.str [c]] s=_:=zh aa6 rfl
 have hR:=z.R5
 have hD:=z.ds.2
 have hg:=aD7 (P:=P) (n+2) (m:=m.R) (by lia) (d:=.clo "letter_table.least_fee" [m.d,.str [c]]) (λ _ _ n=>zZ _ n) (λ i j hi hj=>by
  generalize hS:s++[O.lst ((aH i).map λ i=>D.tup ((aH m.R).map λ j=>zJ (ltF m.ds c i j)))]=S
  have G:S.all O.ncl=true:=by rw[<-hS];exact av9 hs (λ _ _=>aj0 _)
  refine(aD9 aa2 rfl rfl (by rw[G];simp[D.nclL,D.ncl,bV7])).trans ?_
  show(ev (aa1 P (n+1)) aa2.body [some (.int i),some (.int j),some m.d,some (.str [c])] S).bind (zr S)=_
  obtain⟨U1,s1,e1,rfl,_⟩:=zY (ok:=λ s1=>chk S s1 []) (g:=ah6 (aa1 P (n+1)) (.tup [0,1,2,3]) (.cmp .eq (.tup (.cons (.var 0) (.cons (.var 1) (.cons (.var 2) .nil)))) (.tup (.cons (.var 4) (.cons (.var 5) (.cons (.var 6) .nil))))) (.var 3)) (λ U u=>u=S/\∃ x0 x1 x2 x3,U=[x0,x1,x2,x3,some (.int (i)),some (.str [c]),some (.int (j))]) (λ d=>match d with|.tup [.int a,.str [l],.int b,.int t]=>if a=i/\l=c/\b=j then some (.int t)else none|_=>none) (m.ds.map Dr.d) [none,none,none,none,some (.int (i:Int)),some (.str [c]),some (.int (j:Int))] S ⟨rfl,none,none,none,none,rfl⟩ (λ _ _ _=>rfl) (by
   rintro d hd U u ⟨rfl,x0,x1,x2,x3,rfl⟩
   obtain⟨x,_,rfl⟩:=aK.mp hd
   refine⟨[some (.int x.a),some (.str [x.l]),some (.int x.b),some (.int x.t),some (.int i),some (.str [c]),some (.int j)],u,?_,rfl,_,_,_,_,rfl⟩
   unfold ah6 Dr.d
   by_cases h:x.a=i/\x.l=c/\x.b=j
   .simp only[jc,ev_cmp,ev_tup,evs_nil,evs_cons,R.bind_ok,bindT_tup,setVs_nil,setVs_cons,setV_s,setV_0,ja,qZ,Option.map_some,Option.bind_some,tru_bl,aV8,h]
    simp
   .have Y:¬((x.a:Int)=(i:Int)/\x.l=c/\(x.b:Int)=(j:Int)):=by lia
    simp only[jc,ev_cmp,ev_tup,evs_nil,evs_cons,R.bind_ok,bindT_tup,setVs_nil,setVs_cons,setV_s,setV_0,ja,qZ,Option.map_some,Option.bind_some,tru_bl,if_false,Bool.false_eq_true,decide_false,aV8,h,if_neg Y])
  have er:(m.ds.map Dr.d).filterMap (λ d=>match d with|.tup [.int a,.str [l],.int b,.int t]=>if a=i/\l=c/\b=j then some (D.int t)else none|_=>none)=ax0 ((m.ds.filterMap λ d=>if d.a=i/\d.l=c/\d.b=j then some (d.t:Int)else none).map some):=by
   unfold ax0
   rw[cR,cD,jU]
   refine qp λ x _=>?_
   unfold Dr.d
   simp only[lv]
   by_cases h:x.a=i/\x.l=c/\x.b=j
   .rw[if_pos h,if_pos (by lia)];rfl
   .rw[if_neg h,if_neg (by omega)];rfl
  rw[er]at e1
  generalize hL:(m.ds.filterMap λ d=>if d.a=i/\d.l=c/\d.b=j then some (d.t:Int)else none)=L at e1
  have Cc:L.length<=75:=by rw[<-hL];exact am (dk _ _) hD
  have y:∀ q (s:Sto),mk .list q s=.ok (.ref s.length) (s++[.lst q]):=λ _ _=>rfl
  have el:=as7 (P:=P) n (s:=s1++[O.lst (ax0 (L.map some))]) (q:=s1.length) (l:=L.map some) (by rw[aP (aj _)];simp) (by simp;lia)
  have J:(L.map some).filterMap id=L:=by rw[cD];exact jw
  rw[J]at el
  simp only[aa2]
  simp only[jc,ev_call,ev_mk,evas_nil,evas_ex,evI_seq,R.bind_ok,ja,qZ,ji n,bL4,zR,if_pos (show(m.ds.map Dr.d).length<=LIM by rw[ax];unfold LIM;lia),show qe [some (D.int (i:Int)),some (D.int (j:Int)),some m.d,some (D.str [c])] [none,none,none,none,some 0,some 3,some 1]=[none,none,none,none,some (.int (i:Int)),some (.str [c]),some (.int (j:Int))]from rfl,e1,y,el]
  rw[<-hL]
  exact zM (zZ _) (ak0 _))
 rw[Z,show(dN some [m.d,D.str [c]]++aC aa6.vs none)=[some m.d,some (D.str [c]),none]from rfl]
 simp only[aa6]
 simp only[qS,ex_ret,ex_und,jc,ev_call,evas_nil,evas_ex,R.bind_ok,unsetV_s,unsetV_0,ja,Option.map_some,setC_some,nxt_next,au4,am3 (n+2)]
 rw[au8 (cs:=[m.d,.str [c]]) _ rfl]
 have e:gdD m.R (λ i j=>zJ (ltF m.ds c i j))=gdO m.R (ltF m.ds c):=rfl
 simp only[evas_nil,R.bind_ok,nxt_ret,fin_ret,hg,e,if_pos (show((gdO m.R (ltF m.ds c)).ncl&&s.all O.ncl)=true by rw[al1,hs];rfl)]
 exact zA am4 (by nofun)
end
theorem cp8 (z:s[a]?=some (.lst l))(y:s[b]?=some (.lst m))(h:l.length+m.length<=LIM):qF .add (.ref a) (.ref b) s=.ok (.ref s.length) (s++[.lst (l++m)]):=bB9 z y h
theorem aI8 {s:Sto}:(s++[o])[s.length]?=some o:=by rw[aP (aj _)];simp
theorem aj7 a :(aa7 a).length=a.length:=by unfold aa7;exact ax _
theorem bV0 a :(sg a).length=a.length:=by unfold sg;exact ax _
theorem ak3 k a v :∀ l:List (D×D),look k (l++[(a,v)])=match look k l with|some x=>some x|none=>if a=k then some v else none
 | []=>by unfold look;rfl
 | (b,u)::l=>by
  rw[fq]
  unfold look
  by_cases h:b=k
  .rw[if_pos h,if_pos h]
  .rw[if_neg h,if_neg h];exact ak3 k a v l
theorem af2 (h:s[r]?=some (.dic l))(hk:k.key=true):z0 .notin k (.ref r) s=.ok (.bl (!(look k l).isSome)) s:=by
 show(inM k (.ref r) s).bind (λ r s=>R.ok (D.bl (!r)) s)=_
 simp only[inM,h,hk,if_true,R.bind_ok]
theorem aN6 (h:s[r]?=some (.dic l))(hk:k.key=true):z0 .isin k (.ref r) s=.ok (.bl (look k l).isSome) s:=by
 show(inM k (.ref r) s).bind (λ r s=>R.ok (D.bl r) s)=_
 simp only[inM,h,hk,if_true,R.bind_ok]
theorem aq5 (h:s[r]?=some (.dic l))(hk:k.key=true)(hv:look k l=some v):ixM (.ref r) k s=.ok v s:=by
 simp only[ixM,h,hk,if_true,hv]
theorem ar7 (h:s[r]?=some (.dic l))(hk:k.key=true)(hl:l.length<LIM):setIx (.ref r) k v s=.ok () (s.set r (.dic (ae6 k v l))):=by
 simp[setIx,h,hk,hl]
theorem qH :ev F (.dic .nil .nil) U s=.ok (.ref s.length) (s++[.dic []]):=rfl
theorem bK6 (h:look k l=none):ae6 k v l=l++[(k,v)]:=by unfold ae6;rw[h];rfl
theorem aw0 {s:Sto}{o :O}:(s++[o]).set s.length p=s++[p]:=by rw[fg _ _ (aj _)];simp
section
variable {P:Pr} [Has P ad3] [Has P ac3] [Has P ac6] [Has P ab5] [Has P aa8] [Has P aa6] [HasL P aa2] [Has P ad0] [HasL P ab4] [Has P ab8] [HasL P aa9] [Has P ab0]
def bA5 (m:Mc)(l:List (D×D)):Prop:=(∀ c v,look (.str [c]) l=some v->v=gdO m.R (ltF m.ds c))/\∀ p∈l,p.2.ncl=true
theorem bA5.nil :bA5 m []:=⟨λ c v h=>(by cases h),λ p hp=>(by cases hp)⟩
theorem qa n (Y:m.Ok) w (hw:w.length<=5000)(hs:s.all O.ncl=true) :
  ∃ f,aw9 m w f/\(aa1 P (n+5)).call "word_table" [m.d,.str w] s=.ok (gdO m.R f) s:=by
 have e0:(aa1 P (n+5)).call "word_table" [m.d,.str w] s=_:=zh ab0 rfl
 have J:=Y.R5
 have nd:∀ l:List (D×D),bA5 m l->(s++[O.dic l]).all O.ncl=true:=λ l h=>zL hs (qu λ d hd=>by
  obtain⟨p,hp,rfl⟩:=aK.mp hd;exact h.2 p hp)
 have key:=qy (ok:=λ s1=>chk (s++[O.dic []]) s1 []) (g:=turn (aa1 P (n+4)) (.one 4) (.cons (.ite (.cmp .notin (.var 4) (.var 2)) (.cons (.setIx (.var 2) (.var 4) (.call "letter_table" (.ex (.var 0) (.ex (.var 4) .nil)))) .nil) .nil) (.cons (.asg (.one 3) (.call "product" (.ex (.var 3) (.ex (.ix (.var 2) (.var 4)) .nil)))) .nil)))
  (λ k U t=>∃ f l x,aw9 m (w.take k) f/\bA5 m l/\l.length<=k/\U=[some m.d,some (.str w),some (.ref s.length),some (gdO m.R f),x]/\t=s++[.dic l]) (sg w) 0 [some m.d,some (.str w),some (.ref s.length),some (gdO m.R λ i j=>if i=j then some 0 else none),none] (s++[O.dic []])
  ⟨_,[],none,by rw[d7];exact aw9.nil,bA5.nil,aj _,rfl,rfl⟩ (λ _ _ _ _ _=>rfl) (by
  rintro k d U t hk ⟨f,l,x,y,hl,G,rfl,rfl⟩
  rw[bz]at y G ⊢
  unfold sg at hk
  rw[ay]at hk
  obtain⟨c,hc,rfl⟩:=cy.mp hk
  have a0:=(ac.mp hc).1
  have hg:∀ l:List (D×D),(s++[O.dic l])[s.length]?=some (.dic l):=λ l=>by rw[aP (aj _)];simp
  have e1:=al4 (P:=P) n Y c (nd l hl)
  have hT:aw9 m (w.take (k+1)) (prO m.R f (ltF m.ds c)):=by
   rw[am1 hc];exact aw9.mul Y y (aw9.letter c)
  cases hlk:look (.str [c]) l with
  | none =>
   have z:bA5 m (l++[(.str [c],gdO m.R (ltF m.ds c))]):=by
    refine⟨λ Z v hv=>?_,λ p hp=>?_⟩
    .rw[ak3]at hv
     cases q:look (.str [Z]) l with
     | none =>
      rw[q]at hv
      simp only at hv
      split at hv
      .rename_i e;cases e;cases hv;rfl
      .cases hv
     | some v'=>rw[q]at hv;cases hv;exact hl.1 Z v q
    .rcases a8.mp hp with h|h
     .exact hl.2 p h
     .rw[aV.mp h];exact al1
   have e2:=am9 (P:=P) n J f (ltF m.ds c) (nd _ z)
   have Cc:=aq5 (hg (l++[(.str [c],gdO m.R (ltF m.ds c))])) rfl (v:=gdO m.R (ltF m.ds c)) (by rw[ak3,hlk];simp)
   have e4:=ar7 (v:=gdO m.R (ltF m.ds c)) (hg l) (k:=.str [c]) rfl (by unfold LIM;lia)
   rw[bK6 hlk,aw0]at e4
   refine⟨_,_,.inl ?_,_,_,some (.str [c]),hT,z,by simp;omega,rfl,rfl⟩
   unfold turn
   simp -implicitDefEqProofs only[qS,exs_nil,ex_asg,ex_ite,ex_setIx,jc,ev_cmp,ev_ix,ev_call,evas_nil,evas_ex,R.bind_ok,qz,setV_s,setV_0,ja,qZ,Option.map_some,setC_some,nxt_next,tru_bl,if_true,Bool.not_false,af2 (hg l) (k:=.str [c]) rfl,hlk,bZ,e1,e4,Cc,e2]
  | some v =>
   have hv:=hl.1 c v hlk
   have e2:=am9 (P:=P) n J f (ltF m.ds c) (nd _ hl)
   have Cc:=aq5 (hg l) (k:=.str [c]) rfl hlk
   rw[hv]at Cc
   refine⟨_,_,.inl ?_,_,_,some (.str [c]),hT,hl,by lia,rfl,rfl⟩
   unfold turn
   simp -implicitDefEqProofs only[qS,exs_nil,ex_asg,ex_ite,ex_setIx,jc,ev_cmp,ev_ix,ev_call,evas_nil,evas_ex,R.bind_ok,qz,setV_s,setV_0,ja,qZ,Option.map_some,setC_some,nxt_next,tru_bl,if_false,Bool.false_eq_true,Bool.not_true,af2 (hg l) (k:=.str [c]) rfl,hlk,bW,Cc,e2])
 obtain⟨U',s',ek,f,l,x,y,hl,_,rfl,rfl⟩:=key
 rw[bz,bV0,bS]at y
 refine⟨f,y,?_⟩
 have e1:=bh8 (P:=P) (n+1) J (nd [] bA5.nil)
 have h2:∀ t,ak4 (.str w) t=.ok ⟨sg w,[]⟩ t:=λ _=>rfl
 rw[e0,show(dN some [m.d,D.str w]++aC ab0.vs none)=[some m.d,some (D.str w),none,none,none]from rfl]
 simp -implicitDefEqProofs only[ab0]
 simp -implicitDefEqProofs only[qS,ex_asg,ex_for,jc,ev_call,evas_nil,evas_ex,evI_seq,R.bind_ok,qz,setV_s,setV_0,ja,qZ,Option.map_some,setC_some,nxt_next,qH,am3 (n+3),e1,h2]
 rw[ek]
 simp -implicitDefEqProofs only[qS,ex_ret,jc,R.bind_ok,ja,qZ,nxt_next,nxt_ret,fin_ret]
 exact zM am4 (by nofun)
end
noncomputable def Pl (ds:List Dr):List Nat->List Nat->Nat->Nat->Int->Prop
 | [],[],p,q,c=>p=q/\c=0
 | x::w,k::ps,p,q,c=>∃ d,ds[k]?=some d/\d.a=p/\d.l=x/\∃ c',Pl ds w ps d.b q c'/\c=(d.t)+c'
 | _,_,_,_,_=>False
theorem bc2 (hd:z[k]?=some d)(hx:d.l=x):∀ {w ps} {p} {c},Pl z w ps p d.a c->Pl z (w++[x]) (ps++[k]) p d.b (c+(d.t))
 | [],[],p,c,h=>by obtain⟨Cc,G⟩:=h;exact⟨d,hd,Cc.symm,hx,0,⟨rfl,rfl⟩,by lia⟩
 | [],_::_,p,c,h=>h.elim
 | _::_,[],p,c,h=>h.elim
 | y::w,j::ps,p,c,h=>by
  obtain⟨e,he,Cc,G,J,Y,h4⟩:=h
  exact⟨e,he,Cc,G,J+(d.t),bc2 hd hx Y,by lia⟩
theorem ba7 :∀ {w ps} {p q} {c},Pl z w ps p q c->ps.length=w.length
 | [],[],p,q,c,h=>rfl
 | [],_::_,p,q,c,h=>h.elim
 | _::_,[],p,q,c,h=>h.elim
 | y::w,j::ps,p,q,c,h=>by
  obtain⟨e,he,Y,G,J,Cc,h4⟩:=h
  rw[aL,aL,ba7 Cc]
theorem aI2 k j v :∀ l:List (D×D),look j (l.map λ p=>if p.1=k then(p.1,v)else p)=if k=j then(look j l).map λ _=>v else look j l
 | []=>by unfold look;simp
 | (a,u)::l=>by
  rw[aS]
  have y:=aI2 k j v l
  by_cases h:a=k
  .rw[if_pos h]
   show(if a=j then some v else look j _)=if k=j then(if a=j then some u else look j l).map (λ _=>v)else(if a=j then some u else look j l)
   rw[y]
   subst h
   by_cases h2:a=j
   .simp[h2]
   .simp[h2]
  .rw[if_neg h]
   show(if a=j then some u else look j _)=if k=j then(if a=j then some u else look j l).map (λ _=>v)else(if a=j then some u else look j l)
   rw[y]
   by_cases h2:a=j
   .have Cc:k≠j:=λ z=>h (by rw[z,h2])
    simp[Cc]
   .simp[h2]
theorem qr k j v l :look j (ae6 k v l)=if k=j then some v else look j l:=by
 unfold ae6
 split
 .rename_i h
  rw[aI2]
  by_cases e:k=j
  .subst e
   rw[if_pos rfl,if_pos rfl]
   cases q:look k l with
   | none=>rw[q]at h;cases h
   | some _=>rfl
  .rw[if_neg e,if_neg e]
 .rename_i h
  rw[ak3]
  cases q:look j l with
  | none=>rfl
  | some x =>
   by_cases e:k=j
   .subst e;rw[q]at h;exact absurd rfl h
   .rw[if_neg e,if_neg e]
theorem aD6 k v l :(ae6 k v l).length<=l.length+1:=by
 unfold ae6
 split
 .rw[ax];lia
 .rw[aD];simp
noncomputable def RB (s:Sto)(b0:Nat)(v:Option D):Option (Int×List Nat)->Prop
 | none=>v=none
 | some p=>∃ q,v=some (.tup [.int p.1,.ref q])/\b0<=q/\s[q]?=some (.lst (aa7 p.2))
def Bst (s:Sto)(b0 r n:Nat)(B:List (Option (Int×List Nat))):Prop:=∃ l,s[r]?=some (.dic l)/\l.length<=n/\∀(k:Nat) o,B[k]?=some o->RB s b0 (look (.int k) l) o
theorem RB.app (h:RB s y v o):RB (s++T) y v o:=by
 cases o with
 | none=>exact h
 | some p=>obtain⟨q,G,z,Cc⟩:=h;exact⟨q,G,z,ze Cc⟩
theorem Bst.app (h:Bst s y r n B):Bst (s++T) y r n B:=by
 obtain⟨l,G,z,Cc⟩:=h
 exact⟨l,ze G,z,λ k o e=>(Cc k o e).app⟩
theorem RB.set (G:s[r]?=some (.dic l))(h:RB s y v o):RB (s.set r (.dic Y)) y v o:=by
 cases o with
 | none=>exact h
 | some p =>
  obtain⟨q,Z,J,Cc⟩:=h
  refine⟨q,Z,J,?_⟩
  rw[aB λ z=>by rw[z,Cc]at G;cases G]
  exact Cc
theorem Bst.put (h:Bst s Cc r n B){k :Nat}(hq:s[q]?=some (.lst (aa7 ps)))(hb:Cc<=q)(hn:n<LIM) :
  ∃ J,setIx (.ref r) (.int k) (.tup [.int c,.ref q]) s=.ok () (s.set r (.dic J))/\Bst (s.set r (.dic J)) Cc r (n+1) (B.set k (some (c,ps))):=by
 obtain⟨l,y,Z,Y⟩:=h
 have G:=(ac.mp y).1
 refine⟨ae6 (.int k) (.tup [.int c,.ref q]) l,ar7 y rfl (by lia),_,ql G,by have:=aD6 (.int k) (.tup [.int c,.ref q]) l;lia,λ j o e=>?_⟩
 rw[qr]
 by_cases hj:k=j
 .subst hj
  rw[if_pos rfl]
  have hk:=by have:=(ac.mp e).1;simpa using this
  rw[aJ hk]at e
  cases e
  exact RB.set y ⟨q,rfl,hb,hq⟩
 .rw[if_neg (by intro z;injection z with z;lia)]
  rw[aB hj]at e
  exact RB.set y (Y j o e)
noncomputable def fsB (B:List (Option (Int×List Nat))):List (Option Int):=B.map (lW gy)
theorem az5 {k:Nat}(h:B[k]?=some o):(fsB B)[k]?=some (o.map gy):=by unfold fsB;rw[ay,h];rfl
theorem bF4 B k o :fsB (B.set k o)=(fsB B).set k (o.map gy):=by unfold fsB;rw[List.map_set]
structure GoodB (m:Mc)(w:List Nat)(B:List (Option (Int×List Nat))):Prop where
 len:B.length=m.R
 low:RowOk (qA m w) (fsB B)
 is_:∀(k:Nat) c ps,B[k]?=some (some (c,ps))->∃ p∈m.bg,Pl m.ds w ps p k c
theorem aL1:∀ l (n i:Nat),(ad6 n l)[i]?=(l[i]?).map λ d=>.tup [.int ((n+i:Nat)),d]
 | [],n,i=>by unfold ad6;simp
 | d::l,n,0=>by unfold ad6;simp
 | d::l,n,i+1=>by
  unfold ad6
  rw[dz,dz,aL1 l (n+1) i,show n+1+i=n+(i+1)by omega]
theorem ch0 c q s :ixM (.tup [.int c,.ref q]) (.int 0) s=.ok (.int c) s:=am0 0 rfl
theorem cd3 c q s :ixM (.tup [.int c,.ref q]) (.int 1) s=.ok (.ref q) s:=am0 1 rfl
theorem av8 :∀ {l},look k l=some v->v∈l.map (·.2)
 | (a,u)::l,h=>by
  unfold look at h
  split at h
  .cases h;exact az ..
  .exact ar _ (av8 h)
theorem aW1 (h:Bst (s++T) z r n B)(hr:s.length<=r)(hB:∀ k,k<B.length->True):∃ T' Y,zr s (.ref r) (s++T)=.ok (.ref Y) (s++T')/\Bst (s++T') z Y n B:=by
 obtain⟨l,y,J,Cc⟩:=h
 by_cases hbn:(O.dic l).bnd s.length=true
 .refine⟨[.dic l],s.length,?_,l,by simp,J,λ k o e=>?_⟩
  .unfold zr
   rw[if_pos (zU s T)]
   dsimp only
   rw[if_neg (by lia),y]
   dsimp only
   rw[if_pos hbn,fU]
   rfl
  .have:=Cc k o e
   cases o with
   | none=>exact this
   | some p =>
    obtain⟨q,e1,e2,G⟩:=this
    refine⟨q,e1,e2,?_⟩
    have hq:=by
     unfold O.bnd at hbn
     rw[ak]at hbn
     have Z:=av8 e1
     have:=as9 hbn.2 _ Z
     unfold D.bnd D.bndL D.bnd D.bndL D.bnd at this
     simpa [D.bndL]using this
    rw[aQ hq]at G
    exact ze G
 .refine⟨T,r,?_,l,y,J,Cc⟩
  unfold zr
  rw[if_pos (zU s T)]
  dsimp only
  rw[if_neg (by omega),y]
  dsimp only
  rw[if_neg hbn]
def cm8 (m:Mc)(w:List Nat)(s:Sto)(b0:Nat)(x:R D):Prop:=∃ T r B,x=.ok (.ref r) (s++T)/\Bst (s++T) b0 r 75 B/\GoodB m w B
theorem bY9 [Has P aa8][Has P ab1] n {m}(hm:m.Ok){w:List Nat}(hw:w.length<=1000) x {s:Sto}{b0 r nn:Nat}{B:List (Option (Int×List Nat))}(hB:Bst s b0 r nn B)(hG:GoodB m w B)(hb:b0<=s.length) :
  cm8 m (w++[x]) s b0 ((aa1 P (n+2)).call "best_led_on" [m.d,.ref r,.str [x]] s):=by
 have e0:(aa1 P (n+2)).call "best_led_on" [m.d,.ref r,.str [x]] s=_:=zh ab1 (n:=n+1) rfl
 rw[e0]
 have hd:∀ S,(aa1 P (n+1)).call "doors_of" [m.d] S=.ok (.tup (m.ds.map Dr.d)) S:=ji (P:=P) n m
 have sT:∀ S,at2 (.tup (m.ds.map Dr.d)) S=.ok ⟨m.ds.map Dr.d,[]⟩ S:=λ _=>rfl
 have f1:r<s.length:=by obtain⟨l,h1,_⟩:=hB;exact(ac.mp h1).1
 obtain⟨lb,e1,_,hlk⟩:=hB
 have f0:=hm.ds.2
 simp [ab1,qH,hd,sT]
 refine zK (Ww:=cm8 m (w++[x]) s b0) (λ i U u=>∃(T:Sto) (Y:List (Option (Int×List Nat))) (y4 y5 y6 y7 y8:Option D),u=s++T/\Bst u b0 s.length i Y/\Y.length=m.R/\RowOk (ae5 (qA m w) x (m.ds.take i)) (fsB Y)/\(∀(k:Nat) c ps,Y[k]?=some (some (c,ps))->∃ p∈m.bg,Pl m.ds (w++[x]) ps p k c)/\U=[some m.d,some (.ref r),some (.str [x]),some (.ref s.length),y4,y5,y6,y7,y8])
  ⟨[.dic []],aC m.R none,_,_,_,_,_,rfl,⟨[],by simp,aj _,λ k o e=>?_⟩,by simp,λ k o e=>?_,λ k c ps e=>?_,rfl⟩ (λ _ _ _ _ _=>rfl) ?_ ?_
 .rw[bj]at e
  split at e
  .cases e;exact rfl
  .cases e
 .unfold fsB at e
  rw[List.map_replicate,bj]at e
  split at e
  .cases e
   rintro c' ⟨d,hd,_⟩
   rw[d7]at hd;cases hd
  .cases e
 .rw[bj]at e
  split at e<;>cases e
 .rintro i d U u hi ⟨T,Y,y4,y5,y6,y7,y8,rfl,a6,Z,y,a5,rfl⟩
  obtain⟨e,he,rfl⟩:∃ e,m.ds[i]?=some e/\d=.tup [.int (i:Int),e.d]:=by
   rw[aL1,ay]at hi
   cases q:m.ds[i]? with
   | none=>rw[q]at hi;cases hi
   | some e=>rw[q]at hi;cases hi;exact⟨e,rfl,by rw[bz]⟩
  have e8:i<m.ds.length:=(ac.mp he).1
  have hok:=hm.ds.1 e (aN he)
  have b3:m.ds.take (i+1)=m.ds.take i++[e]:=by
   have q:m.ds[i]=e:=(ac.mp he).2
   rw[<-q,bI]
  have d2:(s++T)[r]?=some (.dic lb):=ze e1
  obtain⟨oa,ha⟩:∃ o,B[e.a]?=some o:=⟨B[e.a]'(by rw[hG.len];exact hok.a),ag _⟩
  obtain⟨ob,c3⟩:∃ o,Y[e.b]?=some o:=⟨Y[e.b]'(by rw[Z];exact hok.b),ag _⟩
  have ra:=hlk e.a oa ha
  have e6:=a6
  obtain⟨ld,b4,e7,b2⟩:=e6
  have rb:=b2 e.b ob c3
  have Cc:=af2 (k:=.int e.a) d2 rfl
  have J:=af2 (k:=.int e.b) b4 rfl
  have a0:RowOk (ae5 (qA m w) x (m.ds.take (i+1))) (fsB Y)->∀ U',(∃ z4 z5 z6 z7 z8,U'=[some m.d,some (.ref r),some (.str [x]),some (.ref s.length),z4,z5,z6,z7,z8])->∃(T':Sto) (G:List (Option (Int×List Nat))) (y4 y5 y6 y7 y8:Option D),s++T=s++T'/\Bst (s++T) b0 s.length (i+1) G/\G.length=m.R/\RowOk (ae5 (qA m w) x (m.ds.take (i+1))) (fsB G)/\(∀(k:Nat) c ps,G[k]?=some (some (c,ps))->∃ p∈m.bg,Pl m.ds (w++[x]) ps p k c)/\U'=[some m.d,some (.ref r),some (.str [x]),some (.ref s.length),y4,y5,y6,y7,y8]:=by
   rintro h U' ⟨z4,z5,z6,z7,z8,rfl⟩
   exact⟨T,Y,_,_,_,_,_,rfl,⟨ld,b4,by lia,b2⟩,Z,h,a5,rfl⟩
  by_cases hx:e.l=x
  .cases oa with
   | none =>
    have ra:look (.int e.a) lb=none:=ra
    rw[ra]at Cc
    refine bt0 (U:=[some m.d,some (.ref r),some (.str [x]),some (.ref s.length),some (.int i),some e.d,some (.int e.a),some (.int e.b),y8]) (s:=s++T) ?_ (a0 ?_ _ ⟨_,_,_,_,_,rfl⟩)
    .simp only[qS,exs_nil,ex_asg,ex_ite,ex_cont,jc,ev_cst,ev_cmp,ev_or,ev_ix,Cn_int,R.bind_ok,qz,bindT_tup,setVs_nil,setVs_cons,setV_s,setV_0,ja,qZ,Option.map_some,Option.bind_some,setC_some,nxt_next,nxt_cont,tru_bl,if_true,if_false,Bool.false_eq_true,decide_true,Bool.not_true,Bool.not_false,turn,aO4,aS6,aP9,ag9,hx,Cc,bZ]
    .rw[b3]
     exact ay9 y λ c' b6=>hG.low e.a none (az5 ha) c' b6.2
   | some pa =>
    obtain⟨c,ps⟩:=pa
    obtain⟨q,ra,f2,hq⟩:=ra
    rw[ra]at Cc
    have c4:=aq5 (s:=s++T) d2 rfl ra
    have a3:=aX1 y hx (hG.low e.a (some c) (az5 ha)) (az5 c3)
    rw[<-b3]at a3
    obtain⟨p,hp,hpl⟩:=hG.is_ e.a c ps ha
    have d0:=bc2 he hx hpl
    have e5:(s++T)[q]?=some (.lst (aa7 ps)):=ze hq
    have a4:=cp8 (s:=s++T++[.lst [.int (i:Int)]]) (a:=q) (b:=(s++T).length) (l:=aa7 ps) (m:=[.int (i:Int)]) (ze e5) qI (by
     have:=ba7 hpl
     unfold aa7 LIM
     rw[ax,bK]
     lia)
    have c1:aa7 ps++[.int (i:Int)]=aa7 (ps++[i]):=by unfold aa7;rw[cM];rfl
    rw[c1]at a4
    have c2:(s++T++[O.lst [D.int (i:Int)]]).length=(s++T).length+1:=by rw[aD (as:=s++T),bK]
    obtain⟨l',b1,b5⟩:=Bst.put (k:=e.b) (c:=c+(e.t:Int)) (ps:=ps++[i]) (q:=(s++T++[O.lst [D.int (i:Int)]]).length) ((a6.app (T:=[.lst [.int (i:Int)]])).app (T:=[.lst (aa7 (ps++[i]))])) (by simp) (by rw[c2,aD];lia) (by unfold LIM;lia)
    have a1:(ob.map gy=none\/∃ z,ob.map gy=some z/\c+(e.t:Int)<z)->∀ U',(∃ z4 z5 z6 z7 z8,U'=[some m.d,some (.ref r),some (.str [x]),some (.ref s.length),z4,z5,z6,z7,z8])->∃(T':Sto) (G:List (Option (Int×List Nat))) (y4 y5 y6 y7 y8:Option D),(s++T++[O.lst [D.int (i:Int)]]++[O.lst (aa7 (ps++[i]))]).set s.length (.dic l')=s++T'/\Bst ((s++T++[O.lst [D.int (i:Int)]]++[O.lst (aa7 (ps++[i]))]).set s.length (.dic l')) b0 s.length (i+1) G/\G.length=m.R/\RowOk (ae5 (qA m w) x (m.ds.take (i+1))) (fsB G)/\(∀(k:Nat) c ps,G[k]?=some (some (c,ps))->∃ p∈m.bg,Pl m.ds (w++[x]) ps p k c)/\U'=[some m.d,some (.ref r),some (.str [x]),some (.ref s.length),y4,y5,y6,y7,y8]:=by
     rintro h U' ⟨z4,z5,z6,z7,z8,rfl⟩
     refine⟨_,Y.set e.b (some (c+(e.t:Int),ps++[i])),_,_,_,_,_,by rw[aM,aM];exact ax7 (aj _),b5,by simp[Z],?_,λ k c0 d3 hk=>?_,rfl⟩
     .rw[bF4]
      have a2:minO (ob.map gy) (some (c+(e.t:Int)))=some (c+(e.t:Int)):=by
       rcases h with h|⟨z,h,hlt⟩
       .rw[h];rfl
       .rw[h];show(if c+(e.t:Int)<z then _ else _)=_;rw[if_pos hlt]
      rw[a2]at a3
      exact a3
     .by_cases hkb:e.b=k
      .subst hkb
       rw[aJ (by rw[Z];exact hok.b)]at hk
       cases hk
       exact⟨p,hp,d0⟩
      .rw[aB hkb]at hk
       exact a5 k c0 d3 hk
    cases ob with
    | none =>
     have rb:look (.int e.b) ld=none:=rb
     rw[rb]at J
     refine qE (U:=[some m.d,some (.ref r),some (.str [x]),some (.ref s.length),some (.int i),some e.d,some (.int e.a),some (.int e.b),some (.int (c+e.t))]) (s:=(s++T++[O.lst [D.int (i:Int)]]++[O.lst (aa7 (ps++[i]))]).set s.length (.dic l')) ?_ (a1 (.inl rfl) _ ⟨_,_,_,_,_,rfl⟩)
     simp only[qS,exs_nil,ex_asg,ex_ite,ex_setIx,ex_cont,jc,ev_cst,ev_bin,ev_cmp,ev_or,ev_tup,ev_lst,ev_ix,evs_nil,evs_cons,Cn_int,R.bind_ok,qz,bindT_tup,setVs_nil,setVs_cons,setV_s,setV_0,ja,qZ,Option.map_some,Option.bind_some,setC_some,nxt_next,nxt_cont,add_int,alloc_eq,tru_bl,if_true,if_false,Bool.false_eq_true,decide_true,Bool.not_true,Bool.not_false,turn,aO4,aS6,aP9,bl1,ag9,hx,Cc,J,bZ,bW,c4,ch0,cd3,a4,b1]
    | some pb =>
     obtain⟨z,e4⟩:=pb
     obtain⟨q2,rb,_,_⟩:=rb
     rw[rb]at J
     have d1:=aq5 (s:=s++T) b4 rfl rb
     by_cases hlt:c+(e.t:Int)<z
     .refine qE (U:=[some m.d,some (.ref r),some (.str [x]),some (.ref s.length),some (.int i),some e.d,some (.int e.a),some (.int e.b),some (.int (c+e.t))]) (s:=(s++T++[O.lst [D.int (i:Int)]]++[O.lst (aa7 (ps++[i]))]).set s.length (.dic l')) ?_ (a1 (.inr ⟨z,rfl,hlt⟩) _ ⟨_,_,_,_,_,rfl⟩)
      simp only[qS,exs_nil,ex_asg,ex_ite,ex_setIx,ex_cont,jc,ev_cst,ev_bin,ev_cmp,ev_or,ev_tup,ev_lst,ev_ix,evs_nil,evs_cons,Cn_int,R.bind_ok,qz,bindT_tup,setVs_nil,setVs_cons,setV_s,setV_0,ja,qZ,Option.map_some,Option.bind_some,setC_some,nxt_next,nxt_cont,add_int,lt_int,alloc_eq,tru_bl,if_true,if_false,Bool.false_eq_true,decide_true,Bool.not_true,turn,aO4,aS6,aP9,bl1,ag9,hx,Cc,J,bZ,bW,c4,d1,ch0,cd3,hlt,a4,b1]
     .refine qE (U:=[some m.d,some (.ref r),some (.str [x]),some (.ref s.length),some (.int i),some e.d,some (.int e.a),some (.int e.b),some (.int (c+e.t))]) (s:=s++T) ?_ (a0 ?_ _ ⟨_,_,_,_,_,rfl⟩)
      .simp only[qS,exs_nil,ex_asg,ex_ite,ex_setIx,ex_cont,jc,ev_cst,ev_bin,ev_cmp,ev_or,ev_tup,ev_lst,ev_ix,evs_nil,evs_cons,Cn_int,R.bind_ok,qz,bindT_tup,setVs_nil,setVs_cons,setV_s,setV_0,ja,qZ,Option.map_some,Option.bind_some,setC_some,nxt_next,nxt_cont,add_int,lt_int,alloc_eq,tru_bl,if_false,Bool.false_eq_true,decide_true,decide_false,Bool.not_true,turn,aO4,aS6,aP9,bl1,ag9,hx,Cc,J,bZ,bW,c4,d1,ch0,cd3,hlt]
      .have a2:minO (lW gy (some (z,e4))) (some (c+(e.t:Int)))=some z:=by show(if c+(e.t:Int)<z then _ else _)=_;rw[if_neg hlt]
       rw[a2]at a3
       have e2:(fsB Y).set e.b (some z)=fsB Y:=by
        have e9:e.b<(fsB Y).length:=by unfold fsB;rw[ax,Z];exact hok.b
        have e3:(fsB Y)[e.b]=some z:=(ac.mp (az5 c3)).2
        rw[<-e3,fe]
       rwa [e2]at a3
  .refine bt0 (U:=[some m.d,some (.ref r),some (.str [x]),some (.ref s.length),some (.int i),some e.d,some (.int e.a),some (.int e.b),y8]) (s:=s++T) ?_ (a0 ?_ _ ⟨_,_,_,_,_,rfl⟩)
   .simp only[qS,exs_nil,ex_asg,ex_ite,ex_cont,jc,ev_cst,ev_cmp,ev_or,ev_ix,Cn_int,R.bind_ok,qz,bindT_tup,setVs_nil,setVs_cons,setV_s,setV_0,ja,qZ,Option.map_some,Option.bind_some,setC_some,nxt_next,nxt_cont,tru_bl,if_true,decide_false,Bool.not_false,turn,aO4,aS6,aP9,ag9,hx]
   .rw[b3]
    exact ay9 y λ c' b6=>hx b6.1
 .rintro U u ⟨T,Y,y4,y5,y6,y7,y8,rfl,a6,Z,y,a5,rfl⟩
  rw[enumL_len,ax,bS]at y
  obtain⟨T',r',hc,b5⟩:=aW1 a6 (aj _) (λ _ _=>trivial)
  refine⟨T',r',Y,?_,?_,Z,λ k o hk=>(y k o hk).congr λ c=>al5,a5⟩
  .simp only[qS,ex_ret,jc,R.bind_ok,ja,qZ,nxt_next,nxt_ret,fin_ret]
   exact hc
  .obtain⟨l,h1,h2,h3⟩:=b5
   refine⟨l,h1,?_,h3⟩
   rw[enumL_len,ax]at h2
   lia
theorem bc7 f :∀ k,aN5 f k<=k
 | 0=>aj _
 | k+1=>by
  unfold aN5
  split
  .exact aj _
  .exact Nat.le_succ_of_le (bc7 f k)
theorem aI6 (f:Nat->Int):∀ k j,j<=k->f (aN5 f k)<=f j
 | 0,j,h=>by
  have:j=0:=by omega
  subst this;exact dB _
 | k+1,j,h=>by
  have y:=aI6 f k
  unfold aN5
  split
  .rename_i hb
   by_cases hj:j=k+1
   .subst hj;exact dB _
   .have:=y j (by omega);omega
  .rename_i hb
   by_cases hj:j=k+1
   .subst hj;omega
   .exact y j (by omega)
theorem bm5 (h:(s++T)[q]?=some o)(hq:s.length<=q)(hb:o.bnd s.length=true):zr s (.ref q) (s++T)=.ok (.ref s.length) (s++[o]):=by
 unfold zr
 rw[if_pos (zU s T)]
 dsimp only
 rw[if_neg (by omega),h]
 dsimp only
 rw[if_pos hb,fU]
 rfl
theorem bP9 (y:s[r]?=some (.lst Cc))(h:s[q]?=some (.lst [])):z0 .eq (.ref r) (.ref q) s=.ok (.bl (decide (Cc=[]))) s:=by
 have:eqv s DEEP (.ref r) (.ref q)=some (decide (Cc=[])):=by
  show(match s[r]?,s[q]? with
   | some (O.lst l),some (O.lst m)=>if l.length=m.length then eqL (eqv s 29) l m else some false
   | _,_=>none)=_
  rw[y,h]
  cases Cc with
  | nil=>rfl
  | cons a l=>simp
 show(match eqv s DEEP (.ref r) (.ref q)with|some r=>R.ok (D.bl r) s|none=>.bad)=_
 rw[this]
theorem aX5 (hlk:∀(k:Nat) o,B[k]?=some o->RB s Y (look (.int k) l) o):∀(en:List Nat),(∀ k∈en,k<B.length)->ai8 0 (en.filterMap λ(k:Nat)=>look (.int (k)) l)=some (en.filterMap λ k=>(fsB B).getD k none)
 | [],_=>rfl
 | k::en,h=>by
  have G:=aX5 hlk en λ j hj=>h j (ar _ hj)
  have hk:=h k (az ..)
  have J:=ag hk
  have y:=hlk k _ J
  have Cc:(fsB B).getD k none=(B[k]).map gy:=by rw[a7,az5 J];rfl
  cases e:B[k]with
  | none =>
   rw[e]at y Cc
   have y:=y
   rw[a9,a9,y,Cc]
   exact G
  | some p =>
   rw[e]at y Cc
   obtain⟨q,Z,h2,h3⟩:=y
   rw[a9,a9,Z,Cc]
   show(match bl5 0 (.tup [.int p.1,.ref q])with|some z=>(match ai8 0 (en.filterMap λ(k:Nat)=>look (.int (k)) l)with|some zs=>some (z::zs)|none=>none)|none=>none)=_
   rw[G]
   rfl
theorem aJ6 :∀ {l} {y},ai8 j l=some y->y.length=l.length/\∀(i:Nat) d,l[i]?=some d->∃ z,bl5 j d=some z/\y[i]?=some z
 | [],y,h=>by cases h;exact⟨rfl,λ i d e=>by cases e⟩
 | d::l,y,h=>by
  have h:(match bl5 j d with|some z=>(match ai8 j l with|some zs=>some (z::zs)|none=>none)|none=>none)=some y:=h
  cases e1:bl5 j d with
  | none=>rw[e1]at h;cases h
  | some z =>
   rw[e1]at h
   cases e2:ai8 j l with
   | none=>rw[e2]at h;cases h
   | some zs =>
    rw[e2]at h
    cases h
    obtain⟨J,G⟩:=aJ6 e2
    refine⟨by rw[aL,aL,J],λ i d' Cc=>?_⟩
    cases i with
    | zero=>cases Cc;exact⟨z,e1,rfl⟩
    | succ i=>exact G i d' Cc
theorem bF8 (h:ai8 0 l=some y)(hne:l≠[]) s :∃ d z,d∈l/\bl5 0 d=some z/\aG4 0 l s=.ok d s/\minI y=some z:=by
 obtain⟨Cc,hat⟩:=aJ6 h
 have h0:=fW.mpr hne
 have G:=bc7 (λ i=>y.getD i 0) (l.length - 1)
 have hlt:aN5 (λ i=>y.getD i 0) (l.length - 1)<l.length:=by omega
 obtain⟨z,hz,hk⟩:=hat _ _ (ag hlt)
 refine⟨_,z,g7 hlt,hz,?_,?_⟩
 .unfold aG4
  rw[h]
  show(match l[aN5 (λ i=>y.getD i 0) (l.length - 1)]? with|some d=>R.ok d s|none=>.bad)=_
  rw[ag hlt]
 .have hv:y.getD (aN5 (λ i=>y.getD i 0) (l.length - 1)) 0=z:=by rw[a7,hk];rfl
  have L:ab7 (λ c=>c∈y) (some z):=by
   refine⟨aN hk,λ c hc=>?_⟩
   obtain⟨j,hj,e⟩:=dg.mp hc
   have:=aI6 (λ i=>y.getD i 0) (l.length - 1) j (by lia)
   have e2:y.getD j 0=c:=by rw[a7,ag hj];exact e
   simp only[hv,e2]at this
   exact this
  exact(ag8 y).eq L λ c=>jm
def bG0 (m:Mc)(w:List Nat)(s:Sto)(x:R D):Prop:=(x=.ok .non s/\ab7 (m.Wk w) none)\/∃ ps c,x=.ok (.ref s.length) (s++[.lst (aa7 ps)])/\(∃ p∈m.bg,∃ q∈m.en,Pl m.ds w ps p q c)/\ab7 (m.Wk w) (some c)
theorem aH9 {m:Mc}(y:m.Ok):m.en.length<=5:=by
 have z:=y.R5
 have nd:=y.en.2.imp (λ h=>aw h)
 have:=fw nd (λ x hx=>cb.mpr (y.en.1 x hx))
 simp at this;lia
theorem az7 {m:Mc}(y:m.Ok):m.bg.length<=5:=by
 have z:=y.R5
 have nd:=y.bg.2.imp (λ h=>aw h)
 have:=fw nd (λ x hx=>cb.mpr (y.bg.1 x hx))
 simp at this;lia
theorem road_ok [Has P ab3][Has P ac0][Has P aa8][Has P ab1][Has P ak7] n {m}(hm:m.Ok) w (hw:w.length<=1000) s :bG0 m w s ((aa1 P (n+3)).call "road" [m.d,.str w] s):=by
 have e0:(aa1 P (n+3)).call "road" [m.d,.str w] s=_:=zh ak7 rfl
 rw[e0]
 have hb:=qJ (P:=P) (n+1) m
 have a4:=ah5 (P:=P) (n+1) m
 have sB:∀ S,ak4 (.tup (aa7 m.bg)) S=.ok ⟨aa7 m.bg,[]⟩ S:=λ _=>rfl
 have sE:∀ S,ak4 (.tup (aa7 m.en)) S=.ok ⟨aa7 m.en,[]⟩ S:=λ _=>rfl
 have sW:∀ S,ak4 (.str w) S=.ok ⟨w.map λ c=>.str [c],[]⟩ S:=λ _=>rfl
 have e7:=az7 hm
 have e4:=aH9 hm
 have h5:=hm.R5
 simp [ak7,hb]
 refine zK (λ i U u=>∃(T:Sto) (B:List (Option (Int×List Nat))) (y3 y4 Z:Option D),u=s++T/\Bst u s.length s.length i B/\B.length=m.R/\(∀ k o,B[k]?=some o->o=if k∈m.bg.take i then some (0,[])else none)/\U=[some m.d,some (.str w),some (.ref s.length),y3,y4,Z])
  ⟨[.dic []],aC m.R none,_,_,_,rfl,⟨[],by simp,aj _,λ k o e=>?_⟩,by simp,λ k o e=>?_,rfl⟩ (λ _ _ _ _ _=>rfl) ?_ ?_
 .rw[bj]at e
  split at e
  .cases e;exact rfl
  .cases e
 .rw[bj]at e
  split at e
  .cases e;rw[d7,if_neg (by simp)]
  .cases e
 .rintro i d U u hi ⟨T,B,y3,y4,Z,rfl,hB,J,hat,rfl⟩
  obtain⟨k,hk,rfl⟩:∃ k,m.bg[i]?=some k/\d=.int (k):=by
   unfold aa7 at hi
   rw[ay]at hi
   cases q:m.bg[i]? with
   | none=>rw[q]at hi;cases hi
   | some k=>rw[q]at hi;cases hi;exact⟨k,rfl,rfl⟩
  have e8:=(ac.mp hk).1
  have b3:m.bg.take (i+1)=m.bg.take i++[k]:=by
   have q:=(ac.mp hk).2
   rw[<-q,bI]
  have e6:=hm.bg.1 k (aN hk)
  obtain⟨l',b1,c0⟩:=Bst.put (ps:=[]) (q:=(s++T).length) (hB.app (T:=[.lst []])) qI (by rw[aD];lia) (by unfold LIM;lia)
  refine qE (U:=[some m.d,some (.str w),some (.ref s.length),some (.int (k:Int)),y4,Z]) (s:=(s++T++[O.lst []]).set s.length (.dic l')) ?_ ⟨_,B.set k (some (0,[])),_,_,_,by rw[aM];exact ax7 (aj _),c0,by simp[J],λ j o e=>?_,rfl⟩
  .simp only[qS,exs_nil,ex_setIx,jc,ev_cst,ev_tup,ev_lst,evs_nil,evs_cons,Cn_int,R.bind_ok,qz,setV_s,setV_0,ja,qZ,Option.map_some,nxt_next,alloc_eq,turn,b1]
  .rw[b3]
   by_cases hj:k=j
   .subst hj
    rw[aJ (by lia)]at e
    cases e
    rw[if_pos (by simp)]
   .rw[aB hj]at e
    rw[hat j o e]
    have:(j∈m.bg.take i++[k])↔j∈m.bg.take i:=by simp;lia
    by_cases h:j∈m.bg.take i
    .rw[if_pos h,if_pos (this.mpr h)]
    .rw[if_neg h,if_neg (λ z=>h (this.mp z))]
 rintro U u ⟨T,B,y3,y4,Z,rfl,hB,J,hat,rfl⟩
 have b2:(aa7 m.bg).length=m.bg.length:=by unfold aa7;rw[ax]
 rw[b2,bS]at hat
 have Y:GoodB m [] B:=by
  refine⟨J,λ k o hk=>?_,λ k c ps e=>?_⟩
  .unfold fsB at hk
   rw[ay]at hk
   cases q:B[k]? with
   | none=>rw[q]at hk;cases hk
   | some o' =>
    rw[q]at hk
    cases hk
    rw[hat k o' q]
    by_cases hb:k∈m.bg
    .rw[if_pos hb]
     exact⟨⟨k,hb,rfl,rfl⟩,by rintro c ⟨p,_,_,rfl⟩;exact dB _⟩
    .rw[if_neg hb]
     rintro c ⟨p,hp,h1,_⟩;exact hb (h1▸hp)
  .have:=hat k _ e
   by_cases hb:k∈m.bg
   .rw[if_pos hb]at this
    cases this
    exact⟨k,hb,rfl,rfl⟩
   .rw[if_neg hb]at this;cases this
 simp only[qS,ex_for,jc,evI_seq,R.bind_ok,ja,qZ,nxt_next,sW,R.bind_assoc]
 refine zK (Ww:=bG0 m w s) (λ j U u=>∃(T:Sto) (r nn:Nat) (B:List (Option (Int×List Nat))) (y3 y4 Z:Option D),u=s++T/\Bst u s.length r nn B/\GoodB m (w.take j) B/\U=[some m.d,some (.str w),some (.ref r),y3,y4,Z])
  ⟨T,s.length,_,B,_,_,_,rfl,hB,Y,rfl⟩ (λ _ _ _ _ _=>rfl) ?_ ?_
 .rintro j d U u hj ⟨T,r,nn,B,y3,y4,Z,rfl,hB,Y,rfl⟩
  obtain⟨c,hc,rfl⟩:∃ c,w[j]?=some c/\d=.str [c]:=by
   rw[ay]at hj
   cases e:w[j]? with
   | none=>rw[e]at hj;cases hj
   | some c=>rw[e]at hj;cases hj;exact⟨c,rfl,rfl⟩
  have b6:w.take j++[c]=w.take (j+1):=by
   have hlt:j<w.length:=(ac.mp hc).1
   have e:w[j]=c:=(ac.mp hc).2
   rw[<-e,bI]
  obtain⟨T',r',B',e1,d0,a6⟩:=bY9 (P:=P) n hm (w:=w.take j) (by rw[bG];lia) c hB Y (by rw[aD];lia)
  rw[b6]at a6
  refine qE (U:=[some m.d,some (.str w),some (.ref r'),y3,some (.str [c]),Z]) (s:=s++T++T') ?_ ⟨T++T',r',_,B',_,_,_,by rw[aM],d0,a6,rfl⟩
  simp only[qS,exs_nil,ex_asg,jc,ev_call,evas_nil,evas_ex,R.bind_ok,qz,setV_s,setV_0,ja,qZ,Option.map_some,setC_some,nxt_next,turn,e1]
 rintro U u ⟨T,r,nn,B,y3,y4,Z,rfl,hB,Y,rfl⟩
 rw[ax,bS]at Y
 obtain⟨l,a5,e5,hlk⟩:=hB
 have a3:(aa7 m.en).length<=LIM:=by unfold aa7;rw[ax];unfold LIM;lia
 obtain⟨U3,s3,e3,b5,_⟩:=zY (ok:=λ d1=>chk (s++T) d1 []) (g:=ah6 (aa1 P (n+2)) (.one 0) (.cmp .isin (.var 0) (.var 1)) (.ix (.var 1) (.var 0))) (λ U u=>u=s++T/\∃ x,U=[x,some (.ref r)]) (λ d=>match d with|.int i=>look (.int i) l|_=>none) (aa7 m.en) (qe [some m.d,some (.str w),some (.ref r),y3,y4,Z] [none,some 2]) (s++T) ⟨rfl,none,rfl⟩ (λ _ _ h=>rfl) (by
  rintro d hd U u ⟨rfl,x,rfl⟩
  obtain⟨k,hk,rfl⟩:=aK.mp hd
  refine⟨[some (.int k),some (.ref r)],s++T,?_,rfl,_,rfl⟩
  have a0:=aN6 (k:=.int (k:Int)) a5 rfl
  unfold ah6
  cases e:look (.int (k:Int)) l with
  | none=>rw[e]at a0;simp only[jc,ev_cmp,ev_ix,R.bind_ok,qz,setV_0,ja,qZ,tru_bl,if_false,Bool.false_eq_true,a0,bZ,e]
  | some v=>rw[e]at a0;have b4:=aq5 (s:=s++T) a5 rfl e;simp only[jc,ev_cmp,ev_ix,R.bind_ok,qz,setV_0,ja,qZ,tru_bl,if_true,a0,bW,b4,e])
 subst b5
 have c3:(aa7 m.en).filterMap (λ d=>match d with|.int i=>look (.int i) l|_=>none)=m.en.filterMap λ(k:Nat)=>look (.int (k:Int)) l:=by
  unfold aa7
  rw[cD]
  exact qp λ q _=>rfl
 rw[c3]at e3
 have G:=aX5 hlk m.en λ k hk=>by rw[Y.len];exact hm.en.1 k hk
 have y:=ax8 (m:=m) (w:=w) (row:=fsB B) (by unfold fsB;rw[ax,Y.len]) hm.en.1 Y.low
 generalize d3:(m.en.filterMap λ(k:Nat)=>look (.int (k:Int)) l)=fl at e3 G
 have g5:(s++T++[O.lst fl]++[O.lst []])[(s++T).length]?=some (.lst fl):=ze qI
 have a1:=bP9 (s:=s++T++[O.lst fl]++[O.lst []]) (q:=(s++T++[O.lst fl]).length) g5 qI
 by_cases hne:fl=[]
 .left
  rw[decide_eq_true hne]at a1
  refine⟨?_,?_⟩
  .simp only[qS,exs_nil,ex_asg,ex_ite,ex_ret,jc,ev_cst,ev_cmp,ev_lst,ev_call,ev_mk,evs_nil,evas_nil,evas_ex,evI_seq,Cn_non,R.bind_ok,qz,setV_s,setV_0,ja,qZ,Option.map_some,setC_some,nxt_next,nxt_ret,fin_ret,alloc_eq,tru_bl,if_true,zR,a4,sE,a3,e3,mk,a1]
   rw[aM,aM]
   exact zM (d:=.non) (λ _=>rfl) (by nofun)
  .subst hne
   have:(m.en.filterMap λ k=>(fsB B).getD k none)=[]:=(aA G).symm
   rw[this]at y
   exact y
 .right
  rw[decide_eq_false hne]at a1
  obtain⟨d,z,hd,hz,b0,hI⟩:=bF8 G hne (s++T++[O.lst fl]++[O.lst []])
  rw[hI]at y
  rw[<-d3]at hd
  obtain⟨k,hk,Cc⟩:=br.mp hd
  have e2:k<B.length:=by rw[Y.len];exact hm.en.1 k hk
  have a2:B[k]?=some B[k]:=ag e2
  have hr:=hlk k _ a2
  cases e:B[k]with
  | none =>
   rw[e]at hr
   have hr:look (.int (k:Int)) l=none:=hr
   rw[hr]at Cc;cases Cc
  | some p =>
   obtain⟨c,ps⟩:=p
   rw[e]at hr a2
   obtain⟨q,h1,h2,h3⟩:=hr
   rw[h1]at Cc
   cases Cc
   have c2:z=c:=by
    have:some c=some z:=hz
    exact(aA this).symm
   subst c2
   obtain⟨p0,d2,hpl⟩:=Y.is_ k z ps a2
   refine⟨ps,z,?_,⟨p0,d2,k,hk,hpl⟩,y⟩
   have c1:aJ7 (.ref (s++T).length) (s++T++[O.lst fl]++[O.lst []])=.ok fl (s++T++[O.lst fl]++[O.lst []]):=by simp only[aJ7,g5]
   simp only[qS,exs_nil,ex_asg,ex_ite,ex_ret,jc,ev_cst,ev_cmp,ev_lst,ev_ix,ev_call,ev_mk,evs_nil,evas_nil,evas_ex,evI_seq,Cn_int,Cn_non,R.bind_ok,qz,setV_s,setV_0,ja,qZ,Option.map_some,setC_some,nxt_next,nxt_ret,fin_ret,alloc_eq,tru_bl,if_true,if_false,Bool.false_eq_true,zR,a4,sE,a3,e3,mk,a1,bI7,c1,b0,cd3]
   have c4:(s++(T++([O.lst fl]++[O.lst []])))[q]?=some (.lst (aa7 ps)):=by
    rw[<-aM];exact ze h3
   rw[aM,aM]
   exact bm5 c4 h2 (by unfold O.bnd;exact zO af5 _)
structure Gd (ns:List Int)(r:Nat)(u:Sto):Prop where
 scr:u[0]?=some (.ro (ns.map D.int))
 ncl:u.all O.ncl=true
 bag:∃ b,u[r]?=some (zP b)
 r0:r≠0
theorem Gd.put (h:Gd ns r u) b :Gd ns r (u.set r (zP b)):=⟨by rw[aB h.r0];exact h.scr,bF7 h.ncl rfl,ag7 (aM3 h.bag),h.r0⟩
def bU2 (s:Sto)(r B:Nat)(x:R D):Prop:=∃ w b ,w.length<=B/\x=.ok (.str w) (s.set r (zP b))
theorem aO2 [Has P ac8][Has P ai3] n {s}{r L:Nat}(hL:1<=L)(Cc:L<=3)(hs:∃ b,s[r]?=some (zP b)) B (J:B<=500):bU2 s r B ((aa1 P (n+2)).call "_law_word" [.ref r,.int L,.int B] s):=by
 have z:(aa1 P (n+2)).call "_law_word" [.ref r,.int L,.int B] s=_:=zh ai3 rfl
 have h:=aM3 hs
 obtain⟨a,y,ha,e1⟩:=qD (P:=P) n hs ((B)+1) (by lia) (ah2 (by lia))
 rw[z]
 simp -implicitDefEqProofs [ai3,e1]
 rw[zQ (by unfold Ww62;lia) (by unfold Ww62;lia)]
 simp only[R.bind_ok]
 refine zK (λ j U u=>∃(b:Nat×Nat) (w:List Nat) (x:Option D),w.length=j/\U=[some (.ref r),some (.int L),some (.int B),some (.str w),x]/\u=s.set r (zP b)) ⟨y,[],none,rfl,rfl,rfl⟩ (λ _ _ _ _ _=>rfl) ?_ ?_
 .rintro j d U u hj ⟨b,w,x,hl,rfl,rfl⟩
  obtain⟨G,rfl⟩:=qT hj
  obtain⟨k,c,hk,f⟩:=qD (P:=P) n (ag7 (b:=b) h) L (by lia) (ah2 (by lia))
  rw[cE]at f
  refine qE (U:=[some (.ref r),some (.int L),some (.int B),some (.str (w++[97+k])),some (.int j)]) ?_ ⟨c,_,_,by simp[hl],rfl,rfl⟩
  simp -implicitDefEqProofs [turn,f,br9 (show k<3 by lia)]
  rw[av7 (by unfold LIM;simp;lia)]
  rfl
 .rintro U u ⟨b,w,x,hl,rfl,rfl⟩
  simp -implicitDefEqProofs
  refine⟨w,b,?_,qR (λ _=>rfl) (by nofun) rfl⟩
  rw[hl];simp[qY];lia
theorem bx1 {S}(h:S[k]?=some (.lst l))(hl:l.length+m.length<=LIM):bw0 (.ref k) m S=.ok .non (S.set k (.lst (l++m))):=by
 simp only[bw0,h,hl,if_true]
theorem aq9 (h:s[r]?=some (.lst l)):bi .isList [.ref r] s=.ok (.bl true) s:=by
 show(isK 5 (.ref r) s)=_
 simp only[isK,h];rfl
theorem bl8 { k:Nat}(h:s[a]?=some (.lst (aa7 l))):inM (.int k) (.ref a) s=.ok (decide (k∈l)) s:=by unfold inM;simp only[h,am6]
theorem bx2 {i k:Nat}(h:l[i]?=some k):(aa7 l)[i]?=some (.int (k)):=by unfold aa7;rw[ay,h];rfl
noncomputable def bO6:Ss:=(.cons (.ite (.or (.not (.bi .isInt (.cons (.ix (.var 2) (.var 5)) .nil))) (.or (.bi .isBool (.cons (.ix (.var 2) (.var 5)) .nil)) (.not (.chain .le .lt (.cst (.int 0)) (.ix (.var 2) (.var 5)) (.bi .len (.cons (.ix (.var 0) (.cst (.int 4))) .nil)))))) (.cons (.ret (.cst .non)) .nil) .nil) (.cons (.asg (.one 6) (.ix (.ix (.var 0) (.cst (.int 4))) (.ix (.var 2) (.var 5)))) (.cons (.ite (.or (.cmp .notin (.ix (.var 6) (.cst (.int 0))) (.var 3)) (.cmp .ne (.ix (.var 6) (.cst (.int 1))) (.ix (.var 1) (.var 5)))) (.cons (.ret (.cst .non)) .nil) .nil) (.cons (.asg (.one 3) (.lst (.cons (.ix (.var 6) (.cst (.int 2))) .nil))) (.cons (.asg (.one 4) (.bin .add (.var 4) (.ix (.var 6) (.cst (.int 3))))) .nil)))))
theorem bf6:ai1.body=(.cons (.ite (.or (.not (.bi .isList (.cons (.var 2) .nil))) (.cmp .ne (.bi .len (.cons (.var 2) .nil)) (.bi .len (.cons (.var 1) .nil)))) (.cons (.ret (.cst .non)) .nil) .nil) (.cons (.asg (.one 3) (.mk .list (.comp (.one 0) (.seq (.ix (.var 0) (.cst (.int 2)))) (.var 0) [none]))) (.cons (.asg (.one 4) (.cst (.int 0))) (.cons (.for_ (.one 5) (.rng1 (.bi .len (.cons (.var 1) .nil))) bO6) (.cons (.ite (.cmp .eq (.bi .len (.cons (.mk .list (.compIf (.one 0) (.seq (.var 3)) (.cmp .isin (.var 0) (.ix (.var 1) (.cst (.int 3)))) (.var 0) [none,some 0])) .nil)) (.cst (.int 0))) (.cons (.ret (.cst .non)) .nil) .nil) (.cons (.ret (.var 4)) .nil)))))):=rfl
noncomputable def enF (m:Mc):D->Option D
 | .int i=>if i.toNat∈m.en then some (.int i)else none
 | _=>none
theorem aC8 m (k:Nat):enF m (.int (k))=if k∈m.en then some (.int (k))else none:=by simp only[enF,cz]
theorem bD5 [Has P ai1] n {m:Mc}(hm:m.Ok){w ps}(hw:w.length<=1000){p q:Nat}{c:Int}(hp:p∈m.bg)(hq:q∈m.en)(h:Pl m.ds w ps p q c){s:Sto}{r:Nat}(hr:s[r]?=some (.lst (aa7 ps))) :
  (aa1 P (n+1)).call "_law_cost" [m.d,.str w,.ref r] s=.ok (.int c) s:=by
 have e0:(aa1 P (n+1)).call "_law_cost" [m.d,.str w,.ref r] s=_:=zh ai1 (n:=n) rfl
 rw[e0,bf6,show(dN some [m.d,D.str w,D.ref r]++aC ai1.vs none)=[some m.d,some (.str w),some (.ref r),none,none,none,none]from rfl]
 have a1:=ba7 h
 have a0:=aX7 hr
 have a6:(aa7 ps).length=w.length:=by unfold aa7;rw[ax,a1]
 rw[a6]at a0
 have sB:∀ S,ak4 (.tup (aa7 m.bg)) S=.ok ⟨aa7 m.bg,[]⟩ S:=λ _=>rfl
 have b0:=az7 hm
 have a3:(aa7 m.bg).length<=LIM:=by unfold aa7;rw[ax];unfold LIM;lia
 obtain⟨U3,s3,e3,b2,_⟩:=zY (ok:=λ Y=>chk s Y []) (g:=ao5 (aa1 P n) (.one 0) (.var 0)) (λ U u=>u=s/\∃ x,U=[x]) (λ d=>some d) (aa7 m.bg) (qe [some m.d,some (.str w),some (.ref r),none,none,none,none] [none]) s ⟨rfl,none,rfl⟩ (λ _ _ h=>rfl) (by
  rintro d hd U u ⟨rfl,x,rfl⟩
  refine⟨[some d],u,?_,rfl,_,rfl⟩
  unfold ao5
  simp -implicitDefEqProofs only[jc,R.bind_ok,qz,setV_0,ja])
 rw[b2,show(aa7 m.bg).filterMap (λ d=>some d)=aa7 m.bg from jw ..]at e3
 simp -implicitDefEqProofs only[qS,exs_nil,ex_asg,ex_ite,ex_ret,ex_for,jc,ev_cst,ev_not,ev_cmp,ev_or,ev_ix,ev_bi,ev_mk,evs_nil,evs_cons,evI_seq,evI_rng1,Cn_int,Cn_non,R.bind_ok,qz,setV_s,setV_0,ja,qZ,Option.map_some,setC_some,nxt_next,nxt_ret,ne_int,alloc_eq,tru_bl,if_true,if_false,Bool.false_eq_true,decide_true,Bool.not_true,aq9 hr,a0,bf3,aj8,ixB,sB,a3,e3,mk]
 rw[zQ (by unfold Ww62;lia) (by unfold Ww62;lia)]
 simp only[R.bind_ok]
 rw[R.bind_assoc]
 refine aj9 (λ k U u=>∃(T:Sto) (a:Nat) (hs:List Nat) (J:Nat) (Cc c':Int) (y5 y6:Option D),u=s++T/\u[a]?=some (.lst (aa7 hs))/\hs.length<=5/\J∈hs/\Pl m.ds (w.drop k) (ps.drop k) J q c'/\Cc+c'=c/\U=[some m.d,some (.str w),some (.ref r),some (.ref a),some (.int Cc),y5,y6])
  ⟨[.lst (aa7 m.bg)],s.length,m.bg,p,0,c,_,_,rfl,qI,b0,hp,by rw[eZ,eZ];exact h,by lia,rfl⟩ (λ _ _ _ _ _=>rfl) ?_ ?_
 .rintro k d U u hk ⟨T,a,hs,J,Cc,c',y5,y6,rfl,ha,b6,Z,hpl,hcc,rfl⟩
  obtain⟨z,rfl⟩:=qT hk
  rw[ir]
  have a2:k<w.length:=by lia
  have a4:k<ps.length:=by lia
  have ew:w.drop k=w[k]::w.drop (k+1):=(c6 a2)
  have ep:ps.drop k=ps[k]::ps.drop (k+1):=(c6 a4)
  rw[ew,ep]at hpl
  obtain⟨e,he,h1,h2,c2,h3,h4⟩:=hpl
  have hj:ps[k]?=some ps[k]:=ag a4
  have hx:w[k]?=some w[k]:=ag a2
  generalize ps[k]=j at he hj
  generalize w[k]=x at h2 hx
  have c1:j<m.ds.length:=(ac.mp he).1
  have i1:ixM (.ref r) (.int (k:Int)) (s++T)=.ok (.int (j:Int)) (s++T):=cb7 (ze hr) (bx2 hj)
  have i2:ixM (.tup (m.ds.map Dr.d)) (.int (j:Int)) (s++T)=.ok e.d (s++T):=bI5 (by lia) (by rw[cz];exact he)
  have i3:ixM (.str w) (.int (k:Int)) (s++T)=.ok (.str [x]) (s++T):=ix_str hx
  have d1:decide ((0:Int)<=(j:Int))=true:=decide_eq_true (by omega)
  have d2:decide ((j:Int)<((m.ds.map Dr.d).length:Int))=true:=decide_eq_true (by rw[ax];lia)
  have y:=bl8 (k:=e.a) ha
  rw[decide_eq_true (show e.a∈hs by rw[h1];exact Z)]at y
  refine qE (U:=[some m.d,some (.str w),some (.ref r),some (.ref (s++T).length),some (.int (Cc+e.t)),some (.int k),some e.d]) (s:=s++T++[.lst [.int e.b]]) ?_ ⟨T++[.lst (aa7 [e.b])],(s++T).length,[e.b],e.b,Cc+e.t,c2,_,_,by rw[<-aM];rfl,qI,by simp,by simp,h3,by lia,rfl⟩
  unfold bO6 turn
  simp -implicitDefEqProofs only[qS,exs_nil,ex_asg,ex_ite,ex_ret,jc,ev_cst,ev_bin,ev_not,ev_cmp,ev_or,ev_lst,ev_ix,ev_bi,evs_nil,evs_cons,Cn_int,Cn_non,R.bind_ok,qz,setV_s,setV_0,ja,qZ,Option.map_some,setC_some,nxt_next,nxt_ret,add_int,lt_int,le_int,alloc_eq,tru_bl,if_true,if_false,Bool.false_eq_true,decide_true,Bool.not_true,i1,aB5,aq4,bg3,d1,aG1,ixD,d2,i2,aO4,aS6,aP9,bl1,bn4,y,i3,ag9,h2]
 .rintro U u ⟨T,a,hs,J,Cc,c',y5,y6,rfl,ha,b6,Z,hpl,hcc,rfl⟩
  have b1:(qY 0 (w.length:Int)).length=w.length:=by simp[qY]
  rw[b1,kD,<-a1,kD]at hpl
  obtain⟨rfl,rfl⟩:=hpl
  have sH:ak4 (.ref a) (s++T)=.ok ⟨aa7 hs,[a]⟩ (s++T):=by simp only[ak4,ha]
  have b3:(aa7 hs).length<=LIM:=by unfold aa7;rw[ax];unfold LIM;lia
  obtain⟨U4,s4,e4,b5,_⟩:=zY (ok:=λ Y=>chk (s++T) Y [a]) (g:=ah6 (aa1 P n) (.one 0) (.cmp .isin (.var 0) (.ix (.var 1) (.cst (.int 3)))) (.var 0)) (λ U u=>u=s++T/\∃ x,U=[x,some m.d]) (enF m) (aa7 hs) (qe [some m.d,some (.str w),some (.ref r),some (.ref a),some (.int Cc),y5,y6] [none,some 0]) (s++T) ⟨rfl,none,rfl⟩ (λ _ _ h=>by rw[h.1];simp[chk]) (by
   rintro d hd U u ⟨rfl,x,rfl⟩
   obtain⟨k,hk,rfl⟩:=aK.mp hd
   refine⟨[some (.int k),some m.d],s++T,?_,rfl,_,rfl⟩
   have y:=bo9 (s:=s++T) (k:=k) (l:=m.en)
   unfold ah6
   by_cases z:k∈m.en
   .rw[decide_eq_true z]at y
    simp -implicitDefEqProofs only[jc,ev_cst,ev_cmp,ev_ix,Cn_int,R.bind_ok,qz,setV_0,ja,qZ,tru_bl,if_true,ixE,bb0,y,aC8,z]
   .rw[decide_eq_false z]at y
    simp -implicitDefEqProofs only[jc,ev_cst,ev_cmp,ev_ix,Cn_int,R.bind_ok,qz,setV_0,ja,qZ,tru_bl,if_false,Bool.false_eq_true,ixE,bb0,y,aC8,z])
  have G:D.int (J:Int)∈(aa7 hs).filterMap (enF m):=br.mpr ⟨.int (J:Int),aK.mpr ⟨J,Z,rfl⟩,by rw[aC8,if_pos hq]⟩
  generalize (aa7 hs).filterMap (enF m)=fl at G e4
  rw[b5]at e4
  have c0:=List.length_pos_of_mem G
  have b4:=aX7 (s:=s++T++[.lst fl]) (r:=(s++T).length) (l:=fl) qI
  have a5:decide ((fl.length:Int)=0)=false:=decide_eq_false (by lia)
  simp -implicitDefEqProofs only[qS,exs_nil,ex_ite,ex_ret,jc,ev_cst,ev_cmp,ev_bi,ev_mk,evs_nil,evs_cons,evI_seq,Cn_int,Cn_non,R.bind_ok,ja,qZ,nxt_next,nxt_ret,fin_ret,eq_int,alloc_eq,tru_bl,if_true,if_false,Bool.false_eq_true,zR,sH,b3,e4,mk,b4,a5]
  rw[show Cc=c by lia,aM]
  exact zM (d:=.int c) (λ _=>rfl) (by nofun)
theorem aj5 :∀ {l},(∀ d∈l,f d d=some true)->eqL f l l=some true
 | [],_=>rfl
 | d::l,h=>by
  show(match f d d,eqL f l l with|some x,some y=>some (x&&y)|_,_=>none)=_
  rw[h d (az ..),aj5 λ x hx=>h x (ar _ hx)];rfl
theorem au5 o :eqv s n (zJ o) (zJ o)=some true:=by
 cases o with
 | none=>cases n<;>rfl
 | some x=>
  have h:some (x==x)=some true:=by rw[beq_self_eq_true]
  cases n<;>exact h
theorem bD7 :eqv s DEEP (gdO m f) (gdO m f)=some true:=by
 refine aj5 λ d hd=>?_
 obtain⟨i,_,rfl⟩:=aK.mp hd
 refine aj5 λ d hd=>?_
 obtain⟨j,_,rfl⟩:=aK.mp hd
 exact au5 _
theorem bO0 :z0 .eq (gdO m f) (gdO m f) s=.ok (.bl true) s:=by
 show(match eqv s DEEP (gdO m f) (gdO m f)with|some r=>R.ok (D.bl r) s|none=>.bad)=_
 rw[bD7]
noncomputable def cf6:Ss:=(.cons (.ite (.and (.notN (.var 3)) (.or (.not (.bi .isInt (.cons (.var 3) .nil))) (.bi .isBool (.cons (.var 3) .nil)))) (.cons (.ret (.cst (.bl false))) .nil) .nil) .nil)
theorem bp2 [Has P ac9] n {m}(Z:m<=5) f  s :(aa1 P (n+1)).call "_law_same" [gdO m f,gdO m f] s=.ok (.bl true) s:=by
 have J:(aa1 P (n+1)).call "_law_same" [gdO m f,gdO m f] s=_:=zh ac9 rfl
 rw[J,show(dN some [gdO m f,gdO m f]++aC ac9.vs none)=[some (gdO m f),some (gdO m f),none,none]from rfl]
 have Cc:∀ l s,bi .isTup [.tup l] s=.ok (.bl true) s:=λ _ _=>rfl
 have Y:∀ s,bi .isTup [gdO m f] s=.ok (.bl true) s:=λ _=>rfl
 simp -implicitDefEqProofs only[ac9]
 simp -implicitDefEqProofs only[qS,exs_nil,ex_ite,ex_ret,ex_for,jc,ev_cst,ev_not,ev_cmp,ev_or,ev_bi,evs_nil,evs_cons,evI_rng1,Cn_bl,R.bind_ok,ja,qZ,nxt_next,nxt_ret,ne_int,tru_bl,if_false,Bool.false_eq_true,decide_true,Bool.not_true,Y,ah8,eq_self _,zQ (i:=(m:Int)) (by unfold Ww62;lia) (by unfold Ww62;lia)]
 rw[R.bind_assoc]
 refine aj9 (λ k U t=>t=s/\∃ x2 x3,U=[some (gdO m f),some (gdO m f),x2,x3]) ⟨rfl,none,none,rfl⟩ (λ _ _ _ _ _=>rfl) ?_ ?_
 .rintro i d U t hi ⟨rfl,x2,x3,rfl⟩
  have h:=(qN hi).1
  rw[(qN hi).2]
  have key:=qy (ok:=λ s1=>chk t s1 []) (g:=turn (aa1 P n) (.one 3) cf6) (λ k U u=>u=t/\∃ x3,U=[some (gdO m f),some (gdO m f),some (.int (i)),x3]) (rowO m (f i)) 0 [some (gdO m f),some (gdO m f),some (.int (i)),x3] t ⟨rfl,x3,rfl⟩ (λ _ _ _ _ _=>rfl) (by
   rintro j d U u hj ⟨rfl,z,rfl⟩
   unfold rowO at hj
   rw[ay]at hj
   obtain⟨q,_,rfl⟩:=cy.mp hj
   refine⟨[some (gdO m f),some (gdO m f),some (.int (i)),some (zJ (f i q))],u,.inl ?_,rfl,_,rfl⟩
   unfold turn cf6
   cases f i q with
   | none=>simp -implicitDefEqProofs only[qS,exs_nil,ex_ite,ex_ret,jc,ev_cst,ev_not,ev_and,ev_or,ev_bi,ev_notN,evs_nil,evs_cons,Cn_bl,R.bind_ok,qz,setV_s,setV_0,ja,qZ,Option.map_some,nxt_next,nxt_ret,tru_bl,if_false,Bool.false_eq_true,decide_true,Bool.not_true,zx]
   | some y=>simp -implicitDefEqProofs only[qS,exs_nil,ex_ite,ex_ret,jc,ev_cst,ev_not,ev_and,ev_or,ev_bi,ev_notN,evs_nil,evs_cons,Cn_bl,R.bind_ok,qz,setV_s,setV_0,ja,qZ,Option.map_some,nxt_next,nxt_ret,tru_bl,if_true,if_false,Bool.false_eq_true,decide_false,Bool.not_true,Bool.not_false,zF,show(D.int y=D.non)=False from eq_false (by nofun),aB5,aq4])
  obtain⟨U',s',ek,rfl,z,rfl⟩:=key
  have G:ak4 (.tup (rowO m (f i))) s'=.ok ⟨rowO m (f i),[]⟩ s':=rfl
  refine qE (U:=[some (gdO m f),some (gdO m f),some (.int (i:Int)),z]) (s:=s') ?_ ⟨rfl,_,_,rfl⟩
  unfold turn
  simp -implicitDefEqProofs only[qS,exs_nil,ex_ite,ex_ret,ex_for,jc,ev_cst,ev_not,ev_cmp,ev_or,ev_ix,ev_bi,evs_nil,evs_cons,evI_seq,Cn_bl,R.bind_ok,qz,setV_s,setV_0,ja,qZ,Option.map_some,nxt_next,nxt_ret,ne_int,tru_bl,if_false,Bool.false_eq_true,decide_true,Bool.not_true,qt h,Cc,aG1,aL3,ah8,show((m:Int)=(m:Int))=True from eq_self _,G]
  unfold cf6 at ek
  rw[ek]
  simp -implicitDefEqProofs only[exs_nil,R.bind_ok,nxt_next]
 .rintro U t ⟨rfl,x2,x3,rfl⟩
  simp -implicitDefEqProofs only[qS,ex_ret,jc,ev_cmp,R.bind_ok,ja,qZ,nxt_next,nxt_ret,fin_ret,bO0]
  exact bn9
section
variable {P:Pr} [Has P ad3] [Has P ac3] [Has P ac6] [Has P ab5] [Has P aa8] [Has P aa6] [HasL P aa2] [Has P ad0] [HasL P ab4] [Has P ab8] [HasL P aa9] [Has P ab0]
 [Has P aw3] [Has P ac8] [Has P ad5] [Has P ac5] [Has P ai3] [Has P ac9] [Has P aD8] [Has P aY1]
end
noncomputable def cdD (cs:List Int):List (D×D):=cs.map λ c=>(.int c,.bl true)
noncomputable def aI5 (cs:List Int)(c:Int):List Int:=if c∈cs then cs else cs++[c]
theorem bo8 :x∈aI5 cs c↔x∈cs\/x=c:=by
 unfold aI5
 split
 .rename_i h
  exact⟨.inl,λ z=>z.elim id λ e=>by rw[e];exact h⟩
 .rw[a8,aV]
theorem bE5 (h:cs.Nodup) c :(aI5 cs c).Nodup:=by
 unfold aI5
 split
 .exact h
 .rename_i hc
  exact j8.mpr ⟨h,by simp,λ a ha b hb=>by
   rw[aV.mp hb];exact λ e=>hc (e▸ha)⟩
theorem aY0 c :∀ cs:List Int,look (.int c) (cdD cs)=if c∈cs then some (.bl true)else none
 | []=>rfl
 | a::cs=>by
  show(if D.int a=.int c then some (.bl true)else look (.int c) (cdD cs))=_
  rw[aY0 c cs]
  by_cases h:a=c
  .subst h;simp
  .rw[if_neg (by intro z;injection z with z;exact h z)]
   have:c≠a:=λ z=>h z.symm
   simp[this]
theorem bt8 c cs :ae6 (.int c) (.bl true) (cdD cs)=cdD (aI5 cs c):=by
 unfold ae6 aI5
 rw[aY0]
 by_cases h:c∈cs
 .rw[if_pos h,if_pos h]
  simp only[bW]
  unfold cdD
  rw[cR]
  refine ee λ a _=>?_
  show(if D.int a=.int c then(D.int a,D.bl true)else(D.int a,D.bl true))=_
  split<;>rfl
 .rw[if_neg h,if_neg h]
  simp only[bZ,if_false]
  unfold cdD
  simp
theorem aI0 :(cdD cs).length=cs.length:=by unfold cdD;simp
noncomputable def RT (s:Sto)(b0 r:Nat)(v:Option D):Option (List Int)->Prop
 | none=>v=none
 | some cs=>∃ q,v=some (.ref q)/\b0<=q/\q≠r/\s[q]?=some (.dic (cdD cs))
def Tol (s:Sto)(b0 r n:Nat)(Cc:List (Option (List Int))):Prop :=
 ∃ l,s[r]?=some (.dic l)/\l.length<=n/\(∀(j k q:Nat),look (.int j) l=some (.ref q)->look (.int k) l=some (.ref q)->j=k)/\∀(k:Nat) o,Cc[k]?=some o->RT s b0 r (look (.int k) l) o
theorem RT.app (h:RT s y r v o):RT (s++T) y r v o:=by
 cases o with
 | none=>exact h
 | some p=>obtain⟨q,G,z,Cc,h4⟩:=h;exact⟨q,G,z,Cc,ze h4⟩
theorem Tol.app (h:Tol s y r n Cc):Tol (s++T) y r n Cc:=by
 obtain⟨l,J,z,G,h4⟩:=h
 exact⟨l,ze J,z,G,λ k o e=>(h4 k o e).app⟩
theorem RT.keep (h:RT s y r v o)(hq:v≠some (.ref q)):RT (s.set q Y) y r v o:=by
 cases o with
 | none=>exact h
 | some p =>
  obtain⟨J,Cc,G,Z,h4⟩:=h
  refine⟨J,Cc,G,Z,?_⟩
  rw[aB λ z=>hq (by rw[Cc,z])]
  exact h4
theorem Tol.there (h:Tol s z r n Cc){k:Nat}(hk:Cc[k]?=some (some cs))(hn:n<LIM) :
  ∃ q,(∃ l,s[r]?=some (.dic l)/\look (.int k) l=some (.ref q))/\aV3 (.ref r) (.int k) (.ref s.length) (s++[.dic []])=.ok (.ref q) (s++[.dic []]):=by
 obtain⟨l,y,G,J,h4⟩:=h
 obtain⟨q,e1,_⟩:=h4 k _ hk
 refine⟨q,⟨l,y,e1⟩,?_⟩
 have g:(s++[O.dic []])[r]?=some (.dic l):=ze y
 unfold aV3
 simp only[g,e1]
 rw[if_pos (by simp only[D.key,dQ,decide_eq_true_eq];lia)]
theorem Tol.fresh (h:Tol s Z r n Cc){k:Nat}(hk:Cc[k]?=some none)(hn:n<LIM)(hb:Z<=s.length)(y:∀ l,s[r]?=some (.dic l)->∀(j q:Nat),look (.int j) l=some (.ref q)->q<s.length) :
  ∃ l Y,s[r]?=some (.dic l)/\Y=ae6 (.int k) (.ref s.length) l/\aV3 (.ref r) (.int k) (.ref s.length) (s++[.dic []])=.ok (.ref s.length) ((s++[O.dic []]).set r (.dic Y))/\look (.int k) Y=some (.ref s.length)/\Tol ((s++[O.dic []]).set r (.dic Y)) Z r (n+1) (Cc.set k (some [])):=by
 obtain⟨l,J,h2,h3,h4⟩:=h
 have a5:=(ac.mp J).1
 have a0:=(ac.mp hk).1
 have e0:look (.int k) l=none:=h4 k _ hk
 have g:(s++[O.dic []])[r]?=some (.dic l):=ze J
 have G:=y l J
 refine⟨l,ae6 (.int k) (.ref s.length) l,J,rfl,?_,by rw[qr,if_pos rfl],_,ql (by simp;lia),by have:=aD6 (.int k) (.ref s.length) l;lia,λ i j q a b=>?_,λ j o e=>?_⟩
 .unfold aV3
  simp only[g,e0]
  rw[if_pos (by simp only[D.key,dQ,decide_eq_true_eq];lia)]
 .rw[qr]at a b
  by_cases hi:k=i
  .by_cases hj:k=j
   .lia
   .subst hi
    rw[if_pos rfl]at a
    cases a
    rw[if_neg (by intro z;injection z with z;lia)]at b
    have:=G j _ b
    lia
  .rw[if_neg (by intro z;injection z with z;omega)]at a
   by_cases hj:k=j
   .subst hj
    rw[if_pos rfl]at b
    cases b
    have:=G i _ a
    omega
   .rw[if_neg (by intro z;injection z with z;omega)]at b
    exact h3 i j q a b
 .rw[qr]
  by_cases hj:k=j
  .subst hj
   rw[aJ a0]at e
   cases e
   rw[if_pos rfl]
   refine⟨s.length,rfl,hb,by lia,?_⟩
   rw[aB (by lia)]
   exact aI8
  .rw[aB hj]at e
   rw[if_neg (by intro z;injection z with z;omega)]
   have q:=h4 j o e
   cases o with
   | none=>exact q
   | some p =>
    obtain⟨q',a1,a2,a3,a4⟩:=q
    refine⟨q',a1,a2,a3,?_⟩
    rw[aB (λ z=>a3 z.symm)]
    exact ze a4
section
variable {F:Fns} {U:Env} {s:Sto}
theorem bC4 tg e b :ex F (.forK tg e b) U s=((ev F e U s).bind λ d s=>at4 d s).bind λ q s0=>if aO9 s q.src then(aC7 (λ s=>chk s0 s q.src) (turn F tg b) q.its U s0).bind (λ c s=>au0 q.src c s)else .bad:=rfl
end
theorem aT3:∀ n (l:List Nat),l.Nodup->(∀ x∈l,x<n)->l.length<=n
 | 0,[],_,_=>aj _
 | 0,x::l,_,h=>absurd (h x (az ..)) (by lia)
 | n+1,l,nd,h=>by
  have g:=aT3 n (l.filter λ x=>decide (x≠n)) (nd.filter _) λ x hx=>by
   have:=fJ.mp hx
   have G:=h x this.1
   have Cc:=of_decide_eq_true this.2
   lia
  have k:∀ m:List Nat,m.Nodup->m.length<=(m.filter λ x=>decide (x≠n)).length+1:=by
   intro m
   induction m with
   | nil=>intro _;simp
   | cons a m ih =>
    intro y
    rw[cJ]at y
    by_cases ha:a=n
    .have e:m.filter (λ x=>decide (x≠n))=m:=List.filter_eq_self.mpr λ x hx=>decide_eq_true λ z=>y.1 (by rw[ha,<-z];exact hx)
     rw[List.filter_cons_of_neg (by simp[ha]),e]
     simp
    .rw[List.filter_cons_of_pos (by simp[ha])]
     have:=ih y.2
     simp only[aL]
     lia
  have:=k l nd
  lia
theorem bH5 as :(cdD as).all (λ p=>p.1.keyF)=true:=by
 unfold cdD
 rw[lI]
 exact aZ.mpr λ _ _=>rfl
theorem ba6 as :(cdD as).map (·.1)=bq2 as:=by unfold cdD bq2;rw[cR];rfl
noncomputable def stF (fee:Int)(cs as:List Int):List Int:=as.foldl (λ b c=>aI5 b (c+fee)) cs
theorem bl4 fee cs as c :stF fee cs (as++[c])=aI5 (stF fee cs as) (c+fee):=by unfold stF;rw[List.foldl_append];rfl
theorem bm8 cs c :(aI5 cs c).length<=cs.length+1:=by
 unfold aI5
 split
 .lia
 .rw[aD];simp
theorem aV7 fee :∀ as cs ,(stF fee cs as).length<=cs.length+as.length
 | [],cs=>aj _
 | a::as,cs=>by
  have y:=aV7 fee as (aI5 cs (a+fee))
  have h:=bm8 cs (a+fee)
  show(stF fee (aI5 cs (a+fee)) as).length<=_
  rw[aL];lia
theorem aD5 :∀ {as cs},x∈stF fee cs as↔x∈cs\/∃ c∈as,x=c+fee
 | [],cs=>by show x∈cs↔_;simp
 | a::as,cs=>by
  show x∈stF fee (aI5 cs (a+fee)) as↔_
  rw[aD5,bo8]
  constructor
  .rintro((h|h)|⟨c,hc,h⟩)
   .exact .inl h
   .exact .inr ⟨a,az ..,h⟩
   .exact .inr ⟨c,ar _ hc,h⟩
  .rintro(h|⟨c,hc,h⟩)
   .exact .inl (.inl h)
   .rcases av.mp hc with rfl|hc
    .exact .inl (.inr h)
    .exact .inr ⟨c,hc,h⟩
theorem aZ1 :∀ {as cs},cs.Nodup->(stF fee cs as).Nodup
 | [],_,h=>h
 | _::as,_,h=>aZ1 (as:=as) (bE5 h _)
theorem aL6 {s:Sto}(h:s[r]?=some o):s.set r o=s:=by
 obtain⟨hl,e⟩:=ac.mp h
 rw[<-e];exact fe hl
noncomputable def wkK:S:=.forK (.one 9) (.ix (.var 1) (.var 4)) (.cons (.setIx (.var 8) (.bin .add (.var 9) (.var 7)) (.cst (.bl true))) .nil)
theorem bP2 {S}(hx:ixM (.ref r) (.int st) S=.ok (.ref a) S)(ha:S[a]?=some (.dic (cdD as)))(G:S[t]?=some (.dic (cdD cs)))(hne:a≠t)(hl:cs.length+as.length<LIM) :
  ∃ y,ex F wkK [x0,some (.ref r),x2,x3,some (.int st),x5,x6,some (.int fee),some (.ref t),x9] S=.ok (.next [x0,some (.ref r),x2,x3,some (.int st),x5,x6,some (.int fee),some (.ref t),y]) (S.set t (.dic (cdD (stF fee cs as)))):=by
 have Cc:=(ac.mp ha).1
 have a0:=(ac.mp G).1
 have J:at4 (.ref a) S=.ok ⟨bq2 as,[a]⟩ (S.set a (.dicF (cdD as))):=by
  unfold at4
  simp only[ha,bH5,if_true,ba6]
 have Y:aO9 S [a]=true:=by unfold aO9;simp only[dP,ke,eD,ha]
 generalize h:S.set a (.dicF (cdD as))=S' at *
 have la:S'.length=S.length:=by rw[<-h];simp
 have ra:S'[a]?=some (.dicF (cdD as)):=by rw[<-h];exact ql Cc
 have rt:S'[t]?=some (.dic (cdD cs)):=by rw[<-h,aB hne];exact G
 have key:=qy (ok:=λ u=>chk S' u [a]) (g:=turn F (.one 9) (.cons (.setIx (.var 8) (.bin .add (.var 9) (.var 7)) (.cst (.bl true))) .nil)) (λ j U u=>∃ y,U=[x0,some (.ref r),x2,x3,some (.int st),x5,x6,some (.int fee),some (.ref t),y]/\u=S'.set t (.dic (cdD (stF fee cs (as.take j)))))
  (bq2 as) 0 [x0,some (.ref r),x2,x3,some (.int st),x5,x6,some (.int fee),some (.ref t),x9] S' ⟨x9,rfl,by
   exact(aL6 rt).symm⟩ (λ j U u _ ⟨_,_,hu⟩=>by
   unfold chk
   subst hu
   rw[dP,aB (bH hne)];simp) ?_
 .obtain⟨U',s',k1,y,rfl,rfl⟩:=key
  rw[bz,show(bq2 as).length=as.length by unfold bq2;simp,bS]at k1
  refine⟨y,?_⟩
  have th:au0 [a] (Ct.next [x0,some (.ref r),x2,x3,some (.int st),x5,x6,some (.int fee),some (.ref t),y]) (S'.set t (.dic (cdD (stF fee cs as))))=.ok (.next [x0,some (.ref r),x2,x3,some (.int st),x5,x6,some (.int fee),some (.ref t),y]) (S.set t (.dic (cdD (stF fee cs as)))):=by
   unfold au0
   simp only[aB (bH hne),ra]
   rw[<-h,lw _ _ hne,cE,lw _ _ (bH hne),aL6 ha]
  unfold wkK
  simp only[jc,ev_ix,R.bind_ok,ja,qZ,if_true,bC4,hx,J,Y]
  rw[k1]
  simp only[R.bind_ok,th]
 .rintro j d U u hj ⟨y,rfl,rfl⟩
  rw[bz]
  obtain⟨c,hc,rfl⟩:∃ c,as[j]?=some c/\d=.int c:=by
   unfold bq2 at hj
   rw[ay]at hj
   cases q:as[j]? with
   | none=>rw[q]at hj;cases hj
   | some c=>rw[q]at hj;cases hj;exact⟨c,rfl,rfl⟩
  have Z:=(ac.mp hc).1
  have z:=aV7 fee (as.take j) cs
  have f1:setIx (.ref t) (.int (c+fee)) (.bl true) (S'.set t (.dic (cdD (stF fee cs (as.take j)))))=.ok () (S'.set t (.dic (cdD (stF fee cs (as.take (j+1)))))):=by
   have:=ar7 (k:=.int (c+fee)) (v:=.bl true) (ql (s:=S') (r:=t) (o:=.dic (cdD (stF fee cs (as.take j)))) (by lia)) rfl (by rw[aI0];rw[bG]at z;lia)
   rw[this,bt8,cE,<-bl4]
   have e:as.take j++[c]=as.take (j+1):=by
    have q:as[j]=c:=(ac.mp hc).2
    rw[<-q,bI]
   rw[e]
  refine⟨_,_,.inl ?_,some (.int c),rfl,rfl⟩
  unfold turn
  simp only[qS,exs_nil,ex_setIx,jc,ev_cst,ev_bin,Cn_bl,R.bind_ok,qz,setV_s,setV_0,ja,qZ,Option.map_some,nxt_next,add_int,f1]
theorem au9 {N:Nat}{l:List Int}(h:l.Nodup)(hl:∀ x∈l,0<=x/\x<=(N:Int)):l.length<=N+1:=by
 have z:(l.map Int.toNat).Nodup:=by
  unfold List.Nodup at *
  rw[List.pairwise_map]
  refine lx (λ {a b} ha hb hab=>?_) h
  have:=hl a ha
  have:=hl b hb
  lia
 have y:=aT3 (N+1) _ z λ x hx=>by
  obtain⟨a,ha,rfl⟩:=aK.mp hx
  have:=hl a ha
  lia
 rw[ax]at y
 exact y
theorem br4 :∀ {w} {p q} {c},Wk y w p q c->0<=c
 | [],p,q,c,h=>by have:=h.2;lia
 | x::w,p,q,c,h=>by
  obtain⟨d,hd,_,_,Cc,z,e⟩:=h
  have:=br4 z
  lia
theorem bi4 {m:Mc}(y:m.Ok):∀ {w} {p q} {c},Wk m.ds w p q c->c<=3*(w.length)
 | [],p,q,c,h=>by have:=h.2;simp;lia
 | x::w,p,q,c,h=>by
  obtain⟨d,hd,_,_,Cc,z,e⟩:=h
  have:=bi4 y z
  have:=(y.ds.1 d hd).t
  rw[aL]
  lia
theorem Tol.costs (h:Tol s Y r n Cc){k :Nat}(hk:Cc[k]?=some (some cs))(hl:s[r]?=some (.dic l))(hq:look (.int k) l=some (.ref q)) y :
  Tol (s.set q (.dic (cdD y))) Y r n (Cc.set k (some y)):=by
 obtain⟨l',h1,h2,Z,h4⟩:=h
 rw[hl]at h1
 cases h1
 obtain⟨q',e1,e2,e3,e4⟩:=h4 k _ hk
 rw[hq]at e1
 cases e1
 have J:=(ac.mp e4).1
 have G:=(ac.mp hk).1
 refine⟨l,?_,h2,Z,λ j o e=>?_⟩
 .rw[aB e3];exact hl
 .by_cases hj:k=j
  .subst hj
   rw[aJ G]at e
   cases e
   exact⟨q,hq,e2,e3,ql J⟩
  .rw[aB hj]at e
   exact(h4 j o e).keep λ z=>hj (Z k j q hq z)
structure GoodC (R:Nat)(S:Nat->Int->Prop)(Cc:List (Option (List Int))):Prop where
 len:Cc.length=R
 is_:∀(k:Nat) o,Cc[k]?=some o->match o with
  | none=>∀ c,¬ S k c
  | some cs=>cs.Nodup/\∀ c,c∈cs↔S k c
theorem GoodC.step {R}{S }(h:GoodC R S Cc)(hk:Cc[k]?=some none/\cs=[]\/Cc[k]?=some (some cs))(J:∀ j c,S' j c↔S j c\/j=k/\∃ a∈as,c=a+fee):GoodC R S' (Cc.set k (some (stF fee cs as))):=by
 have y:k<Cc.length:=by rcases hk with h|h<;>exact(ac.mp (by first|exact h.1|exact h)).1
 refine⟨by rw[aU];exact h.len,λ j o e=>?_⟩
 by_cases hj:k=j
 .subst hj
  rw[aJ y]at e
  cases e
  have base:cs.Nodup/\∀ c,c∈cs↔S k c:=by
   rcases hk with⟨G,rfl⟩|G
   .exact⟨gz,λ c=>⟨λ z=>(by cases z),λ z=>absurd z (h.is_ k none G c)⟩⟩
   .exact h.is_ k (some cs) G
  refine⟨aZ1 base.1,λ c=>?_⟩
  rw[aD5,J,base.2]
  simp
 .rw[aB hj]at e
  have q:=h.is_ j o e
  have Y:∀ c,S' j c↔S j c:=λ c=>by
   rw[J]
   exact⟨λ z=>z.elim id λ z=>absurd z.1.symm hj,.inl⟩
  cases o with
  | none=>exact λ c z=>q c ((Y c).mp z)
  | some ds=>exact⟨q.1,λ c=>(q.2 c).trans (Y c).symm⟩
theorem GoodC.same {R}{S }(h:GoodC R S Cc)(y:∀ j c,S' j c↔S j c):GoodC R S' Cc:=by
 refine⟨h.len,λ j o e=>?_⟩
 have q:=h.is_ j o e
 cases o with
 | none=>exact λ c z=>q c ((y j c).mp z)
 | some ds=>exact⟨q.1,λ c=>(q.2 c).trans (y j c).symm⟩
theorem aT7 (h:Tol (s++T) z r n Cc)(hr:s.length<=r):∃ T' Y,zr s (.ref r) (s++T)=.ok (.ref Y) (s++T')/\Tol (s++T') z Y n Cc:=by
 obtain⟨l,y,J,h4,G⟩:=h
 by_cases hbn:(O.dic l).bnd s.length=true
 .refine⟨[.dic l],s.length,?_,l,by simp,J,h4,λ k o e=>?_⟩
  .unfold zr
   rw[if_pos (zU s T)]
   dsimp only
   rw[if_neg (by omega),y]
   dsimp only
   rw[if_pos hbn,fU]
   rfl
  .have:=G k o e
   cases o with
   | none=>exact this
   | some p =>
    obtain⟨q,e1,e2,e3,Z⟩:=this
    have hq:=by
     unfold O.bnd at hbn
     rw[ak]at hbn
     have hm:=av8 e1
     have:=as9 hbn.2 _ hm
     unfold D.bnd at this
     simpa using this
    refine⟨q,e1,e2,by lia,?_⟩
    rw[aQ hq]at Z
    exact ze Z
 .refine⟨T,r,?_,l,y,J,h4,G⟩
  unfold zr
  rw[if_pos (zU s T)]
  dsimp only
  rw[if_neg (by omega),y]
  dsimp only
  rw[if_neg hbn]
def cb2 (m:Mc)(w:List Nat)(s:Sto)(b0:Nat)(x:R D):Prop:=∃ T r Cc,x=.ok (.ref r) (s++T)/\Tol (s++T) b0 r 75 Cc/\GoodC m.R (qA m w) Cc
theorem ae5.snoc {S}:ae5 S x (y++[d]) j c↔ae5 S x y j c\/d.l=x/\d.b=j/\∃ h,S d.a h/\c=h+(d.t):=by
 constructor
 .rintro⟨e,he,r⟩
  rcases a8.mp he with z|z
  .exact .inl ⟨e,z,r⟩
  .rw[aV.mp z]at r;exact .inr r
 .rintro(⟨e,he,r⟩|r)
  .exact⟨e,a8.mpr (.inl he),r⟩
  .exact⟨d,by simp,r⟩
def Rf (u:Sto)(r:Nat):Prop:=∀ l,u[r]?=some (.dic l)->∀(j q:Nat),look (.int j) l=some (.ref q)->q<u.length
theorem bR0 o k d :ev F (.sdf o k d) U s=(ev F o U s).bind λ x s=>(ev F k U s).bind λ y s=>(ev F d U s).bind λ z s=>aV3 x y z s:=rfl
theorem bx4 (h:Tol u b r n Cc)(z:Rf u r)(hn:n<LIM)(hb:b<=u.length){k:Nat}(hk:Cc[k]?=some o) :
  ∃ q cs l S Y,aV3 (.ref r) (.int k) (.ref u.length) (u++[.dic []])=.ok (.ref q) S/\(∀ s T,u=s++T->s.length<=r->∃ T',S=s++T')/\Tol S b r (n+1) Y/\Y[k]?=some (some cs)/\(∀ v,Y.set k v=Cc.set k v)/\(Cc[k]?=some none/\cs=[]\/Cc[k]?=some (some cs))/\S[r]?=some (.dic l)/\look (.int k) l=some (.ref q)/\Rf S r:=by
 have J:=(ac.mp hk).1
 cases o with
 | none =>
  obtain⟨l,l',G,e,h2,Z,h4⟩:=h.fresh hk hn hb z
  have a0:=(ac.mp G).1
  have g:((u++[O.dic []]).set r (.dic l'))[r]?=some (.dic l'):=ql (by simp;lia)
  refine⟨_,[],l',_,_,h2,λ s T e hs=>?_,h4,aJ J,λ v=>cE ..,.inl ⟨hk,rfl⟩,g,Z,λ l2 y j q a=>?_⟩
  .rw[e,aM];exact⟨_,ax7 hs⟩
  .rw[g]at y
   cases y
   rw[e,qr]at a
   rw[aU,aD,bK]
   split at a
   .cases a;lia
   .have:=z l G j q a;lia
 | some cs =>
  obtain⟨q,⟨l,G,h2⟩,Z⟩:=h.there hk hn
  refine⟨q,cs,l,_,Cc,Z,λ s T e hs=>?_,?_,hk,λ _=>rfl,.inr hk,ze G,h2,λ l2 y j q' a=>?_⟩
  .rw[e,aM];exact⟨_,rfl⟩
  .obtain⟨l3,a1,a2,a3⟩:=h.app 
   exact⟨l3,a1,by lia,a3⟩
  .have g:(u++[O.dic []])[r]?=some (.dic l):=ze G
   rw[g]at y
   cases y
   have:=z l G j q' a
   rw[aD];lia
theorem bW7 [Has P aa8][Has P ab2] n {m}(hm:m.Ok){w}(hw:w.length<=1000) x {s}{b0 r nn}{Cc:List (Option (List Int))}(hC:Tol s b0 r nn Cc)(hG:GoodC m.R (qA m w) Cc)(hb:b0<=s.length) :
  cb2 m (w++[x]) s s.length ((aa1 P (n+2)).call "paid_led_on" [m.d,.ref r,.str [x]] s):=by
 have e0:(aa1 P (n+2)).call "paid_led_on" [m.d,.ref r,.str [x]] s=_:=zh ab2 (n:=n+1) rfl
 rw[e0]
 have hd:∀ S,(aa1 P (n+1)).call "doors_of" [m.d] S=.ok (.tup (m.ds.map Dr.d)) S:=ji (P:=P) n m
 have sT:∀ S,at2 (.tup (m.ds.map Dr.d)) S=.ok ⟨m.ds.map Dr.d,[]⟩ S:=λ _=>rfl
 obtain⟨lb,a5,_,_,hlk⟩:=hC
 have e1:r<s.length:=(ac.mp a5).1
 have d2:=hm.ds.2
 simp [ab2,qH,hd,sT]
 refine zK (Ww:=cb2 m (w++[x]) s s.length) (λ i U u=>∃(T:Sto) (Z:List (Option (List Int))) (y4 y5 y6 y7 y8 y9:Option D),u=s++T/\Tol u s.length s.length i Z/\Rf u s.length/\GoodC m.R (ae5 (qA m w) x (m.ds.take i)) Z/\U=[some m.d,some (.ref r),some (.str [x]),some (.ref s.length),y4,y5,y6,y7,y8,y9])
  ⟨[.dic []],aC m.R none,_,_,_,_,_,_,rfl,⟨[],by simp,aj _,λ j k q a=>(by cases a),λ k o e=>?_⟩,λ l hl j q a=>?_,⟨by simp,λ k o e=>?_⟩,rfl⟩ (λ _ _ _ _ _=>rfl) ?_ ?_
 .rw[bj]at e
  split at e
  .cases e;exact rfl
  .cases e
 .simp at hl
  subst hl
  cases a
 .rw[bj]at e
  split at e
  .cases e
   rintro c' ⟨d,hd,_⟩
   rw[d7]at hd;cases hd
  .cases e
 .rintro i d U u hi ⟨T,Z,y4,y5,y6,y7,y8,y9,rfl,G,a6,y,rfl⟩
  obtain⟨e,he,rfl⟩:∃ e,m.ds[i]?=some e/\d=e.d:=by
   rw[ay]at hi
   cases q:m.ds[i]? with
   | none=>rw[q]at hi;cases hi
   | some e=>rw[q]at hi;cases hi;exact⟨e,rfl,rfl⟩
  have c4:i<m.ds.length:=(ac.mp he).1
  have hok:=hm.ds.1 e (aN he)
  have b3:m.ds.take (i+1)=m.ds.take i++[e]:=by
   have q:m.ds[i]=e:=(ac.mp he).2
   rw[<-q,bI]
  have c3:(s++T)[r]?=some (.dic lb):=ze a5
  obtain⟨oa,ha⟩:∃ o,Cc[e.a]?=some o:=⟨Cc[e.a]'(by rw[hG.len];exact hok.a),ag _⟩
  obtain⟨ob,c2⟩:∃ o,Z[e.b]?=some o:=⟨Z[e.b]'(by rw[y.len];exact hok.b),ag _⟩
  have ra:=hlk e.a oa ha
  have a0:=aN6 (k:=.int e.a) c3 rfl
  have Y:=hG.is_ e.a oa ha
  have b2:e.d=.tup [.int e.a,.str [e.l],.int e.b,.int e.t]:=rfl
  have J:(∀ c,¬(e.l=x/\qA m w e.a c))->∀ U',(∃ z4 z5 z6 z7 z8 z9,U'=[some m.d,some (.ref r),some (.str [x]),some (.ref s.length),z4,z5,z6,z7,z8,z9])->∃(T':Sto) (b4:List (Option (List Int))) (y4 y5 y6 y7 y8 y9:Option D),s++T=s++T'/\Tol (s++T) s.length s.length (i+1) b4/\Rf (s++T) s.length/\GoodC m.R (ae5 (qA m w) x (m.ds.take (i+1))) b4/\U'=[some m.d,some (.ref r),some (.str [x]),some (.ref s.length),y4,y5,y6,y7,y8,y9]:=by
   rintro h U' ⟨z4,z5,z6,z7,z8,z9,rfl⟩
   refine⟨T,Z,_,_,_,_,_,_,rfl,?_,a6,y.same λ j c=>?_,rfl⟩
   .obtain⟨l3,a1,a2,a3⟩:=G
    exact⟨l3,a1,by lia,a3⟩
   .rw[b3,ae5.snoc]
    exact⟨λ z=>z.elim id λ⟨z1,_,c',z2,_⟩=>absurd ⟨z1,z2⟩ (h c'),.inl⟩
  by_cases hx:e.l=x
  .cases oa with
   | none =>
    have ra:look (.int e.a) lb=none:=ra
    rw[ra]at a0
    refine qE (U:=[some m.d,some (.ref r),some (.str [x]),some (.ref s.length),some (.int e.a),some (.str [e.l]),some (.int e.b),some (.int e.t),y8,y9]) (s:=s++T) ?_ (J (λ c z=>Y c z.2) _ ⟨_,_,_,_,_,_,rfl⟩)
    simp only[qS,exs_nil,ex_asg,ex_ite,jc,ev_cmp,ev_and,R.bind_ok,qz,bindT_tup,setVs_nil,setVs_cons,setV_s,setV_0,ja,qZ,Option.map_some,Option.bind_some,setC_some,nxt_next,tru_bl,if_true,if_false,Bool.false_eq_true,decide_true,turn,b2,aF4,hx,a0,bZ]
   | some as =>
    obtain⟨a,ra,_,_,has⟩:=ra
    have d3:a<s.length:=(ac.mp has).1
    rw[ra]at a0
    obtain⟨t,cs,l,S,Cc2,f1,f2,f3,f4,f5,f6,f7,f8,f9⟩:=bx4 G a6 (by unfold LIM;lia) (by rw[aD];lia) c2
    obtain⟨T2,rfl⟩:=f2 s T rfl (aj _)
    obtain⟨t',g1,g2,g3,g4⟩:RT (s++T2) s.length s.length (look (.int e.b) l) (some cs):=by
     obtain⟨l3,a1,a2,a3,a4⟩:=f3
     rw[f7]at a1
     cases a1
     exact a4 _ _ f4
    rw[f8]at g1
    cases g1
    have e2:t<(s++T2).length:=(ac.mp g4).1
    have b6:cs.Nodup/\∀ c,c∈cs->ae5 (qA m w) x (m.ds.take i) e.b c:=by
     rcases f6 with⟨_,rfl⟩|h
     .exact⟨gz,λ c z=>by cases z⟩
     .exact⟨(y.is_ _ _ h).1,λ c z=>((y.is_ _ _ h).2 c).mp z⟩
    have d0:as.length<=3*w.length+1:=au9 Y.1 λ c hc=>by
     obtain⟨p,_,hp⟩:=(Y.2 c).mp hc
     have:=br4 hp
     have:=bi4 hm hp
     lia
    have d1:cs.length<=3*(w.length+1)+1:=au9 b6.1 λ c hc=>by
     obtain⟨d,hd,h1,h2⟩:=b6.2 c hc
     obtain⟨p,_,hp⟩:=al5.mp ⟨d,i4 hd,h1,h2⟩
     have h3:=br4 hp
     have h4:=bi4 hm hp
     rw[aD,bK]at h4
     lia
    obtain⟨c0,b1⟩:=bP2 (F:=aa1 P (n+1)) (x0:=some m.d) (x2:=some (.str [x])) (x3:=some (.ref s.length)) (x5:=some (.str [e.l])) (x6:=some (.int e.b)) (x9:=y9) (fee:=e.t) (aq5 (s:=s++T2) (ze a5) rfl ra) (ze has) g4 (by lia) (by unfold LIM;lia)
    unfold wkK at b1
    refine qE (U:=[some m.d,some (.ref r),some (.str [x]),some (.ref s.length),some (.int e.a),some (.str [e.l]),some (.int e.b),some (.int e.t),some (.ref t),c0]) (s:=(s++T2).set t (.dic (cdD (stF e.t cs as)))) ?_ ⟨_,Z.set e.b (some (stF e.t cs as)),_,_,_,_,_,_,ax7 g2,?_,?_,y.step f6 λ j c=>?_,rfl⟩
    .simp only[qS,exs_nil,ex_asg,ex_ite,jc,ev_cmp,ev_and,R.bind_ok,qz,bindT_tup,setVs_nil,setVs_cons,setV_s,setV_0,ja,qZ,Option.map_some,Option.bind_some,setC_some,nxt_next,tru_bl,if_true,decide_true,turn,b2,aF4,hx,a0,bW,qH,bR0,f1]
     rw[hx]at b1
     rw[b1]
     simp only[exs_nil,R.bind_ok,nxt_next]
    .rw[<-f5];exact f3.costs f4 f7 f8 _
    .intro l2 b5 j q z
     rw[aB g3]at b5
     rw[aU]
     exact f9 l2 b5 j q z
    .rw[b3,ae5.snoc]
     constructor
     .rintro(z|⟨_,rfl,c',z2,z3⟩)
      .exact .inl z
      .exact .inr ⟨rfl,c',(Y.2 c').mpr z2,z3⟩
     .rintro(z|⟨rfl,c',z2,z3⟩)
      .exact .inl z
      .exact .inr ⟨hx,rfl,c',(Y.2 c').mp z2,z3⟩
  .refine qE (U:=[some m.d,some (.ref r),some (.str [x]),some (.ref s.length),some (.int e.a),some (.str [e.l]),some (.int e.b),some (.int e.t),y8,y9]) (s:=s++T) ?_ (J (λ c z=>hx z.1) _ ⟨_,_,_,_,_,_,rfl⟩)
   simp only[qS,exs_nil,ex_asg,ex_ite,jc,ev_cmp,ev_and,R.bind_ok,qz,bindT_tup,setVs_nil,setVs_cons,setV_s,setV_0,ja,qZ,Option.map_some,Option.bind_some,setC_some,nxt_next,tru_bl,if_false,Bool.false_eq_true,decide_false,turn,b2,aF4,hx]
 .rintro U u ⟨T,Z,y4,y5,y6,y7,y8,y9,rfl,G,a6,y,rfl⟩
  rw[ax]at G
  rw[ax,bS]at y
  obtain⟨T',r',hc,c1⟩:=aT7 G (aj _)
  refine⟨T',r',Z,?_,?_,y.same λ j c=>al5.symm⟩
  .simp only[qS,ex_ret,jc,R.bind_ok,ja,qZ,nxt_next,nxt_ret,fin_ret]
   exact hc
  .obtain⟨l,h1,h2,h3⟩:=c1
   exact⟨l,h1,by lia,h3⟩
theorem Tol.put (h:Tol s J r n Cc)(Z:Rf s r)(Y:k<Cc.length)(hn:n<LIM)(hb:J<=s.length) cs :
  ∃ l',setIx (.ref r) (.int k) (.ref s.length) (s++[.dic (cdD cs)])=.ok () ((s++[O.dic (cdD cs)]).set r (.dic l'))/\Tol ((s++[O.dic (cdD cs)]).set r (.dic l')) J r (n+1) (Cc.set k (some cs))/\Rf ((s++[O.dic (cdD cs)]).set r (.dic l')) r:=by
 obtain⟨l,h1,h2,h3,h4⟩:=h
 have a0:=(ac.mp h1).1
 have g:(s++[O.dic (cdD cs)])[r]?=some (.dic l):=ze h1
 have g2:((s++[O.dic (cdD cs)]).set r (.dic (ae6 (.int k) (.ref s.length) l)))[r]?=some (.dic (ae6 (.int k) (.ref s.length) l)):=ql (by simp;omega)
 have y:=Z l h1
 refine⟨ae6 (.int k) (.ref s.length) l,ar7 g rfl (by omega),⟨_,g2,by have:=aD6 (.int k) (.ref s.length) l;omega,λ i j q a b=>?_,λ j o e=>?_⟩,λ l2 G j q a=>?_⟩
 .rw[qr]at a b
  by_cases hi:k=i
  .by_cases hj:k=j
   .omega
   .subst hi
    rw[if_pos rfl]at a
    cases a
    rw[if_neg (by intro z;injection z with z;omega)]at b
    have:=y j _ b
    omega
  .rw[if_neg (by intro z;injection z with z;omega)]at a
   by_cases hj:k=j
   .subst hj
    rw[if_pos rfl]at b
    cases b
    have:=y i _ a
    omega
   .rw[if_neg (by intro z;injection z with z;omega)]at b
    exact h3 i j q a b
 .rw[qr]
  by_cases hj:k=j
  .subst hj
   rw[aJ Y]at e
   cases e
   rw[if_pos rfl]
   refine⟨s.length,rfl,hb,by omega,?_⟩
   rw[aB (by omega)]
   exact aI8
  .rw[aB hj]at e
   rw[if_neg (by intro z;injection z with z;omega)]
   have q:=h4 j o e
   cases o with
   | none=>exact q
   | some p =>
    obtain⟨q',e1,e2,e3,e4⟩:=q
    refine⟨q',e1,e2,e3,?_⟩
    rw[aB (bH e3)]
    exact ze e4
 .rw[g2]at G
  cases G
  rw[qr]at a
  rw[aU,aD,bK]
  split at a
  .cases a;lia
  .have:=y j q a;lia
theorem GoodC.put0 {R}(h:GoodC R (λ k c=>k∈bs/\c=0) Cc)(hb:b<Cc.length):GoodC R (λ k c=>k∈bs++[b]/\c=0) (Cc.set b (some [0])):=by
 refine⟨by rw[aU];exact h.len,λ j o e=>?_⟩
 by_cases hj:b=j
 .subst hj
  rw[aJ hb]at e
  cases e
  exact⟨by simp,λ c=>by simp⟩
 .rw[aB hj]at e
  have q:=h.is_ j o e
  have y:∀ c:Int,(j∈bs++[b]/\c=0)↔(j∈bs/\c=0):=λ c=>by
   rw[a8,aV]
   exact⟨λ z=>⟨z.1.elim id λ z=>absurd z.symm hj,z.2⟩,λ z=>⟨.inl z.1,z.2⟩⟩
  cases o with
  | none=>exact λ c z=>q c ((y c).mp z)
  | some ds=>exact⟨q.1,λ c=>(q.2 c).trans (y c).symm⟩
theorem bw2:∀ as cs ,bn5 (cdD cs) (cdD as)=cdD (stF 0 cs as)
 | [],cs=>rfl
 | a::as,cs=>by
  show bn5 (ae6 (.int a) (.bl true) (cdD cs)) (cdD as)=cdD (stF 0 (aI5 cs (a+0)) as)
  rw[bt8,bw2 as,kh]
theorem br5 { T':Sto}{k:Nat}(h:Tol Uu J r n Cc)(hk:Cc[k]?=some o)(hl:fs.length+(o.getD []).length<=LIM) :
  ∃ q,bp7 (.ref r) (.int k) (.ref (Uu++.dic (cdD fs)::T').length) (Uu++.dic (cdD fs)::T'++[.dic []])=.ok (.ref q) (Uu++.dic (cdD fs)::T'++[.dic []])/\bq8 (.ref Uu.length) (.ref q) (Uu++.dic (cdD fs)::T'++[.dic []])=.ok .non (Uu++.dic (cdD (stF 0 fs (o.getD [])))::(T'++[.dic []])):=by
 obtain⟨l,Y,h2,Z,h4⟩:=h
 have e:=h4 k o hk
 have g1:(Uu++.dic (cdD fs)::T'++[O.dic []])[r]?=some (.dic l):=ze (ze Y)
 have z:(Uu++.dic (cdD fs)::T'++[O.dic []])[Uu.length]?=some (.dic (cdD fs)):=ze (by simp)
 have st:∀ x:O,(Uu++.dic (cdD fs)::T'++[O.dic []]).set Uu.length x=Uu++x::(T'++[.dic []]):=λ x=>by
  rw[aM,fg _ _ (aj _),lO]
  rfl
 cases o with
 | none =>
  have e:look (.int k) l=none:=e
  have y:(Uu++.dic (cdD fs)::T'++[O.dic []])[(Uu++.dic (cdD fs)::T').length]?=some (.dic []):=aI8
  refine⟨(Uu++.dic (cdD fs)::T').length,?_,?_⟩
  .unfold bp7
   simp only[g1,e]
   rfl
  .unfold bq8
   simp only[z,y]
   rw[if_pos ⟨by simp,by rw[aI0];exact hl⟩,st]
   rfl
 | some as =>
  obtain⟨q,e1,e2,e3,G⟩:=e
  have hq:q<Uu.length:=(ac.mp G).1
  have y:(Uu++.dic (cdD fs)::T'++[O.dic []])[q]?=some (.dic (cdD as)):=ze (ze G)
  refine⟨q,?_,?_⟩
  .unfold bp7
   simp only[g1,e1]
   rfl
  .unfold bq8
   simp only[z,y]
   rw[if_pos ⟨by lia,by rw[aI0,aI0];exact hl⟩,st,bw2]
   rfl
theorem bP5 {S}(h:S[r]?=some (.dic (cdD cs)))(hl:cs.length<64):as3 (.ref r) S=.ok (.ref S.length) (S++[.lst ((zT cs).map D.int)]):=by
 have e:qi ((cdD cs).map (·.1))=some cs:=by rw[ba6];exact ag6 cs
 unfold as3
 simp only[h,e]
 rw[if_pos hl]
 rfl
theorem aX4 (h:(s++T)[q]?=some o)(hq:s.length<=q)(hb:o.bnd s.length=true):zr s (.ref q) (s++T)=.ok (.ref s.length) (s++[o]):=by
 unfold zr
 rw[if_pos (zU s T)]
 dsimp only
 rw[if_neg (by omega),h]
 dsimp only
 rw[if_pos hb,fU]
 rfl
theorem cq5 {R}{l:List Nat}(y:R<=5)(nd:l.Pairwise (· < ·))(hl:∀ x∈l,x<R):l.length<=5:=by
 have:=aT3 R l (nd.imp (λ h=>aw h)) hl
 lia
theorem ca0 o k d :ev F (.gtd o k d) U s=(ev F o U s).bind λ x s=>(ev F k U s).bind λ y s=>(ev F d U s).bind λ z s=>bp7 x y z s:=rfl
theorem bW8 o x :ev F (.upd o x) U s=(ev F o U s).bind λ a s=>(ev F x U s).bind λ b s=>bq8 a b s:=rfl
theorem bz5 e :ev F (.srtD e) U s=(ev F e U s).bind λ x s=>as3 x s:=rfl
theorem bI2 :ev F (.dic (.cons (.cst (.int 0)) .nil) (.cons (.cst (.bl true)) .nil)) U s=.ok (.ref s.length) (s++[.dic (cdD [0])]):=by
 show(if (D.int 0).key=true/\(s++[O.dic []])[s.length]?=some (.dic []) then R.ok (D.ref s.length) ((s++[O.dic []]).set s.length (.dic [(.int 0,.bl true)])) else .bad)=_
 rw[if_pos ⟨rfl,by simp⟩,aw0]
 rfl
def br0 (m:Mc)(w:List Nat)(s:Sto)(x:R D):Prop:=∃ cs,x=.ok (.ref s.length) (s++[.lst ((zT cs).map D.int)])/\cs.Nodup/\∀ c,c∈cs↔m.Wk w c
theorem bo0 [Has P ab3][Has P ac0][Has P aa8][Has P ab2][Has P af1] n {m}(hm:m.Ok) w (hw:w.length<=20) s :br0 m w s ((aa1 P (n+3)).call "tolls" [m.d,.str w] s):=by
 have e0:(aa1 P (n+3)).call "tolls" [m.d,.str w] s=_:=zh af1 rfl
 rw[e0]
 have hb:=qJ (P:=P) (n+1) m
 have b4:=ah5 (P:=P) (n+1) m
 have sB:∀ S,ak4 (.tup (aa7 m.bg)) S=.ok ⟨aa7 m.bg,[]⟩ S:=λ _=>rfl
 have sE:∀ S,ak4 (.tup (aa7 m.en)) S=.ok ⟨aa7 m.en,[]⟩ S:=λ _=>rfl
 have sW:∀ S,ak4 (.str w) S=.ok ⟨w.map λ c=>.str [c],[]⟩ S:=λ _=>rfl
 have a5:∀(w:List Nat) (l:List Int),l.Nodup->(∀ c∈l,∃ q,qA m w q c)->l.length<=3*w.length+1:=λ w l h1 h2=>au9 h1 λ c hc=>by
  obtain⟨q,p,_,hp⟩:=h2 c hc
  have:=br4 hp
  have:=bi4 hm hp
  lia
 have c1:=cq5 hm.R5 hm.bg.2 hm.bg.1
 simp [af1,hb]
 refine zK (λ i U u=>∃(T:Sto) (Cc:List (Option (List Int))) (Y G y5:Option D),u=s++T/\Tol u s.length s.length i Cc/\Rf u s.length/\GoodC m.R (λ k c=>k∈m.bg.take i/\c=0) Cc/\U=[some m.d,some (.str w),some (.ref s.length),Y,G,y5])
  ⟨[.dic []],aC m.R none,_,_,_,rfl,⟨[],by simp,aj _,λ j k q a=>(by cases a),λ k o e=>?_⟩,λ l hl j q a=>?_,⟨by simp,λ k o e=>?_⟩,rfl⟩ (λ _ _ _ _ _=>rfl) ?_ ?_
 .rw[bj]at e
  split at e
  .cases e;exact rfl
  .cases e
 .simp at hl
  subst hl
  cases a
 .rw[bj]at e
  split at e
  .cases e
   rintro c ⟨h,_⟩
   rw[d7]at h;cases h
  .cases e
 .rintro i d U u hi ⟨T,Cc,Y,G,y5,rfl,hC,b5,y,rfl⟩
  obtain⟨k,hk,rfl⟩:∃ k,m.bg[i]?=some k/\d=.int (k):=by
   unfold aa7 at hi
   rw[ay]at hi
   cases q:m.bg[i]? with
   | none=>rw[q]at hi;cases hi
   | some k=>rw[q]at hi;cases hi;exact⟨k,rfl,rfl⟩
  have c2:=(ac.mp hk).1
  have a4:m.bg.take (i+1)=m.bg.take i++[k]:=by
   have q:m.bg[i]=k:=(ac.mp hk).2
   rw[<-q,bI]
  have a1:k<Cc.length:=by rw[y.len];exact hm.bg.1 k (aN hk)
  obtain⟨l',b1,b6,b2⟩:=hC.put b5 a1 (by unfold LIM;lia) (by rw[aD];lia) [0]
  refine qE (U:=[some m.d,some (.str w),some (.ref s.length),some (.int (k:Int)),G,y5]) (s:=(s++T++[O.dic (cdD [0])]).set s.length (.dic l')) ?_ ⟨_,Cc.set k (some [0]),_,_,_,by rw[aM];exact ax7 (aj _),b6,b2,by rw[a4];exact y.put0 a1,rfl⟩
  simp only[qS,exs_nil,ex_setIx,jc,R.bind_ok,qz,setV_s,setV_0,ja,qZ,Option.map_some,nxt_next,turn,bI2,b1]
 rintro U u ⟨T,Cc,Y,G,y5,rfl,hC,_,y,rfl⟩
 have a3:(aa7 m.bg).length=m.bg.length:=by unfold aa7;rw[ax]
 rw[a3,bS]at y
 have y:=y.same (S':=qA m []) λ k c=>⟨λ⟨p,hp,h1,h2⟩=>⟨h1▸hp,h2⟩,λ⟨h1,h2⟩=>⟨k,h1,rfl,h2⟩⟩
 simp only[qS,ex_for,jc,evI_seq,R.bind_ok,ja,qZ,nxt_next,sW,R.bind_assoc]
 refine zK (Ww:=br0 m w s) (λ j U u=>∃(T:Sto) (b0 r nn:Nat) (Cc:List (Option (List Int))) (Y G y5:Option D),u=s++T/\b0<=u.length/\Tol u b0 r nn Cc/\GoodC m.R (qA m (w.take j)) Cc/\U=[some m.d,some (.str w),some (.ref r),Y,G,y5])
  ⟨T,s.length,s.length,_,Cc,_,_,_,rfl,by rw[aD];lia,hC,y,rfl⟩ (λ _ _ _ _ _=>rfl) ?_ ?_
 .rintro j d U u hj ⟨T,b0,r,nn,Cc,Y,G,y5,rfl,a6,hC,y,rfl⟩
  obtain⟨c,hc,rfl⟩:∃ c,w[j]?=some c/\d=.str [c]:=by
   rw[ay]at hj
   cases e:w[j]? with
   | none=>rw[e]at hj;cases hj
   | some c=>rw[e]at hj;cases hj;exact⟨c,rfl,rfl⟩
  have c0:w.take j++[c]=w.take (j+1):=by
   have hlt:j<w.length:=(ac.mp hc).1
   have e:w[j]=c:=(ac.mp hc).2
   rw[<-e,bI]
  obtain⟨T',r',Cc',e1,Z,b3⟩:=bW7 (P:=P) n hm (w:=w.take j) (by rw[bG];lia) c hC y a6
  rw[c0]at b3
  refine qE (U:=[some m.d,some (.str w),some (.ref r'),Y,some (.str [c]),y5]) (s:=s++T++T') ?_ ⟨T++T',_,r',_,Cc',_,_,_,by rw[aM],by rw[aD (as:=s++T)];lia,Z,b3,rfl⟩
  simp only[qS,exs_nil,ex_asg,jc,ev_call,evas_nil,evas_ex,R.bind_ok,qz,setV_s,setV_0,ja,qZ,Option.map_some,setC_some,nxt_next,turn,e1]
 rintro U u ⟨T,b0,r,nn,Cc,Y,G,y5,rfl,a6,hC,y,rfl⟩
 rw[ax,bS]at y
 simp only[qS,ex_asg,ex_for,jc,ev_call,evas_nil,evas_ex,evI_seq,R.bind_ok,qz,setV_s,setV_0,ja,Option.map_some,setC_some,nxt_next,qH,b4,sE,R.bind_assoc]
 refine zK (Ww:=br0 m w s) (λ j U u=>∃(T':Sto) (fs:List Int) (Y G:Option D),u=s++T++.dic (cdD fs)::T'/\fs.Nodup/\(∀ c,c∈fs↔∃ q∈m.en.take j,qA m w q c)/\U=[some m.d,some (.str w),some (.ref r),Y,G,some (.ref (s++T).length)])
  ⟨[],[],_,_,rfl,gz,λ c=>by simp,rfl⟩ (λ _ _ _ _ _=>rfl) ?_ ?_
 .rintro j d U u hj ⟨T',fs,Y,G,rfl,hnd,J,rfl⟩
  obtain⟨k,hk,rfl⟩:∃ k,m.en[j]?=some k/\d=.int (k:Int):=by
   unfold aa7 at hj
   rw[ay]at hj
   cases q:m.en[j]? with
   | none=>rw[q]at hj;cases hj
   | some k=>rw[q]at hj;cases hj;exact⟨k,rfl,rfl⟩
  have a4:m.en.take (j+1)=m.en.take j++[k]:=by
   have hlt:j<m.en.length:=(ac.mp hk).1
   have q:m.en[j]=k:=(ac.mp hk).2
   rw[<-q,bI]
  have a1:k<Cc.length:=by rw[y.len];exact hm.en.1 k (aN hk)
  have Z:Cc[k]?=some Cc[k]:=ag a1
  have a2:=y.is_ k _ Z
  have a0:(Cc[k].getD []).Nodup/\∀ c,c∈Cc[k].getD []↔qA m w k c:=by
   cases e:Cc[k]with
   | none=>rw[e]at a2;exact⟨gz,λ c=>⟨λ z=>(by cases z),λ z=>absurd z (a2 c)⟩⟩
   | some as=>rw[e]at a2;exact a2
  have l1:=a5 w fs hnd λ c hc=>by obtain⟨q,_,h⟩:=(J c).mp hc;exact⟨q,h⟩
  have l2:=a5 w _ a0.1 λ c hc=>⟨k,(a0.2 c).mp hc⟩
  obtain⟨q,g1,g2⟩:=br5 (T':=T') (fs:=fs) hC Z (by unfold LIM;lia)
  refine qE (U:=[some m.d,some (.str w),some (.ref r),some (.int (k:Int)),G,some (.ref (s++T).length)]) (s:=s++T++.dic (cdD (stF 0 fs (Cc[k].getD [])))::(T'++[.dic []])) ?_ ⟨_,_,_,_,rfl,aZ1 hnd,λ c=>?_,rfl⟩
  .simp only[qS,exs_nil,ex_ex,jc,R.bind_ok,qz,setV_s,setV_0,ja,qZ,Option.map_some,nxt_next,turn,bW8,ca0,qH,g1,g2]
  .rw[aD5,J,a4]
   constructor
   .rintro(⟨q,hq,h⟩|⟨a,ha,h⟩)
    .exact⟨q,a8.mpr (.inl hq),h⟩
    .rw[kh]at h
     exact⟨k,by simp,(a0.2 c).mp (h▸ha)⟩
   .rintro⟨q,hq,h⟩
    rcases a8.mp hq with hq|hq
    .exact .inl ⟨q,hq,h⟩
    .rw[aV.mp hq]at h
     exact .inr ⟨c,(a0.2 c).mpr h,(kh c).symm⟩
 .rintro U u ⟨T',fs,Y,G,rfl,hnd,J,rfl⟩
  have a3:(aa7 m.en).length=m.en.length:=by unfold aa7;rw[ax]
  rw[a3,bS]at J
  have l1:=a5 w fs hnd λ c hc=>by obtain⟨q,_,h⟩:=(J c).mp hc;exact⟨q,h⟩
  have es:=bP5 (S:=s++T++.dic (cdD fs)::T') (r:=(s++T).length) (cs:=fs) (by simp) (by lia)
  refine⟨fs,?_,hnd,λ c=>(J c).trans ⟨λ⟨q,hq,p,hp,h⟩=>⟨p,hp,q,hq,h⟩,λ⟨p,hp,q,hq,h⟩=>⟨q,hq,p,hp,h⟩⟩⟩
  simp only[qS,ex_ret,jc,R.bind_ok,ja,qZ,nxt_next,nxt_ret,fin_ret,bz5,es]
  rw[aM,aM]
  refine aX4 (o:=.lst ((zT fs).map D.int)) (by rw[<-aM,<-aM];exact qI) (by simp) ?_
  unfold O.bnd
  exact zO (l:=bq2 (zT fs)) bi9 _
theorem av1 :∀ {l},x∈ins a l↔x=a\/x∈l
 | []=>by unfold ins;simp
 | b::l=>by
  unfold ins
  split
  .simp
  .rw[av,av1 ,av]
   constructor
   .rintro(h|h|h)
    .exact .inr (.inl h)
    .exact .inl h
    .exact .inr (.inr h)
   .rintro(h|h|h)
    .exact .inr (.inl h)
    .exact .inl h
    .exact .inr (.inr h)
theorem af3 :∀ {l},x∈zT l↔x∈l
 | []=>jm
 | a::l=>by show x∈ins a (zT l)↔_;rw[av1,af3 ,av]
theorem bc1 :∀ {l},l.Pairwise (· < ·)->a ∉ l->(ins a l).Pairwise (· < ·)
 | [],_,_=>by unfold ins;simp
 | b::l,h,hn=>by
  have hb:=bR.mp h
  have hne:a≠b:=λ z=>hn (by rw[z];exact az ..)
  unfold ins
  split
  .rename_i y
   refine bR.mpr ⟨λ x hx=>?_,h⟩
   rcases av.mp hx with rfl|hx
   .lia
   .have:=hb.1 x hx;lia
  .rename_i y
   refine bR.mpr ⟨λ x hx=>?_,bc1 hb.2 λ z=>hn (ar _ z)⟩
   rcases av1.mp hx with rfl|hx
   .lia
   .exact hb.1 x hx
theorem aH5:∀ {l},l.Nodup->(zT l).Pairwise (· < ·)
 | [],_=>List.Pairwise.nil
 | a::l,h=>by
  have:=cJ.mp h
  exact bc1 (aH5 this.2) λ z=>this.1 (af3.mp z)
theorem aH2 o :ab7 (λ c=>o=some c) o:=by
 cases o with
 | none=>intro c h;cases h
 | some i=>exact⟨rfl,λ c h=>by cases h;exact dB _⟩
noncomputable def lpO (f g:Nat->Nat->Option Int)(i j:Nat):Nat->Option Int
 | 0=>none
 | k+1=>minO (lpO f g i j k) (addO (f i k) (g k j))
theorem aS2 a b :ab7 (λ c=>∃ x y,a=some x/\b=some y/\c=x+y) (addO a b):=by
 cases a with
 | none=>rintro c ⟨x,y,h,_⟩;cases h
 | some a=>cases b with
  | none=>rintro c ⟨x,y,_,h,_⟩;cases h
  | some b=>exact⟨⟨a,b,rfl,rfl,rfl⟩,λ c hc=>by obtain⟨x,y,Cc,z,e⟩:=hc;cases Cc;cases z;lia⟩
theorem aM2 :∀ m,ab7 (λ c=>∃ k,k<m/\∃ a b,f i k=some a/\g k j=some b/\c=a+b) (lpO f g i j m)
 | 0=>by rintro c ⟨k,hk,_⟩;exact absurd hk (Nat.not_lt_zero _)
 | m+1=>((aM2 m).or (aS2 (f i m) (g m j))).congr λ c=>by
  constructor
  .rintro(⟨k,hk,h⟩|h)
   .exact⟨k,by lia,h⟩
   .exact⟨m,by lia,h⟩
  .rintro⟨k,hk,h⟩
   by_cases hkm:k=m
   .subst hkm;exact .inr h
   .exact .inl ⟨k,by lia,h⟩
theorem ci8 (h:i<m)(hj:j<m):lpO f g i j m=prO m f g i j :=
 (aM2 m).eq (ay1 (λ i j _ _=>aH2 _) (λ i j _ _=>aH2 _) h hj) λ c=>jm
theorem bK8 (hj:j<1000):qF .add (.tup (rowO j f)) (.tup [zJ (f j)]) s=.ok (.tup (rowO (j+1) f)) s:=by
 rw[bx7 (by rw[aL3];unfold LIM;simp;lia)]
 unfold rowO
 rw[fR,cM];rfl
noncomputable def pIn:Ss:=(.cons (.ite (.and (.notN (.ix (.ix (.var 0) (.var 3)) (.var 7))) (.notN (.ix (.ix (.var 1) (.var 7)) (.var 5)))) (.cons (.ite (.or (.isN (.var 6)) (.cmp .lt (.bin .add (.ix (.ix (.var 0) (.var 3)) (.var 7)) (.ix (.ix (.var 1) (.var 7)) (.var 5))) (.var 6))) (.cons (.asg (.one 6) (.bin .add (.ix (.ix (.var 0) (.var 3)) (.var 7)) (.ix (.ix (.var 1) (.var 7)) (.var 5)))) .nil) .nil) .nil) .nil) .nil)
noncomputable def cd6:Ss:=(.cons (.asg (.one 6) (.cst .non)) (.cons (.for_ (.one 7) (.rng1 (.bi .len (.cons (.var 0) .nil))) pIn) (.cons (.asg (.one 4) (.bin .add (.var 4) (.tup (.cons (.var 6) .nil)))) .nil)))
noncomputable def cc6:Ss:=(.cons (.asg (.one 4) (.tup .nil)) (.cons (.for_ (.one 5) (.rng1 (.bi .len (.cons (.var 0) .nil))) cd6) (.cons (.ex (.meth .append (.var 2) (.cons (.var 4) .nil))) .nil)))
theorem ci0:ac4.body=(.cons (.asg (.one 2) (.lst .nil)) (.cons (.for_ (.one 3) (.rng1 (.bi .len (.cons (.var 0) .nil))) cc6) (.cons (.ret (.mk .tuple (.seq (.var 2)))) .nil))):=rfl
theorem bP7 { k:Nat}(y:i<m)(hj:j<m)(hk:k<m) o x2 z Cc t :
  turn F (.one 7) pIn (.int k) [some (gdO m f),some (gdO m g),x2,some (.int i),z,some (.int j),some (zJ o),Cc] t=.ok (.next [some (gdO m f),some (gdO m g),x2,some (.int i),z,some (.int j),some (zJ (minO o (addO (f i k) (g k j)))),some (.int k)]) t:=by
 unfold turn pIn
 cases e1:f i k with
 | none=>cases o<;>simp only[qS,exs_nil,ex_asg,ex_ite,jc,ev_bin,ev_cmp,ev_and,ev_or,ev_ix,ev_isN,ev_notN,R.bind_ok,qz,setV_s,setV_0,ja,qZ,Option.map_some,setC_some,nxt_next,add_int,lt_int,tru_bl,if_true,if_false,Bool.false_eq_true,decide_true,decide_false,Bool.not_true,Bool.not_false,qt y,qg hk,e1,zx,addO,minO,eq_self _]
 | some a =>
  cases e2:g k j with
  | none=>cases o<;>simp only[qS,exs_nil,ex_asg,ex_ite,jc,ev_bin,ev_cmp,ev_and,ev_or,ev_ix,ev_isN,ev_notN,R.bind_ok,qz,setV_s,setV_0,ja,qZ,Option.map_some,setC_some,nxt_next,add_int,lt_int,tru_bl,if_true,if_false,Bool.false_eq_true,decide_true,decide_false,Bool.not_true,Bool.not_false,qt y,qg hk,qt hk,qg hj,e1,e2,zx,zF,addO,minO,eq_self _,show(D.int a=D.non)=False from eq_false (by nofun)]
  | some b =>
   cases o with
   | none=>simp only[qS,exs_nil,ex_asg,ex_ite,jc,ev_bin,ev_cmp,ev_and,ev_or,ev_ix,ev_isN,ev_notN,R.bind_ok,qz,setV_s,setV_0,ja,qZ,Option.map_some,setC_some,nxt_next,add_int,lt_int,tru_bl,if_true,if_false,Bool.false_eq_true,decide_true,decide_false,Bool.not_true,Bool.not_false,qt y,qg hk,qt hk,qg hj,e1,e2,zx,zF,addO,minO,eq_self _,show(D.int a=D.non)=False from eq_false (by nofun),show(D.int b=D.non)=False from eq_false (by nofun)]
   | some c =>
    by_cases h:a+b<c
    .simp only[qS,exs_nil,ex_asg,ex_ite,jc,ev_bin,ev_cmp,ev_and,ev_or,ev_ix,ev_isN,ev_notN,R.bind_ok,qz,setV_s,setV_0,ja,qZ,Option.map_some,setC_some,nxt_next,add_int,lt_int,tru_bl,if_true,if_false,Bool.false_eq_true,decide_true,decide_false,Bool.not_true,Bool.not_false,qt y,qg hk,qt hk,qg hj,e1,e2,zx,zF,addO,minO,show(D.int c=D.non)=False from eq_false (by nofun),show(D.int a=D.non)=False from eq_false (by nofun),show(D.int b=D.non)=False from eq_false (by nofun),h]
    .simp only[qS,exs_nil,ex_asg,ex_ite,jc,ev_bin,ev_cmp,ev_and,ev_or,ev_ix,ev_isN,ev_notN,R.bind_ok,qz,setV_s,setV_0,ja,qZ,Option.map_some,setC_some,nxt_next,add_int,lt_int,tru_bl,if_true,if_false,Bool.false_eq_true,decide_true,decide_false,Bool.not_true,Bool.not_false,qt y,qg hk,qt hk,qg hj,e1,e2,zx,zF,addO,minO,show(D.int c=D.non)=False from eq_false (by nofun),show(D.int a=D.non)=False from eq_false (by nofun),show(D.int b=D.non)=False from eq_false (by nofun),h]
theorem bJ5 {F:Fns}{m i j:Nat}{f g:Nat->Nat->Option Int}(J:m<=5)(y:i<m)(hj:j<m)(x2 x6 z x5:Option D)(t:Sto) :
  ∃ x,turn F (.one 5) cd6 (.int j) [some (gdO m f),some (gdO m g),x2,some (.int i),some (.tup (rowO j (prO m f g i))),x5,x6,z] t=.ok (.next [some (gdO m f),some (gdO m g),x2,some (.int i),some (.tup (rowO (j+1) (prO m f g i))),some (.int j),some (zJ (prO m f g i j)),x]) t:=by
 have key:=qy (ok:=λ s1=>chk t s1 []) (g:=turn F (.one 7) pIn) (λ k U u=>u=t/\∃ x,U=[some (gdO m f),some (gdO m g),x2,some (.int i),some (.tup (rowO j (prO m f g i))),some (.int j),some (zJ (lpO f g i j k)),x]) (qY 0 (m:Int)) 0 [some (gdO m f),some (gdO m g),x2,some (.int i),some (.tup (rowO j (prO m f g i))),some (.int j),some D.non,z] t ⟨rfl,_,rfl⟩ (λ _ _ _ _ _=>rfl) (by
  rintro k d U u hk ⟨rfl,x,rfl⟩
  have G:=qN hk
  obtain⟨h,rfl⟩:=G
  rw[bz]
  exact⟨_,_,.inl (bP7 y hj h _ _ _ _ _),rfl,_,rfl⟩)
 obtain⟨U',s',e,rfl,x,rfl⟩:=key
 rw[bz,qU,ci8 y hj]at e
 refine⟨x,?_⟩
 unfold turn cd6
 have Cc:=zQ (s:=s') (i:=(m:Int)) (by unfold Ww62;lia) (by unfold Ww62;lia)
 simp -implicitDefEqProofs only[qS,ex_asg,ex_for,jc,ev_cst,ev_bi,evs_nil,evs_cons,evI_rng1,Cn_non,R.bind_ok,qz,setV_s,setV_0,ja,Option.map_some,setC_some,nxt_next,ah8,Cc]
 rw[e]
 simp -implicitDefEqProofs only[qS,exs_nil,ex_asg,jc,ev_bin,ev_tup,evs_nil,evs_cons,R.bind_ok,qz,setV_s,setV_0,ja,qZ,Option.map_some,setC_some,nxt_next,bK8 (show j<1000 by lia)]
theorem bM0 { i:Nat}(hm:m<=5)(G:i<m)(s:Sto) x3 J x5 x6 Cc :
  ∃ x y z,turn F (.one 3) cc6 (.int i) [some (gdO m f),some (gdO m g),some (.ref s.length),x3,J,x5,x6,Cc] (s++[.lst ((aH i).map λ i=>D.tup (rowO m (prO m f g i)))])=.ok (.next [some (gdO m f),some (gdO m g),some (.ref s.length),some (.int i),some (.tup (rowO m (prO m f g i))),x,y,z]) (s++[.lst ((aH (i+1)).map λ i=>D.tup (rowO m (prO m f g i)))]):=by
 generalize ht:s++[O.lst ((aH i).map λ i=>D.tup (rowO m (prO m f g i)))]=t
 have key:=qy (ok:=λ s1=>chk t s1 []) (λ j U u=>u=t/\∃ x y z,U=[some (gdO m f),some (gdO m g),some (.ref s.length),some (.int i),some (.tup (rowO j (prO m f g i))),x,y,z]) (qY 0 (m)) 0 [some (gdO m f),some (gdO m g),some (.ref s.length),some (.int i),some (.tup []),x5,x6,Cc] t ⟨rfl,_,_,_,rfl⟩ (λ _ _ _ _ _=>rfl) (by
  rintro j d U u hj ⟨rfl,x,y,z,rfl⟩
  have Z:=qN hj
  obtain⟨h,rfl⟩:=Z
  rw[bz]
  obtain⟨z',e⟩:=bJ5 (F:=F) (f:=f) (g:=g) hm G h (some (.ref s.length)) y z x u
  exact⟨_,_,.inl e,rfl,_,_,_,rfl⟩)
 obtain⟨U',s',e,rfl,x,y,z,rfl⟩:=key
 rw[bz,qU]at e
 refine⟨x,y,z,?_⟩
 unfold turn cc6
 have Y:=zQ (s:=s') (i:=(m:Int)) (by unfold Ww62;lia) (by unfold Ww62;lia)
 simp -implicitDefEqProofs only[qS,ex_asg,ex_for,jc,ev_tup,ev_bi,evs_nil,evs_cons,evI_rng1,R.bind_ok,qz,setV_s,setV_0,ja,Option.map_some,setC_some,nxt_next,ah8,Y]
 rw[e]
 have ha:=aH4 (s:=s) (l:=(aH i).map λ i=>D.tup (rowO m (prO m f g i))) (v:=D.tup (rowO m (prO m f g i))) (by unfold LIM;simp;lia)
 rw[ht]at ha
 simp -implicitDefEqProofs only[qS,exs_nil,ex_ex,jc,ev_meth,evs_nil,evs_cons,R.bind_ok,ja,qZ,nxt_next,ha,fR,cM,aS,dE]
theorem aD1 [Has P ac4] n {m}(Y:m<=5) f g s :
  (aa1 P (n+1)).call "_law_product" [gdO m f,gdO m g] s=.ok (gdO m (prO m f g)) s:=by
 have J:(aa1 P (n+1)).call "_law_product" [gdO m f,gdO m g] s=_:=zh ac4 rfl
 have key:=qy (ok:=λ s1=>chk (s++[O.lst []]) s1 []) (λ i U u=>u=s++[.lst ((aH i).map λ i=>D.tup (rowO m (prO m f g i)))]/\∃ a b x y z,U=[some (gdO m f),some (gdO m g),some (.ref s.length),a,b,x,y,z]) (qY 0 (m)) 0 [some (gdO m f),some (gdO m g),some (.ref s.length),none,none,none,none,none] (s++[.lst []]) ⟨rfl,_,_,_,_,_,rfl⟩ (λ _ _ _ _ _=>rfl) (by
  rintro i d U u hi ⟨rfl,a,b,x,y,z,rfl⟩
  have G:=qN hi
  obtain⟨h,rfl⟩:=G
  rw[bz]
  obtain⟨Z,y',z',e⟩:=bM0 (F:=aa1 P n) Y h s a b x y z
  exact⟨_,_,.inl e,rfl,_,_,_,_,_,rfl⟩)
 obtain⟨U',s',e,rfl,a,b,x,y,z,rfl⟩:=key
 rw[bz,qU]at e
 rw[J,show(dN some [gdO m f,gdO m g]++aC ac4.vs none)=[some (gdO m f),some (gdO m g),none,none,none,none,none,none]from rfl,ci0]
 have Cc:=zQ (s:=s++[O.lst []]) (i:=(m:Int)) (by unfold Ww62;omega) (by unfold Ww62;omega)
 simp -implicitDefEqProofs only[qS,ex_asg,ex_for,jc,ev_lst,ev_bi,evs_nil,evs_cons,evI_rng1,R.bind_ok,qz,setV_s,setV_0,ja,Option.map_some,setC_some,nxt_next,alloc_eq,ah8,Cc]
 rw[e]
 have h0:(s++[O.lst ((aH m).map λ i=>D.tup (rowO m (prO m f g i)))])[s.length]?=some (.lst ((aH m).map λ i=>D.tup (rowO m (prO m f g i)))):=by rw[aP (aj _)];simp
 simp -implicitDefEqProofs only[qS,ex_ret,jc,ev_mk,evL_seq,R.bind_ok,ja,qZ,nxt_next,nxt_ret,fin_ret,bs7,h0,mk]
 exact zM (λ n=>am4 n) (by nofun)
section
variable {P:Pr} [Has P ab3] [Has P ac0] [Has P aa3]
noncomputable def beW (m:Mc)(Ww:Nat->Nat->D):List D:=m.bg.flatMap λ p=>m.en.map λ q=>Ww p q
theorem aj2 {α β:Type}{f:α->List β}:∀ {l:List α},(∀ x∈l,(f x).length<=B)->(l.flatMap f).length<=l.length*B
 | [],_=>by simp
 | a::l,h=>by
  rw[List.flatMap_cons,aD,aL,Nat.add_mul]
  have z:=h a (az ..)
  have y:=aj2 λ x hx=>h x (ar _ hx)
  lia
theorem bV9 n (y:m.Ok)(hW:∀ i j n,(Ww i j).bnd n=true) s :
  (aa1 P (n+2)).call "at_begins_and_ends" [m.d,gdD m.R Ww] s=.ok (.ref s.length) (s++[.lst (beW m Ww)]):=by
 have Z:(aa1 P (n+2)).call "at_begins_and_ends" [m.d,gdD m.R Ww] s=_:=zh aa3 rfl
 have hb:=az7 y
 have he:=aH9 y
 have key:=qy (ok:=λ s1=>chk (s++[O.lst []]) s1 []) (g:=turn (aa1 P (n+1)) (.one 3) (.cons (.ex (.ext (.var 2) (.comp (.one 0) (.seq (.call "ends_of" (.ex (.var 0) .nil))) (.ix (.ix (.var 1) (.var 2)) (.var 0)) [none,some 1,some 3]))) .nil)) (λ k U t=>∃ x,U=[some m.d,some (gdD m.R Ww),some (.ref s.length),x]/\t=s++[.lst ((m.bg.take k).flatMap λ p=>m.en.map λ q=>Ww p q)]) (aa7 m.bg) 0 [some m.d,some (gdD m.R Ww),some (.ref s.length),none] (s++[O.lst []]) ⟨none,rfl,by rw[d7];rfl⟩ (λ _ _ _ _ _=>rfl) (by
  rintro k d U t hk ⟨x,rfl,rfl⟩
  rw[bz]
  unfold aa7 at hk
  rw[ay]at hk
  obtain⟨p,hp,rfl⟩:=cy.mp hk
  have Y:=y.bg.1 p (aN hp)
  have z:∀ s,ixM (gdD m.R Ww) (.int (p:Int)) s=.ok (.tup ((aH m.R).map λ j=>Ww p j)) s:=λ s=>ix_tup (by rw[ay,cN Y];rfl)
  generalize hS:s++[O.lst ((m.bg.take k).flatMap λ p=>m.en.map λ q=>Ww p q)]=S
  obtain⟨U1,s1,e1,rfl,_⟩:=aJ5 (ok:=λ s1=>chk S s1 []) (g:=ao5 (aa1 P (n+1)) (.one 0) (.ix (.ix (.var 1) (.var 2)) (.var 0))) (λ U u=>u=S/\∃ x,U=[x,some (gdD m.R Ww),some (.int (p:Int))]) (λ d=>match d with|.int q=>Ww p q.toNat|d=>d) (aa7 m.en) [none,some (gdD m.R Ww),some (.int (p:Int))] S ⟨rfl,none,rfl⟩ (λ _ _ _=>rfl) (by
   rintro d hd U u ⟨rfl,x,rfl⟩
   obtain⟨q,hq,rfl⟩:=aK.mp hd
   have J:=y.en.1 q hq
   have Cc:∀ s,ixM (.tup ((aH m.R).map λ j=>Ww p j)) (.int (q:Int)) s=.ok (Ww p q) s:=λ s=>ix_tup (by rw[ay,cN J];rfl)
   refine⟨[some (.int (q:Int)),some (gdD m.R Ww),some (.int (p:Int))],u,?_,rfl,_,rfl⟩
   unfold ao5
   simp only[jc,ev_ix,R.bind_ok,qz,setV_0,ja,qZ,z,Cc,cz])
  have er:(aa7 m.en).map (λ d=>match d with|.int q=>Ww p q.toNat|d=>d)=m.en.map λ q=>Ww p q:=by
   unfold aa7;rw[cR];rfl
  rw[er]at e1
  have hl:((m.bg.take k).flatMap λ p=>m.en.map λ q=>Ww p q).length<=25:=by
   refine am (aj2 (B:=5) λ x hx=>by simpa using he) ?_
   have:(m.bg.take k).length<=5:=by rw[bG];lia
   lia
  have ex:bw0 (.ref s.length) (m.en.map λ q=>Ww p q) s1=.ok .non (s++[.lst ((m.bg.take (k+1)).flatMap λ p=>m.en.map λ q=>Ww p q)]):=by
   rw[<-hS,bx1 aI8 (by unfold LIM;simp at *;lia),aw0,am1 hp,jx]
   simp
  have G:∀ t,ak4 (.tup (aa7 m.en)) t=.ok ⟨aa7 m.en,[]⟩ t:=λ _=>rfl
  refine⟨_,_,.inl ?_,some (.int (p:Int)),rfl,rfl⟩
  unfold turn
  simp only[qS,exs_nil,ex_ex,jc,ev_call,evas_nil,evas_ex,evI_seq,R.bind_ok,qz,setV_s,setV_0,ja,qZ,Option.map_some,nxt_next,bO3,aj8,ah5 n,G,if_pos (show(aa7 m.en).length<=LIM by rw[aj7];unfold LIM;lia),show qe [some m.d,some (gdD m.R Ww),some (D.ref s.length),some (D.int (p:Int))] [none,some 1,some 3]=[none,some (gdD m.R Ww),some (.int (p:Int))]from rfl,e1,ex])
 obtain⟨U',s',ek,x,rfl,rfl⟩:=key
 rw[bz,aj7,bS]at ek
 have G:∀ t,ak4 (.tup (aa7 m.bg)) t=.ok ⟨aa7 m.bg,[]⟩ t:=λ _=>rfl
 rw[Z,show(dN some [m.d,gdD m.R Ww]++aC aa3.vs none)=[some m.d,some (gdD m.R Ww),none,none]from rfl]
 simp only[aa3]
 simp only[qS,ex_asg,ex_for,jc,ev_lst,ev_call,evs_nil,evas_nil,evas_ex,evI_seq,R.bind_ok,qz,setV_s,setV_0,ja,Option.map_some,setC_some,nxt_next,alloc_eq,qJ n,G]
 rw[ek]
 simp only[qS,ex_ret,jc,R.bind_ok,ja,qZ,nxt_next,nxt_ret,fin_ret]
 exact aX2 (by
  unfold O.bnd
  refine zO (λ d hd n=>?_) _
  obtain⟨p,_,h⟩:=g8.mp hd
  obtain⟨q,_,rfl⟩:=aK.mp h
  exact hW p q n)
variable [Has P ad3] [Has P ac3] [Has P ac6] [Has P ab5] [Has P aa8] [Has P aa6] [HasL P aa2] [Has P ad0] [HasL P ab4] [Has P ab8] [HasL P aa9] [Has P ab0] [Has P ae4]
noncomputable def beO (m:Mc)(f:Nat->Nat->Option Int):List (Option Int):=m.bg.flatMap λ p=>m.en.map λ q=>f p q
theorem aC1 (Cc:m.Ok)(G:aw9 m w f):ab7 (m.Wk w) (minI ((beO m f).filterMap id)):=by
 unfold beO
 refine ab7.low (λ x hx=>?_) λ c hc=>?_
 .obtain⟨o,ho,e⟩:=br.mp hx
  obtain⟨p,hp,h⟩:=g8.mp ho
  obtain⟨q,hq,rfl⟩:=aK.mp h
  have z:=G p q (Cc.bg.1 p hp) (Cc.en.1 q hq)
  rw[show f p q=some x from e]at z
  exact⟨p,hp,q,hq,z.1⟩
 .obtain⟨p,hp,q,hq,hw⟩:=hc
  have z:=G p q (Cc.bg.1 p hp) (Cc.en.1 q hq)
  cases e:f p q with
  | none=>rw[e]at z;exact absurd hw (z c)
  | some y =>
   rw[e]at z
   exact⟨y,br.mpr ⟨some y,g8.mpr ⟨p,hp,aK.mpr ⟨q,hq,e⟩⟩,rfl⟩,z.2 c hw⟩
theorem bL8 (h:m.Ok) f :(beO m f).length<=25:=by
 have hb:=az7 h
 refine am (aj2 λ x hx=>by simpa using aH9 h) ?_
 lia
theorem bB5 m f :beW m (λ i j=>zJ (f i j))=ax0 (beO m f):=by
 unfold beW beO ax0
 rw[List.map_flatMap]
 congr 1
 funext p
 rw[cR];rfl
theorem aA7 n (h:m.Ok) f s :
  (aa1 P (n+2)).call "at_begins_and_ends" [m.d,gdO m.R f] s=.ok (.ref s.length) (s++[.lst (ax0 (beO m f))])/\(aa1 P (n+2)).call "least" [.ref s.length] (s++[.lst (ax0 (beO m f))])=.ok (zJ (minI ((beO m f).filterMap id))) (s++[.lst (ax0 (beO m f))]):=by
 have e1:=bV9 (P:=P) n h (Ww:=λ i j=>zJ (f i j)) (λ i j n=>zZ _ n) s
 rw[bB5]at e1
 exact⟨e1,as7 (n+1) aI8 (by have:=bL8 h f;lia)⟩
theorem bp8 n {m:Mc}(h:m.Ok) w (hw:w.length<=5000)(hs:s.all O.ncl=true) :
  ∃ o,ab7 (m.Wk w) o/\(aa1 P (n+6)).call "price" [m.d,.str w] s=.ok (zJ o) s:=by
 have y:(aa1 P (n+6)).call "price" [m.d,.str w] s=_:=zh ae4 rfl
 obtain⟨f,z,e1⟩:=qa (P:=P) n h w hw hs
 obtain⟨e2,Cc⟩:=aA7 (P:=P) (n+3) h f s
 refine⟨_,aC1 h z,?_⟩
 rw[y,show(dN some [m.d,D.str w]++aC ae4.vs none)=[some m.d,some (D.str w)]from rfl]
 simp only[ae4]
 simp only[qS,ex_ret,jc,ev_call,evas_nil,evas_ex,R.bind_ok,ja,qZ,nxt_ret,fin_ret,e1,e2,Cc]
 exact zM (zZ _) (ak0 _)
end
noncomputable def cc8:Ss:=(.cons (.asg (.one 7) (.bin .add (.var 7) (.mk .list (.compIf (.one 0) (.seq (.ix (.var 3) (.cst (.int 3)))) (.notN (.ix (.ix (.var 1) (.var 2)) (.var 0))) (.ix (.ix (.var 1) (.var 2)) (.var 0)) [none,some 6,some 8])))) .nil)
noncomputable def bT9:S:=(.ite (.isN (.var 9)) (.cons (.ite (.or (.cmp .ne (.var 10) (.lst .nil)) (.notN (.var 11))) (.cons (.ret (.cst (.bl false))) .nil) .nil) .nil) (.cons (.ite (.or (.cmp .ne (.slU (.var 10) (.cst (.int 1))) (.lst (.cons (.var 9) .nil))) (.cmp .ne (.call "_law_cost" (.ex (.var 3) (.ex (.bin .add (.var 4) (.var 5)) (.ex (.var 11) .nil)))) (.var 9))) (.cons (.ret (.cst (.bl false))) .nil) .nil) .nil))
noncomputable def cj4:Ss:=(.cons (.asg (.one 6) (.call "word_table" (.ex (.var 3) (.ex (.bin .add (.var 4) (.var 5)) .nil)))) (.cons (.ite (.not (.call "_law_same" (.ex (.var 6) (.ex (.call "_law_product" (.ex (.call "word_table" (.ex (.var 3) (.ex (.var 4) .nil))) (.ex (.call "word_table" (.ex (.var 3) (.ex (.var 5) .nil))) .nil))) .nil)))) (.cons (.ret (.cst (.bl false))) .nil) .nil) (.cons (.asg (.one 7) (.lst .nil)) (.cons (.for_ (.one 8) (.seq (.ix (.var 3) (.cst (.int 2)))) cc8) (.cons (.asg (.one 9) (.mkDs .min (.var 7) (.cst .non))) (.cons (.asg (.one 10) (.call "tolls" (.ex (.var 3) (.ex (.bin .add (.var 4) (.var 5)) .nil)))) (.cons (.asg (.one 11) (.call "road" (.ex (.var 3) (.ex (.bin .add (.var 4) (.var 5)) .nil)))) (.cons (.ite (.or (.cmp .ne (.call "price" (.ex (.var 3) (.ex (.bin .add (.var 4) (.var 5)) .nil))) (.var 9)) (.not (.bi .isList (.cons (.var 10) .nil)))) (.cons (.ret (.cst (.bl false))) .nil) .nil) (.cons bT9 .nil)))))))))
theorem bU5:ac1.body=(.cons (.for_ (.one 1) (.rng1 (.bin .add (.bi .min2 (.cons (.bi .len (.cons (.var 0) .nil)) (.cons (.cst (.int 3)) .nil))) (.cst (.int 1)))) (.cons (.asg (.one 2) (.call "_law_bag" (.ex (.var 0) (.ex (.var 1) .nil)))) (.cons (.asg (.one 3) (.call "_law_machine" (.ex (.var 2) .nil))) (.cons (.asg (.one 4) (.call "_law_word" (.ex (.var 2) (.ex (.ix (.var 3) (.cst (.int 0))) (.ex (.cst (.int 10)) .nil))))) (.cons (.asg (.one 5) (.call "_law_word" (.ex (.var 2) (.ex (.ix (.var 3) (.cst (.int 0))) (.ex (.cst (.int 10)) .nil))))) cj4))))) (.cons (.ret (.cst (.bl true))) .nil)):=rfl
theorem bp9 (l:List Int):eqL (eqv s n) (l.map D.int) (l.map D.int)=some true:=aj5 λ d hd=>by
 obtain⟨x,_,rfl⟩:=aK.mp hd
 exact au5 (some x)
theorem bw5 {l:List Int}(ha:s[a]?=some (.lst (l.map D.int)))(hb:s[b]?=some (.lst (l.map D.int))):z0 .ne (.ref a) (.ref b) s=.ok (.bl false) s:=by
 have e:eqv s DEEP (.ref a) (.ref b)=some true:=by
  show(match s[a]?,s[b]? with|some (.lst l),some (.lst m)=>if l.length=m.length then eqL (eqv s 29) l m else some false|_,_=>none)=_
  rw[ha,hb]
  show(if(l.map D.int).length=(l.map D.int).length then _ else _)=_
  rw[if_pos rfl,bp9]
 show(match eqv s DEEP (.ref a) (.ref b)with|some r=>R.ok (D.bl (!r)) s|none=>.bad)=_
 rw[e];rfl
theorem bH9 o :z0 .ne (zJ o) (zJ o) s=.ok (.bl false) s:=by
 show(match eqv s DEEP (zJ o) (zJ o)with|some r=>R.ok (D.bl (!r)) s|none=>.bad)=_
 rw[au5];rfl
theorem bJ8 (hm:m.Ok) f (hs:s.all O.ncl=true) x0 x1 x2 Z x5 x8 x9 Cc G :
  ∃(T:Sto) (q:Nat) (Y:Option D),(s++T).all O.ncl=true/\(s++T)[q]?=some (.lst (((beO m f).filterMap id).map D.int))/\aC7 (λ t=>chk (s++[.lst []]) t []) (turn F (.one 8) cc8) (aa7 m.bg) [x0,x1,x2,some m.d,Z,x5,some (gdO m.R f),some (.ref s.length),x8,x9,Cc,G] (s++[.lst []])
   = .ok (.next [x0,x1,x2,some m.d,Z,x5,some (gdO m.R f),some (.ref q),Y,x9,Cc,G]) (s++T):=by
 have hb:=az7 hm
 have he:=aH9 hm
 have key:=qy (g:=turn F (.one 8) cc8) (λ i U t=>∃(T:Sto) (q:Nat) (Y:Option D),t=s++T/\t.all O.ncl=true/\t[q]?=some (.lst ((((m.bg.take i).flatMap λ p=>m.en.map λ q=>f p q).filterMap id).map D.int))/\U=[x0,x1,x2,some m.d,Z,x5,some (gdO m.R f),some (.ref q),Y,x9,Cc,G])
  (aa7 m.bg) 0 [x0,x1,x2,some m.d,Z,x5,some (gdO m.R f),some (.ref s.length),x8,x9,Cc,G] (s++[.lst []]) ⟨[.lst []],s.length,x8,rfl,zL hs rfl,aI8,rfl⟩ (λ _ _ _ _ _=>rfl) (by
  rintro i d U t hi ⟨T,q,Y,rfl,hn,hq,rfl⟩
  rw[bz]at hq ⊢
  unfold aa7 at hi
  rw[ay]at hi
  obtain⟨p,hp,rfl⟩:=cy.mp hi
  have a0:=hm.bg.1 p (aN hp)
  have hS:∀ t,ak4 (.tup (aa7 m.en)) t=.ok ⟨aa7 m.en,[]⟩ t:=λ _=>rfl
  obtain⟨U2,s2,e2,a4,_⟩:=zY (ok:=λ a2=>chk (s++T) a2 []) (g:=ah6 F (.one 0) (.notN (.ix (.ix (.var 1) (.var 2)) (.var 0))) (.ix (.ix (.var 1) (.var 2)) (.var 0))) (λ U u=>u=s++T/\∃ z,U=[z,some (gdO m.R f),some (.int (p))]) (λ d=>match d with|.int i=>(f p i.toNat).map D.int|_=>none) (aa7 m.en) [none,some (gdO m.R f),some (.int (p))] (s++T) ⟨rfl,none,rfl⟩ (λ _ _ h=>rfl) (by
   rintro d hd U u ⟨rfl,z,rfl⟩
   obtain⟨k,hk,rfl⟩:=aK.mp hd
   have a3:=hm.en.1 k hk
   have i2:ixM (.tup (rowO m.R (f p))) (.int (k:Int)) (s++T)=.ok (zJ (f p k)) (s++T):=ix_tup (aH3 a3)
   refine⟨[some (.int (k)),some (gdO m.R f),some (.int (p))],_,?_,rfl,_,rfl⟩
   unfold ah6
   simp only[cz]
   cases e:f p k with
   | none=>rw[e]at i2;simp only[jc,ev_ix,ev_notN,R.bind_ok,qz,setV_0,ja,qZ,tru_bl,if_false,Bool.false_eq_true,decide_true,Bool.not_true,qt a0,i2,zx,Option.map_none]
   | some y=>rw[e]at i2;simp only[jc,ev_ix,ev_notN,R.bind_ok,qz,setV_0,ja,qZ,Option.map_some,tru_bl,if_true,decide_false,Bool.not_false,qt a0,i2,zF,show(D.int y=D.non)=False from eq_false (by nofun)])
  subst a4
  have a5:(aa7 m.en).filterMap (λ d=>match d with|.int i=>(f p i.toNat).map D.int|_=>none)=((m.en.map λ q=>f p q).filterMap id).map D.int:=by
   unfold aa7
   rw[cD,cD,jU]
   exact qp λ q _=>rfl
  rw[a5]at e2
  have hl:((m.bg.take i).flatMap λ p=>m.en.map λ q=>f p q).length<=25:=by
   refine am (aj2 (B:=5) λ x hx=>by simpa using he) ?_
   have:(m.bg.take i).length<=5:=by rw[bG];omega
   omega
  have b0:=dk id ((m.bg.take i).flatMap λ p=>m.en.map λ q=>f p q)
  have a6:=dk id (m.en.map λ q=>f p q)
  rw[ax]at a6
  have J:=bB9 (s:=s++T++[O.lst (((m.en.map λ q=>f p q).filterMap id).map D.int)]) (a:=q) (b:=(s++T).length) (ze hq) aI8 (by simp only[ax];unfold LIM;lia)
  rw[<-cM,<-iK]at J
  refine⟨[x0,x1,x2,some m.d,Z,x5,some (gdO m.R f),some (.ref (s++T++[O.lst (((m.en.map λ q=>f p q).filterMap id).map D.int)]).length),some (.int (p:Int)),x9,Cc,G],s++T++[O.lst (((m.en.map λ q=>f p q).filterMap id).map D.int)]++[O.lst ((((m.bg.take (i+1)).flatMap λ p=>m.en.map λ q=>f p q).filterMap id).map D.int)],.inl ?_,T++[O.lst (((m.en.map λ q=>f p q).filterMap id).map D.int)]++[O.lst ((((m.bg.take (i+1)).flatMap λ p=>m.en.map λ q=>f p q).filterMap id).map D.int)],_,_,by simp only[aM],zL (zL hn ag5) ag5,aI8,rfl⟩
  have a1:∀ q (s:Sto),mk .list q s=.ok (.ref s.length) (s++[.lst q]):=λ _ _=>rfl
  unfold turn cc8
  simp only[qS,exs_nil,ex_asg,jc,ev_cst,ev_bin,ev_ix,ev_mk,evI_seq,Cn_int,R.bind_ok,qz,setV_s,setV_0,ja,qZ,Option.map_some,setC_some,nxt_next,ixE,hS,zR,if_pos (show(aa7 m.en).length<=LIM by rw[aj7];unfold LIM;lia),show qe [x0,x1,x2,some m.d,Z,x5,some (gdO m.R f),some (.ref q),some (.int (p:Int)),x9,Cc,G] [none,some 6,some 8]=[none,some (gdO m.R f),some (.int (p:Int))]from rfl,e2,a1,J]
  rw[am1 hp,jx,show[p].flatMap (λ p=>m.en.map λ q=>f p q)=m.en.map λ q=>f p q by simp])
 obtain⟨U',s',ek,T,q,Y,rfl,h1,h2,rfl⟩:=key
 rw[bz,aj7,bS]at h2
 exact⟨T,q,Y,h1,h2,ek⟩
theorem bq3 (h:∀ c,c ∉ cs):zT cs=[]:=by
 cases cs with
 | nil=>rfl
 | cons a l=>exact absurd (az ..) (h a)
theorem bq5 (nd:cs.Nodup)(hc:c∈cs)(h:∀ x∈cs,c<=x):(zT cs).take 1=[c]:=by
 have z:=aH5 nd
 have y:=af3.mpr hc
 cases e:zT cs with
 | nil=>rw[e]at y;cases y
 | cons a l =>
  rw[e]at z y
  have ha:=af3.mp (by rw[e];exact az ..)
  have Cc:=h a ha
  rcases av.mp y with h4|h4
  .rw[h4];rfl
  .have:=(bR.mp z).1 c h4
   lia
theorem bA4 {l:List Int}(h:s[r]?=some (.lst (l.map D.int))):slM (.ref r) none (some 1) s=.ok (.ref s.length) (s++[.lst ((l.take 1).map D.int)]):=by
 show(match s[r]? with|some (.lst l)=>ad1 (.lst (aC6 l none (some 1))) s|_=>.bad)=_
 rw[h]
 congr 3
 cases l with
 | nil=>rfl
 | cons a l =>
  have y:hiB (l.length+1) (some 1)=1:=by unfold hiB sbd;simp
  simp[aC6,y,loB]
section
variable {P:Pr} [Has P ab3] [Has P ac0] [Has P aa8] [Has P ab1] [Has P ak7] [Has P ab2] [Has P af1] [Has P ai1]
theorem bJ7 n {m:Mc}(hm:m.Ok)(hw:(v++w).length<=20)(ho:ab7 (m.Wk (v++w)) o)(nd:cs.Nodup)(Cc:∀ c,c∈cs↔m.Wk (v++w) c)(hn:s.all O.ncl=true){a:Nat}(ha:s[a]?=some (.lst ((zT cs).map D.int)))(x0 x1 x2 x6 x7 x8 a0:Option D)(rest:Ss) :
  ∃(T:Sto) (y:D),(s++T).all O.ncl=true/\(s++T)[a]?=some (.lst ((zT cs).map D.int))/\(aa1 P (n+3)).call "road" [m.d,.str (v++w)] s=.ok y (s++T) /\
   ∃ Uu,(s++T++Uu).all O.ncl=true/\ex (aa1 P (n+3)) bT9 [x0,x1,x2,some m.d,some (.str v),some (.str w),x6,x7,x8,some (zJ o),some (.ref a),some y] (s++T)=.ok (.next [x0,x1,x2,some m.d,some (.str v),some (.str w),x6,x7,x8,some (zJ o),some (.ref a),some y]) (s++T++Uu):=by
 have G:∀ s:Sto,qF .add (.str v) (.str w) s=.ok (.str (v++w)) s:=λ s=>av7 (by rw[aD]at hw;unfold LIM;lia)
 rcases road_ok (P:=P) n hm (v++w) (by lia) s with⟨er,hL⟩|⟨ps,c,er,⟨p,hp,q,hq,hpl⟩,hL⟩
 .have z:o=none:=ho.eq hL λ c=>jm
  subst z
  refine⟨[],.non,by simpa using hn,by simpa using ha,by simpa using er,[.lst []],?_,?_⟩
  .rw[bp];exact zL hn rfl
  .have e0:zT cs=[]:=bq3 λ c h=>hL c ((Cc c).mp h)
   rw[e0]at ha
   have en:=bw5 (s:=s++[.lst []]) (l:=[]) (ze ha) aI8
   rw[bp]
   unfold bT9
   simp only[qS,exs_nil,ex_ite,ex_ret,jc,ev_cst,ev_bin,ev_cmp,ev_or,ev_lst,ev_call,ev_isN,ev_notN,evs_nil,evs_cons,evas_nil,evas_ex,Cn_bl,R.bind_ok,ja,qZ,nxt_next,nxt_ret,alloc_eq,tru_bl,if_true,if_false,Bool.false_eq_true,decide_true,Bool.not_true,zx,en]
 .have z:o=some c:=ho.eq hL λ c=>jm
  subst z
  have J:(s++[O.lst (aa7 ps)]).all O.ncl=true:=zL hn aN1
  refine⟨[.lst (aa7 ps)],.ref s.length,J,ze ha,er,[.lst (((zT cs).take 1).map D.int)]++[.lst [.int c]],?_,?_⟩
  .rw[<-aM]
   exact zL (zL J ag5) rfl
  .have e0:(zT cs).take 1=[c]:=bq5 nd ((Cc c).mpr hL.1) λ x hx=>hL.2 x ((Cc x).mp hx)
   have es:=bA4 (s:=s++[.lst (aa7 ps)]) (ze ha)
   rw[e0]at es ⊢
   have en:=bw5 (s:=s++[.lst (aa7 ps)]++[.lst [.int c]]++[.lst [.int c]]) (a:=(s++[O.lst (aa7 ps)]).length) (b:=(s++[O.lst (aa7 ps)]++[O.lst [.int c]]).length) (l:=[c]) (ze aI8) aI8
   have ec:=bD5 (P:=P) (n+2) hm (w:=v++w) (by omega) hp hq hpl (s:=s++[.lst (aa7 ps)]++[.lst [.int c]]++[.lst [.int c]]) (r:=s.length) (ze (ze aI8))
   have Y:decide (D.int c=D.non)=false:=rfl
   have Z:slM (.ref a) none (some 1) (s++[.lst (aa7 ps)])=.ok (.ref (s++[O.lst (aa7 ps)]).length) (s++[.lst (aa7 ps)]++[.lst [.int c]]):=es
   rw[<-aM]
   show ex _ bT9 _ _=.ok _ (s++[O.lst (aa7 ps)]++[O.lst [.int c]]++[O.lst [.int c]])
   unfold bT9
   simp only[qS,exs_nil,ex_ite,ex_ret,jc,ev_cst,ev_bin,ev_cmp,ev_or,ev_lst,ev_call,ev_isN,ev_notN,evs_nil,evs_cons,evas_nil,evas_ex,Cn_bl,Cn_int,R.bind_ok,ja,qZ,nxt_next,nxt_ret,ne_int,alloc_eq,tru_bl,if_false,Bool.false_eq_true,decide_true,Bool.not_true,zF,Y,bZ5,Z,en,G,ec]
variable [Has P aa3] [Has P ad3] [Has P ac3] [Has P ac6] [Has P ab5] [Has P aa6] [HasL P aa2] [Has P ad0] [HasL P ab4] [Has P ab8] [HasL P aa9] [Has P ab0] [Has P ae4]
 [Has P ac4] [Has P ac9]
theorem bH8 n {m:Mc}(y:m.Ok)(hv:v.length<=10)(hw:w.length<=10)(hn:s.all O.ncl=true) x0 x1 x2 x6 x7 x8 x9 J Y :
  ∃ T y6 y7 Z y9 a4 Cc ,(s++T).all O.ncl=true/\exs (aa1 P (n+6)) cj4 [x0,x1,x2,some m.d,some (.str v),some (.str w),x6,x7,x8,x9,J,Y] s=.ok (.next [x0,x1,x2,some m.d,some (.str v),some (.str w),y6,y7,Z,y9,a4,Cc]) (s++T):=by
 have hR:=y.R5
 have hl:(v++w).length<=20:=by rw[aD];lia
 have z:∀ s:Sto,qF .add (.str v) (.str w) s=.ok (.str (v++w)) s:=λ s=>av7 (by unfold LIM;lia)
 obtain⟨f,hf,e1⟩:=qa (P:=P) (n+1) y (v++w) (by lia) hn
 obtain⟨g,hg,e2⟩:=qa (P:=P) (n+1) y v (by lia) hn
 obtain⟨h,hh,e3⟩:=qa (P:=P) (n+1) y w (by lia) hn
 have e4:=aD1 (P:=P) (n+5) hR g h s
 rw[(hg.mul y hh).eq hf]at e4
 have e5:=bp2 (P:=P) (n+5) hR f s
 obtain⟨T,q,Z,b1,hq,e6⟩:=bJ8 y f hn x0 x1 x2 (some (.str v)) (some (.str w)) x8 x9 J Y
 have hS:∀ t,ak4 (.tup (aa7 m.bg)) t=.ok ⟨aa7 m.bg,[]⟩ t:=λ _=>rfl
 have ho:=aC1 y hf
 have h5:aJ7 (.ref q) (s++T)=.ok (((beO m f).filterMap id).map D.int) (s++T):=by simp only[aJ7,hq]
 have e7:=aX0 ((beO m f).filterMap id) (s++T)
 generalize minI ((beO m f).filterMap id)=o at ho e7
 obtain⟨cs,e8,nd,b3⟩:=bo0 (P:=P) (n+3) y (v++w) (by omega) (s++T)
 have b2:(s++T++[O.lst ((zT cs).map D.int)]).all O.ncl=true:=zL b1 ag5
 obtain⟨G,Cc,a1,ha,e9,Uu,a2,b0⟩:=bJ7 (P:=P) (n+3) y hl ho nd b3 b2 aI8 x0 x1 x2 (some (gdO m.R f)) (some (.ref q)) Z none .nil
 obtain⟨o',a5,a0⟩:=bp8 (P:=P) n y (v++w) (by omega) a1
 have eo:o'=o:=a5.eq ho λ _=>jm
 subst eo
 have a6:=aq9 ha
 have a3:=bH9 (s:=s++T++[O.lst ((zT cs).map D.int)]++G) o'
 refine⟨T++[O.lst ((zT cs).map D.int)]++G++Uu,some (gdO m.R f),some (.ref q),Z,some (zJ o'),some (.ref (s++T).length),some Cc,?_,?_⟩
 .rw[show s++(T++[O.lst ((zT cs).map D.int)]++G++Uu)=s++T++[O.lst ((zT cs).map D.int)]++G++Uu by simp only[aM]]
  exact a2
 .unfold cj4
  simp only[qS,exs_nil,ex_asg,ex_ite,ex_ret,ex_for,jc,ev_cst,ev_bin,ev_not,ev_lst,ev_ix,ev_call,evs_nil,evas_nil,evas_ex,evI_seq,Cn_bl,Cn_int,R.bind_ok,qz,setV_s,setV_0,ja,qZ,Option.map_some,setC_some,nxt_next,nxt_ret,alloc_eq,tru_bl,if_false,Bool.false_eq_true,Bool.not_true,z,e1,e2,e3,e4,e5,ixB,hS]
  rw[e6]
  simp only[qS,exs_nil,ex_asg,ex_ite,ex_ret,jc,ev_cst,ev_bin,ev_not,ev_cmp,ev_or,ev_call,ev_bi,ev_mkDs,evs_nil,evs_cons,evas_nil,evas_ex,Cn_bl,Cn_non,R.bind_ok,qz,setV_s,setV_0,ja,qZ,Option.map_some,setC_some,nxt_next,nxt_ret,tru_bl,if_false,Bool.false_eq_true,Bool.not_true,h5,e7,z,e8,e9,a0,a3,a6]
  rw[b0]
  simp only[exs_nil,R.bind_ok,nxt_next]
  rw[show s++(T++[O.lst ((zT cs).map D.int)]++G++Uu)=s++T++[O.lst ((zT cs).map D.int)]++G++Uu by simp only[aM]]
variable [Has P ac1] [Has P aw3] [Has P ac8] [Has P ad5] [Has P ac5] [Has P ai3]
theorem ce6 n :ck3 P (n+7):=by
 intro ns hl
 have e0:(aa1 P (n+7)).call "law" [.ref 0] [.ro (ns.map D.int)]=_:=zh ac1 rfl
 rw[e0,bU5,show(dN some [D.ref 0]++aC ac1.vs none)=[some (.ref 0),none,none,none,none,none,none,none,none,none,none,none]from rfl]
 have a5:([.ro (ns.map D.int)]:Sto)[0]?=some (.ro (ns.map D.int)):=rfl
 have Cc:bi .len [.ref 0] [.ro (ns.map D.int)]=.ok (.int ns.length) [.ro (ns.map D.int)]:=by rw[bt3 a5,ax]
 have hk:(if 3<(ns.length:Int)then 3 else(ns.length:Int))+1=((min ns.length 3+1:Nat):Int):=by omega
 simp -implicitDefEqProofs only[qS,ex_for,jc,ev_cst,ev_bin,ev_bi,evs_nil,evs_cons,evI_rng1,Cn_int,R.bind_ok,ja,add_int,Cc,bm6,hk]
 rw[zQ (by unfold Ww62;lia) (by unfold Ww62;omega)]
 simp only[R.bind_ok]
 rw[R.bind_assoc]
 refine zK (λ j U t=>t[0]?=some (.ro (ns.map D.int))/\t.all O.ncl=true/\∃ x1 x2 x3 x4 x5 x6 x7 x8 x9 y z,U=[some (.ref 0),x1,x2,x3,x4,x5,x6,x7,x8,x9,y,z]) ⟨rfl,by
   simp only[dP,ke,eD];exact ag5,_,_,_,_,_,_,_,_,_,_,_,rfl⟩ (λ _ _ _ _ _=>rfl) ?_ ?_
 .rintro j d U t hj ⟨Z,hn,x1,x2,x3,x4,x5,x6,x7,x8,x9,y,z,rfl⟩
  have hd:=(qN hj).2
  subst hd
  have a6:=(ac.mp Z).1
  have h:=ca7 (P:=P) (n+5) ns j t 0 Z hl
  have G0:Gd ns t.length (t++[zP (bM4 ns j)]):=⟨ze Z,zL hn rfl,⟨_,aI8⟩,by lia⟩
  generalize t++[zP (bM4 ns j)]=S at h G0
  generalize t.length=r at h G0
  obtain⟨m,Y,J,em⟩:=aQ4 (P:=P) (n+3) G0.bag
  have G1:=G0.put Y
  obtain⟨v,b3,hv,ew⟩:=aO2 (P:=P) (n+4) J.L1 J.L3 G1.bag 10 (by lia)
  have G3:=G1.put b3
  obtain⟨w,b4,hw,a4⟩:=aO2 (P:=P) (n+4) J.L1 J.L3 G3.bag 10 (by lia)
  have G4:=G3.put b4
  obtain⟨T,y6,y7,y8,y9,a1,a2,a3,ef⟩:=bH8 (P:=P) n J hv hw G4.ncl (some (.ref 0)) (some (.int (j))) (some (.ref r)) x6 x7 x8 x9 y z
  refine qE (U:=[some (.ref 0),some (.int (j:Int)),some (.ref r),some m.d,some (.str v),some (.str w),y6,y7,y8,y9,a1,a2]) ?_ ⟨ze G4.scr,a3,_,_,_,_,_,_,_,_,_,_,_,rfl⟩
  have a0:(aa1 P (n+6)).call "_law_word" [.ref r,.int (m.L:Int),.int 10] (S.set r (zP Y))=_:=ew
  have G:(aa1 P (n+6)).call "_law_word" [.ref r,.int (m.L:Int),.int 10] ((S.set r (zP Y)).set r (zP b3))=_:=a4
  unfold turn
  simp -implicitDefEqProofs only[qz,setV_s,setV_0,fS,qS,ex_asg,ev_call,evas_ex,evas_nil,jc,ja,qZ,R.bind_ok,h,em,setC_some,nxt_next,ev_ix,ev_cst,Cn_int,ixL,a0,G]
  exact ef
 .rintro U t ⟨Z,hn,x1,x2,x3,x4,x5,x6,x7,x8,x9,y,z,rfl⟩
  simp -implicitDefEqProofs only[qS,ex_ret,ev_cst,Cn_bl,R.bind_ok,nxt_next,nxt_ret,fin_ret]
  exact aZ0 _ _
end
end DV
end
local macro_rules | `(tactic| walk_at "sc") => `(tactic| exact ⟨rfl, rfl, rfl, by decide +kernel, rfl, by decide +kernel, by decide +kernel⟩)
local macro_rules | `(tactic| walk_at "df") => `(tactic| (dsimp only; exact ⟨_, _, _, _, _, _, _, _, _, _, by k_is, by k_is, by k_is, by k_is⟩))
noncomputable section
namespace My
open PySem L2
noncomputable def top (i:Nat):Stmt:=PySem.Challenge.pw_leasttolls_k12_whole_least_tolls.main.body.getD i (.Pass ⟨0,0,0,0⟩)
theorem cf5:aQ5 ["i", "j"]:=λ params h _ _ _ _ _ _ _ _ us hl=>by
 obtain⟨args,rfl,ha⟩:=je h
 revert us
 refine bd2 ?_
 intro y G
 rcases args with _|⟨⟨Cc,_,_⟩,_|⟨⟨z,_,_⟩,_|⟨_,_⟩⟩⟩
 all_goals simp only[aS,dE,kN,and_true,and_false,reduceCtorEq]at ha
 obtain⟨rfl,rfl⟩:=ha
 exact⟨rfl,λ _ _=>rfl⟩
theorem co4:aQ5 ["walk"]:=λ params h _ _ _ _ _ _ _ _ us hl=>by
 obtain⟨args,rfl,ha⟩:=je h
 revert us
 refine bd1 ?_
 intro z
 rcases args with _|⟨⟨y,_,_⟩,_|⟨_,_⟩⟩
 all_goals simp only[aS,dE,kN,and_true,and_false,reduceCtorEq]at ha
 obtain rfl:=ha
 exact⟨rfl,λ _ _=>rfl⟩
noncomputable def ae1:List Str:=["plain", "product", "letter_table", "road"]
noncomputable abbrev ap8:Stmt:=top 1
noncomputable abbrev al2:Stmt:=top 2
noncomputable abbrev ay8:Stmt:=top 3
noncomputable abbrev aq2:Stmt:=top 4
noncomputable abbrev bv9:Stmt:=top 6
noncomputable abbrev ac7:Stmt:=top 7
noncomputable abbrev ba4:Stmt:=top 9
noncomputable abbrev bd4:Stmt:=top 10
noncomputable abbrev aV2:Stmt:=top 11
noncomputable abbrev ax3:Stmt:=top 12
noncomputable abbrev s_letter_table:Stmt:=top 13
noncomputable abbrev ai0:Stmt:=top 14
noncomputable abbrev aU9:Stmt:=top 15
noncomputable abbrev br7:Stmt:=top 17
noncomputable abbrev ag4:Stmt:=top 18
noncomputable abbrev bf8:Stmt:=top 19
noncomputable abbrev ag2:Stmt:=top 20
noncomputable abbrev aq3:Stmt:=top 22
noncomputable abbrev am5:Stmt:=top 23
noncomputable abbrev ai4:Stmt:=top 24
noncomputable abbrev af0:Stmt:=top 25
noncomputable abbrev an4:Stmt:=top 26
noncomputable abbrev ae8:Stmt:=top 27
noncomputable abbrev ao1:Stmt:=top 28
noncomputable abbrev al8:Stmt:=top 29
noncomputable abbrev aB2:Stmt:=top 30
noncomputable def tb:List (String×nI×Stmt):=[("rooms_of",DV.ab5,ap8),("begins_of",DV.ab3,al2),("ends_of",DV.ac0,ay8),("doors_of",DV.aa8,aq2),("grid",DV.ad3,bv9),("at_begins_and_ends",DV.aa3,ac7),("least",DV.ac3,ba4),("added",DV.ac6,bd4),("plain",DV.ad0,aV2),("product",DV.ab8,ax3),("letter_table",DV.aa6,s_letter_table),("word_table",DV.ab0,ai0),("price",DV.ae4,aU9),("road",DV.ak7,br7),("best_led_on",DV.ab1,ag4),("tolls",DV.af1,bf8),("paid_led_on",DV.ab2,ag2),("_law_bag",DV.aw3,aq3),("_law_take",DV.ac8,am5),("_law_rooms",DV.ad5,ai4),("_law_machine",DV.ac5,af0),("_law_word",DV.ai3,an4),("_law_product",DV.ac4,ae8),("_law_same",DV.ac9,ao1),("_law_cost",DV.ai1,al8),("law",DV.ac1,aB2)]
noncomputable def cj6:List (String×lY):=[]
noncomputable def cq4:List (String×nO):=[("plain.0",DV.ab4),("product.0",DV.aa9),("letter_table.least_fee",DV.aa2),("road.0",DV.an9)]
noncomputable def tbl:List (String×nI):=tb.map λ p=>(p.1,p.2.1)
noncomputable def P:mD:=⟨λ f=>tbl.lookup f,λ f=>cq4.lookup f,λ x=>cj6.lookup x,λ _=>none,λ _=>none,λ _=>false,λ _=>false,λ _=>none,λ _ _=>none,λ _ _=>false⟩
instance:DV.HasL P DV.ab4:=⟨rfl⟩
instance:DV.HasL P DV.aa9:=⟨rfl⟩
instance:DV.HasL P DV.aa2:=⟨rfl⟩
instance:DV.HasL P DV.an9:=⟨rfl⟩
instance:DV.Has P DV.ab5:=⟨rfl⟩
instance:DV.Has P DV.ab3:=⟨rfl⟩
instance:DV.Has P DV.ac0:=⟨rfl⟩
instance:DV.Has P DV.aa8:=⟨rfl⟩
instance:DV.Has P DV.ad3:=⟨rfl⟩
instance:DV.Has P DV.aa3:=⟨rfl⟩
instance:DV.Has P DV.ac3:=⟨rfl⟩
instance:DV.Has P DV.ac6:=⟨rfl⟩
instance:DV.Has P DV.ad0:=⟨rfl⟩
instance:DV.Has P DV.ab8:=⟨rfl⟩
instance:DV.Has P DV.aa6:=⟨rfl⟩
instance:DV.Has P DV.ab0:=⟨rfl⟩
instance:DV.Has P DV.ae4:=⟨rfl⟩
instance:DV.Has P DV.ak7:=⟨rfl⟩
instance:DV.Has P DV.ab1:=⟨rfl⟩
instance:DV.Has P DV.af1:=⟨rfl⟩
instance:DV.Has P DV.ab2:=⟨rfl⟩
instance:DV.Has P DV.aw3:=⟨rfl⟩
instance:DV.Has P DV.ac8:=⟨rfl⟩
instance:DV.Has P DV.ad5:=⟨rfl⟩
instance:DV.Has P DV.ac5:=⟨rfl⟩
instance:DV.Has P DV.ai3:=⟨rfl⟩
instance:DV.Has P DV.ac4:=⟨rfl⟩
instance:DV.Has P DV.ac9:=⟨rfl⟩
instance:DV.Has P DV.ai1:=⟨rfl⟩
instance:DV.Has P DV.ac1:=⟨rfl⟩
theorem aR6:DT ae1 P "rooms_of" DV.ab5 ap8:=⟨["machine"],["machine"],by walk_at "sc",rfl,rfl,λ _ _ _ _ _ _=>bd1 (λ _=>rfl),.inl (by decide +kernel)⟩
theorem aD2:DT ae1 P "begins_of" DV.ab3 al2:=⟨["machine"],["machine"],by walk_at "sc",rfl,rfl,λ _ _ _ _ _ _=>bd1 (λ _=>rfl),.inl (by decide +kernel)⟩
theorem ba1:DT ae1 P "ends_of" DV.ac0 ay8:=⟨["machine"],["machine"],by walk_at "sc",rfl,rfl,λ _ _ _ _ _ _=>bd1 (λ _=>rfl),.inl (by decide +kernel)⟩
theorem aP0:DT ae1 P "doors_of" DV.aa8 aq2:=⟨["machine"],["machine"],by walk_at "sc",rfl,rfl,λ _ _ _ _ _ _=>bd1 (λ _=>rfl),.inl (by decide +kernel)⟩
theorem bY6:DT ae1 P "grid" DV.ad3 bv9:=⟨["size", "entry", "rows", "i"],["size", "entry"],by walk_at "sc",rfl,rfl,λ _ _ _ _ _ _=>bd2 (λ _ _=>rfl),.inl (by decide +kernel)⟩
theorem qW:DT ae1 P "at_begins_and_ends" DV.aa3 ac7:=⟨["machine", "table", "found", "start"],["machine", "table"],by walk_at "sc",rfl,rfl,λ _ _ _ _ _ _=>bd2 (λ _ _=>rfl),.inl (by decide +kernel)⟩
theorem bF1:DT ae1 P "least" DV.ac3 ba4:=⟨["prices"],["prices"],by walk_at "sc",rfl,rfl,λ _ _ _ _ _ _=>bd1 (λ _=>rfl),.inl (by decide +kernel)⟩
theorem by6:DT ae1 P "added" DV.ac6 bd4:=⟨["one", "other"],["one", "other"],by walk_at "sc",rfl,rfl,λ _ _ _ _ _ _=>bd2 (λ _ _=>rfl),.inl (by decide +kernel)⟩
theorem bA0:DT ae1 P "plain" DV.ad0 aV2:=⟨["n"],["n"],by walk_at "sc",rfl,rfl,λ _ _ _ _ _ _=>bd1 (λ _=>rfl),.inr ⟨by decide,[("plain.0",DV.ab4,["i", "j"],[])],by decide +kernel,by decide +kernel,λ p hp=>by
 simp only[av,bn,or_false]at hp
 rcases hp with rfl
 .exact⟨rfl,cf5⟩⟩⟩
theorem aU3:DT ae1 P "product" DV.ab8 ax3:=⟨["one", "other", "size"],["one", "other"],by walk_at "sc",rfl,rfl,λ _ _ _ _ _ _=>bd2 (λ _ _=>rfl),.inr ⟨by decide,[("product.0",DV.aa9,["i", "j"],["size", "one", "other"])],by decide +kernel,by decide +kernel,λ p hp=>by
 simp only[av,bn,or_false]at hp
 rcases hp with rfl
 .exact⟨rfl,cf5⟩⟩⟩
theorem ap0:DT ae1 P "letter_table" DV.aa6 s_letter_table:=⟨["machine", "letter", "least_fee"],["machine", "letter"],by walk_at "sc",rfl,rfl,λ _ _ _ _ _ _=>bd2 (λ _ _=>rfl),.inr ⟨by decide,[("letter_table.least_fee",DV.aa2,["i", "j"],["machine", "letter"])],by decide +kernel,by decide +kernel,λ p hp=>by
 simp only[av,bn,or_false]at hp
 rcases hp with rfl
 .exact⟨rfl,cf5⟩⟩⟩
theorem aA0:DT ae1 P "word_table" DV.ab0 ai0:=⟨["machine", "word", "made", "table", "letter"],["machine", "word"],by walk_at "sc",rfl,rfl,λ _ _ _ _ _ _=>bd2 (λ _ _=>rfl),.inl (by decide +kernel)⟩
theorem bF0:DT ae1 P "price" DV.ae4 aU9:=⟨["machine", "word"],["machine", "word"],by walk_at "sc",rfl,rfl,λ _ _ _ _ _ _=>bd2 (λ _ _=>rfl),.inl (by decide +kernel)⟩
theorem bY7:DT ae1 P "road" DV.ak7 br7:=⟨["machine", "word", "best", "room", "letter", "found"],["machine", "word"],by walk_at "sc",rfl,rfl,λ _ _ _ _ _ _=>bd2 (λ _ _=>rfl),.inr ⟨by decide,[("road.0",DV.an9,["walk"],[])],by decide +kernel,by decide +kernel,λ p hp=>by
 simp only[av,bn,or_false]at hp
 rcases hp with rfl
 .exact⟨rfl,co4⟩⟩⟩
theorem aw6:DT ae1 P "best_led_on" DV.ab1 ag4:=⟨["machine", "best", "letter", "led_on", "place", "door", "start", "goal", "cost"],["machine", "best", "letter"],by walk_at "sc",rfl,rfl,λ _ _ _ _ _ _=>bd3 (λ _ _ _=>rfl),.inl (by decide +kernel)⟩
theorem bL2:DT ae1 P "tolls" DV.af1 bf8:=⟨["machine", "word", "paid", "room", "letter", "found"],["machine", "word"],by walk_at "sc",rfl,rfl,λ _ _ _ _ _ _=>bd2 (λ _ _=>rfl),.inl (by decide +kernel)⟩
theorem as4:DT ae1 P "paid_led_on" DV.ab2 ag2:=⟨["machine", "paid", "letter", "led_on", "start", "sign", "goal", "fee", "there", "cost"],["machine", "paid", "letter"],by walk_at "sc",rfl,rfl,λ _ _ _ _ _ _=>bd3 (λ _ _ _=>rfl),.inl (by decide +kernel)⟩
theorem aS3:DT ae1 P "_law_bag" DV.aw3 aq3:=⟨["_law_script", "_law_at", "_law_cell", "_law_mix", "_law_k"],["_law_script", "_law_at"],by walk_at "sc",rfl,rfl,λ _ _ _ _ _ _=>bd2 (λ _ _=>rfl),.inl (by decide +kernel)⟩
theorem aF9:DT ae1 P "_law_take" DV.ac8 am5:=⟨["_law_bag_here", "_law_many", "_law_digit", "_law_number", "_law_room"],["_law_bag_here", "_law_many"],by walk_at "sc",rfl,rfl,λ _ _ _ _ _ _=>bd2 (λ _ _=>rfl),.inl (by decide +kernel)⟩
theorem aB3:DT ae1 P "_law_rooms" DV.ad5 ai4:=⟨["_law_bag_here", "_law_many", "_law_bits"],["_law_bag_here", "_law_many"],by walk_at "sc",rfl,rfl,λ _ _ _ _ _ _=>bd2 (λ _ _=>rfl),.inl (by decide +kernel)⟩
theorem ap3:DT ae1 P "_law_machine" DV.ac5 af0:=⟨["_law_bag_here", "_law_letters", "_law_rooms_here", "_law_many", "_law_doors", "_law_k"],["_law_bag_here"],by walk_at "sc",rfl,rfl,λ _ _ _ _ _ _=>bd1 (λ _=>rfl),.inl (by decide +kernel)⟩
theorem aE3:DT ae1 P "_law_word" DV.ai3 an4:=⟨["_law_bag_here", "_law_letters", "_law_most", "_law_word_here", "_law_k"],["_law_bag_here", "_law_letters", "_law_most"],by walk_at "sc",rfl,rfl,λ _ _ _ _ _ _=>bd3 (λ _ _ _=>rfl),.inl (by decide +kernel)⟩
theorem ao4:DT ae1 P "_law_product" DV.ac4 ae8:=⟨["_law_one", "_law_other", "_law_rows", "_law_i", "_law_row", "_law_j", "_law_least", "_law_k"],["_law_one", "_law_other"],by walk_at "sc",rfl,rfl,λ _ _ _ _ _ _=>bd2 (λ _ _=>rfl),.inl (by decide +kernel)⟩
theorem aE7:DT ae1 P "_law_same" DV.ac9 ao1:=⟨["_law_found", "_law_due", "_law_i", "_law_entry"],["_law_found", "_law_due"],by walk_at "sc",rfl,rfl,λ _ _ _ _ _ _=>bd2 (λ _ _=>rfl),.inl (by decide +kernel)⟩
theorem aE6:DT ae1 P "_law_cost" DV.ai1 al8:=⟨["_law_machine_here", "_law_word_here", "_law_places", "_law_here", "_law_cost_here", "_law_k", "_law_door"],["_law_machine_here", "_law_word_here", "_law_places"],by walk_at "sc",rfl,rfl,λ _ _ _ _ _ _=>bd3 (λ _ _ _=>rfl),.inl (by decide +kernel)⟩
theorem bv1:FnScope ["_law_script", "_law_at", "_law_bag_here", "_law_machine_here", "_law_one", "_law_other", "_law_table", "_law_some", "_law_start", "_law_least", "_law_costs", "_law_found"] ["_law_script"] (defScope aB2):=by walk_at "sc"
theorem bR7:mSs ⟨["_law_script", "_law_at", "_law_bag_here", "_law_machine_here", "_law_one", "_law_other", "_law_table", "_law_some", "_law_start", "_law_least", "_law_costs", "_law_found"],defScope aB2,λ _ _ _=>false⟩ DV.ac1.body (zD aB2)=true:=by decide +kernel
theorem bQ0:cn7 "law" aB2 ["_law_script"]:=λ _ _ _ _ _ _=>bd1 λ _=>rfl
theorem cf0:DT ae1 P "law" DV.ac1 aB2:=⟨_,_,bv1,rfl,rfl,bQ0,.inl bR7⟩
theorem fmc {α:Type}{P:α->Prop}{a l}(h:P a)(t:∀ x∈l,P x):∀ x∈a::l,P x:=List.forall_mem_cons.mpr ⟨h,t⟩
theorem fmn {α:Type}{P:α->Prop}:∀ x∈([]:List α),P x:=λ _ h=>nomatch h
theorem cg4:∀ p∈tb,DT ae1 P p.1 p.2.1 p.2.2:=by
 unfold tb
 exact fmc aR6 (fmc aD2 (fmc ba1 (fmc aP0 (fmc bY6 (fmc qW (fmc bF1 (fmc by6 (fmc bA0 (fmc aU3 (fmc ap0 (fmc aA0 (fmc bF0 (fmc bY7 (fmc aw6 (fmc bL2 (fmc as4 (fmc aS3 (fmc aF9 (fmc aB3 (fmc ap3 (fmc aE3 (fmc ao4 (fmc aE7 (fmc aE6 (fmc cf0 fmn)))))))))))))))))))))))))
theorem bP6 {l:dH}{mg:yC}(X:K.In h)(G:h.Ns bE mg)(y:mg "law"=some (.ref fa))(hD:∀ p∈tb,cj5 K p.1 p.2.2)(hz:∀ x∈bNames,fZ K bE x=some none)
  (hT:∀ x∈ae1,(bq K x).isSome=true) (tnd:decide (((bG7 ae1 K).map (·.1)).Nodup)=true)
  : ∃ Cc,(∀ s   v ,kO s Cc ⟨[v],[]⟩ [("_law_script",v)])/\∀ base:Heap,K.In base->base.Ns bE mg->BM mg base->bG1 K ae1 base->FnOk l.prog w K mg base CX0 45 fa Cc ["_law_script"] (spB ae1 K):=by
 have J:PrOk (bg2 ae1 P K) (bx3 ae1 K) P mg w:=by
  refine⟨λ f d h=>aL0 (λ p hp=>?_) f d h,λ x d h=>aT5 ?_ x d h,λ x hx=>PySem.W.mg_none_of X G (hz x hx),cf9 X G,cg5,of_decide_eq_true tnd,λ _ _ h=>(by cases h)⟩
  .obtain⟨r,z,rfl⟩:=aK.mp hp
   exact good_of X G hT (hD r z) (cg4 r z)
  .intro p hp
   unfold cj6 at hp
   simp only[bn,or_false]at hp
 obtain⟨f,od,Z,sl,oc,kV,dc,pm,Y,ct,a,l0,c,k⟩:=hD ("law",DV.ac1,aB2) (List.mem_of_getElem? (i:=25) rfl)
 have e:=y.symm.trans (fA X G a)
 cases e
 have F:=bt6 (st:=aB2) l0 c k
 refine⟨_,λ s v=>.of_eq rfl,λ base _ _ bm hk=>(bZ8 J (bw3 hT bm hk) 13 (aN8 J (bw3 hT bm hk) (λ _=>rfl) 13) (d:=DV.ac1) (f := "law") rfl ⟨F,fA X G a,F.binds bQ0⟩ bv1 rfl rfl bR7 bd7).imp (λ vs H Q E q=>bX0 (λ ns h=>DV.ce6 (P:=P) 7 ns h) vs H Q E (bi0 hT q))⟩
end My
end
open PySem PySem.W PyProof.Rows
set_option maxRecDepth 100000 in
set_option maxHeartbeats 0 in
theorem PySem.Challenge.cw_leasttolls_k12_whole_least_tolls_holds : PySem.Challenge.rw_leasttolls_k12_whole_least_tolls.Holds := by
 refine My.GT.2 ?_
 delta My.GT
 dsimp only
 k_fill
 refine L2.bc0 (l:=PySem.Challenge.rw_leasttolls_k12_whole_least_tolls) (n:=63) (k:=45) (x := "_law_script") (sp:=L2.spB My.ae1) My.ae1 rfl (by decide) rfl ⟨rfl,by decide,by decide⟩ (λ w h Y=>⟨PySem.W.km_in_of Y,PySem.W.km_tabs_of Y⟩) (λ w=>?R) (λ w=>?NT) ?F (λ K H a ns hl hB hS hF=>L2.bX3 hl hB hS hF)
 case R=>kernel_rfl
 case NT=>kernel_rfl
 case F =>
  intro w mg fa h KX G hmg
  refine' My.bP6 KX G hmg ?hD ?hz ?hT ?tnd
  case hD=>unfold My.tb;repeat' first|exact My.fmn|refine My.fmc ?_ ?_|walk_at "df"
  case hz=>unfold L2.bNames;repeat' first|exact My.fmn|refine My.fmc ?_ ?_|k_is
  case hT=>unfold My.ae1;repeat' first|exact My.fmn|refine My.fmc ?_ ?_|kernel_rfl
  (case tnd=>kernel_rfl)
